/- Is a slice nil? And: what is known of a call in the older way. -/
import Derived.Test.YtlbldfdkicofdaaSxR
import Derived.Lib.LazyBuf
namespace Go.Sx
open Go.RowKit
set_option linter.unusedVariables false
set_option linter.unusedSimpArgs false
set_option linter.unusedSectionVars false
section
variable {P : Program} {f : Fr} {Q : Ending → World → Prop} {W : Base} {T : Tab} {k : List Item} {s : St}
/-- A slice is asked whether it is nil: both are gone through; a nil one is empty. -/
theorem SG.askNil (hT : TabOk P T) {ops : Array Oper} {i : Nat} {rest : List Nat} {o : Oper} {t ty e : TypeId} {tt : Ty} {x : Tmp} {r : Nat} {R : Row} {neg : Bool} (ho : ops.toList[i]? = some o) (hg : guardOf s.F ops.toList o = .yes)
    (hop : o.op = .binOp (if neg = true then .neq else .eql) t (.tmp x) (.const (.slice none 0 0)) ty) (ht : T.get t = some tt) (hk : tt.k = .slice e) (hx : s.get (.tmp x) = some (.cv (.one (.rs r)))) (hR : s.row r = some R)
    (h1 : R.len = 0 → SG P f Q W (.inRegion ops rest :: k) (s.put o.dst (.cv (.one (.lb (!neg)))))) (h2 : SG P f Q W (.inRegion ops rest :: k) (s.put o.dst (.cv (.one (.lb neg))))) : SG P f Q W (.inRegion ops (i :: rest) :: k) s := by
  refine ⟨fun ρ w a hm hf hdm => ?_⟩
  have hv := St.get_ok hf hx
  obtain ⟨v, hσ, hrow⟩ := hm.row r R (St.row_ok hR)
  obtain ⟨A, cap, rfl, hc, hcm, hn, _⟩ := hrow.form
  have he : a.eval (.tmp x) = .slice A R.len cap := by
    simp only [SV.rep, Cv.den, At.den, hσ] at hv
    injection hv with hv; exact hv.symm
  have hu := (hT t tt ht).slice hk
  have hrun : ((do eqGuard (if neg = true then .neq else .eql) t (.tmp x) (.const (.slice none 0 0)) (.slice A R.len cap) (.slice none 0 0); binOp (if neg = true then .neq else .eql) t (.slice A R.len cap) (.slice none 0 0)) : Sem Value).run P w = .ok (.bool (if neg = true then !A.isNone else A.isNone)) w := by
    have hgd : ∀ op, (eqGuard op t (.tmp x) (.const (.slice none 0 0)) (.slice A R.len cap) (.slice none 0 0)).run P w = .ok () w := fun op => by unfold eqGuard; split <;> rfl
    simp only [Sem.run_bind, hgd, Result.andThen_ok]
    cases neg
    · simpa using Go.run_eql_slice_nil w t e A R.len cap hu
    · simpa using Go.run_neq_slice_nil w t e A R.len cap hu
  refine Good.op (K := fun u w2 => u = .bool (if neg = true then !A.isNone else A.isNone) ∧ w2 = w) (by simpa using ho) (guardOf_yes hf hg) (by intro c; rw [hop]; simp) ?_ ?_
  · unfold Does
    have : (execOp a.eval o).run P w = .ok (.value (.bool (if neg = true then !A.isNone else A.isNone))) w := by
      unfold execOp
      rw [hop]
      simp only [he, show a.eval (.const (.slice none 0 0)) = .slice none 0 0 from rfl]
      rw [Sem.run_bind, hrun]
      rfl
    rw [this]
    exact ⟨rfl, rfl⟩
  · rintro u w2 ⟨rfl, rfl⟩
    cases A with
    | none =>
      have h0 : R.len = 0 := by have := hn rfl; omega
      refine (h1 h0).run ρ _ _ (hm.put _ _) (reps_put_any hf o (x := .cv (.one (.lb (!neg)))) ?_ s rfl) (hdm.put _ _)
      cases neg <;> rfl
    | some b =>
      refine h2.run ρ _ _ (hm.put _ _) (reps_put_any hf o (x := .cv (.one (.lb neg))) ?_ s rfl) (hdm.put _ _)
      cases neg <;> rfl
theorem CallOk.of_true {B : List (Option (List At))} {Rs : List (Option Row)} {g : FuncId} {fn : Func} (hf : P.funcs[g]? = some fn) (hn : (fn.name == "runtime.NumGoroutine") = false) (hb : fn.body.isNone = false)
    (h : ∀ w, Calls P g #[] w fun e w' => e = .returned (.bool true) ∧ Below w.heap.size w w') : CallOk P W B Rs g [] (mkHd (.cv (.one (.lb true))) []) := by
  refine ⟨⟨fn, hf, hn, hb⟩, fun s' ρ w vs hm _ _ _ hr => ?_⟩
  match vs, hr with
  | [], _ =>
    refine Calls.mono (h w) fun e w' ⟨he, hb⟩ => ?_
    subst he
    refine ⟨.bool true, [], rfl, ⟨hb.os, hb.tape, hb.output, hb.size, fun k hk _ => hb.block k hk⟩, ⟨rfl, fun k R u hR => by simp [mkHd] at hR, fun k k' R R' u u' b _ hR => by simp [mkHd] at hR⟩, fun n ρ' _ _ => rfl⟩
end
end Go.Sx
