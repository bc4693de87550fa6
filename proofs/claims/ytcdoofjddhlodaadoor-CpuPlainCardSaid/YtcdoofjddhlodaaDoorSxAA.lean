/- Bytes and strings: string(b), append(b, s...). -/
import Derived.Test.YtcdoofjddhlodaaDoorSxY
import Derived.Test.YtcdoofjddhlodaaDoorSxR
import Derived.Laws.IdiomStrings
import Derived.Lib.BufferRead
namespace Go.Sx
open Go.RowKit
set_option linter.unusedVariables false
set_option linter.unusedSimpArgs false
set_option linter.unusedSectionVars false
section
variable {P : Program} {f : Fr} {Q : Ending → World → Prop} {W : Base} {T : Tab} {k : List Item} {s : St}
/-- string(b): what b's cells read as. -/
theorem SG.convBytes (hT : TabOk P T) (l : List UInt8) {ops : Array Oper} {i : Nat} {rest : List Nat} {o : Oper} {src dst e : TypeId} {ts td te : Ty} {x : Operand} {r : Nat} {R : Row}
    (h1 : ops.toList[i]? = some o) (g1 : o.guard = none) (p1 : o.op = .convert src dst x) (hs : T.get src = some ts) (hk : ts.k = .slice e) (he : T.get e = some te) (hke : te.k = .int .u8) (hd : T.get dst = some td) (hkd : td.k = .str)
    (hx : s.get x = some (.cv (.one (.rs r)))) (hR : s.row r = some R) (hRs : R.sz = 1) (hlen : R.len = l.length) (hc : ∀ j (h : j < l.length), R.cells j = [.v (.int .u8 (l[j].toNat : Int))])
    (h : SG P f Q W (.inRegion ops rest :: k) (s.put o.dst (.cv (.one (.v (.string ⟨l.toArray⟩)))))) : SG P f Q W (.inRegion ops (i :: rest) :: k) s := by
  refine ⟨fun ρ w a hm hf hdm => ?_⟩
  have hv := St.get_ok hf hx
  obtain ⟨v, hσ, hrow⟩ := hm.row r R (St.row_ok hR)
  obtain ⟨A, cap, rfl, hcc, hcm, hnn, htt, hcell, hownf⟩ := hrow.form
  have ex : a.eval x = .slice A R.len cap := by
    simp only [SV.rep, Cv.den, At.den, hσ] at hv
    injection hv with hv; exact hv.symm
  have hus := (hT _ _ hs).slice hk
  have hue := (hT _ _ he).int hke
  have hud := (hT _ _ hd).str hkd
  have hconv : (convert src dst (.slice A R.len cap)).run P w = .ok (.string ⟨l.toArray⟩) w := by
    cases A with
    | none =>
      have hc0 := hnn rfl
      have h0 : R.len = 0 := by omega
      have hl0 : l = [] := List.eq_nil_of_length_eq_zero (by omega)
      rw [h0, hl0]
      exact Go.Lib.run_convert_nil_bytes w src dst e cap hus hue hud
    | some ad =>
      rw [hlen]
      refine run_convert_bytes_back w src dst e ad cap l hus hue hud fun j hj => ?_
      obtain ⟨b, oo, eA, _, hcl⟩ := hcell (by omega)
      injection eA with eA; subst eA
      have hd1 : dens ρ (R.cells j) = some [.int .u8 (l[j].toNat : Int)] := by
        rw [hc j hj]; rfl
      have := hcl j _ (by omega) hd1 0 _ rfl
      rw [hRs, Nat.mul_one, Nat.add_zero] at this
      rw [show (Addr.add ⟨b, oo, none⟩ j) = ⟨b, oo + j, none⟩ from add_none' ..]
      exact this
  have hrun : (execOp a.eval o).run P w = .ok (.value (.string ⟨l.toArray⟩)) w := by
    unfold execOp
    rw [p1]
    simp only [Sem.run_bind, ex, hconv, Result.andThen_ok]
    rfl
  refine Good.op (K := fun u w2 => u = .string ⟨l.toArray⟩ ∧ w2 = w) (by simpa using h1) (by simp [Region.wanted, g1]) (by intro c; rw [p1]; simp) ?_ ?_
  · unfold Does
    rw [hrun]
    exact ⟨rfl, rfl⟩
  · rintro u w2 ⟨rfl, rfl⟩
    exact h.run ρ _ _ (hm.put _ _) (reps_put_any hf o (v := .string ⟨l.toArray⟩) (x := .cv (.one (.v (.string ⟨l.toArray⟩)))) rfl s rfl) (hdm.put _ _)
end
end Go.Sx
