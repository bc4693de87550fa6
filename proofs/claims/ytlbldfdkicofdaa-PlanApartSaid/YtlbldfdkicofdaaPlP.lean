/- Plans in rows of one's own. -/
import Derived.Test.YtlbldfdkicofdaaPlC
import Derived.Test.YtlbldfdkicofdaaPlS
namespace Go.Proofs.Ytlbldfdkicofdaa
open Go.Sx Go.RowKit
set_option linter.unusedVariables false
set_option linter.unusedSimpArgs false
theorem hdSame {P : Program} {W : Base} {B : List (Option (List At))} {Rs : List (Option Row)} {g : FuncId} {args : List SV} {res res' : SV} (H : CallOk P W B Rs g args (mkHd res []))
    (h : ∀ ρ v, (res.ren [] []).rep ρ v → (res'.ren [] []).rep ρ v) : CallOk P W B Rs g args (mkHd res' []) := by
  refine ⟨H.can, fun s' ρ w vs hm hR hB hk hr => Calls.mono (H.does s' ρ w vs hm hR hB hk hr) ?_⟩
  rintro e w' ⟨v, vals, he, hg, hn, hv⟩
  exact ⟨v, vals, he, hg, hn, fun n ρ' hle hs => h ρ' v (hv n ρ' hle hs)⟩
theorem hdV_of {P : Program} {W : Base} {B : List (Option (List At))} {Rs : List (Option Row)} {g : FuncId} {args : List SV} {b : Bool} (H : CallOk P W B Rs g args (hdB b)) : CallOk P W B Rs g args (hdV b) := hdSame H fun ρ v h => h
theorem hdB_of {P : Program} {W : Base} {B : List (Option (List At))} {Rs : List (Option Row)} {g : FuncId} {args : List SV} {b c : Bool} (H : CallOk P W B Rs g args (hdV b)) (e : b = c) : CallOk P W B Rs g args (hdB c) := by
  subst e
  exact hdSame H fun ρ v h => h
section
variable {W : Base} {B : List (Option (List At))} {Rs : List (Option Row)}
/-- A plan of one schedule, in rows of one's own. -/
structure ExAt (Rs : List (Option Row)) (a k b c : Nat) (P : List Pa) (L : List Wn) : Prop where
  ra : ∃ R, Rs[a]? = some (some R) ∧ RowLe R (rowPa P)
  rk : ∃ R, Rs[k]? = some (some R) ∧ RowLe R (rowL 3 wnC wn0 L)
  rb : ∃ R, Rs[b]? = some (some R) ∧ RowLe R ⟨1, 1, fun i => [.rs ([k].getD i 0)], none, false, false⟩
  rc : ∃ R, Rs[c]? = some (some R) ∧ RowLe R (rowCh [])
theorem oneS {S : List RW} {L : List Wn} (h : S.map RV.L = [L]) : ∃ c, S = [⟨c, L⟩] := by
  match S, h with
  | [⟨c, M⟩], h =>
    simp at h
    exact ⟨c, by rw [h]⟩
  | a :: b :: l, h => simp at h
theorem exOwn {a k b c : Nat} {F : Int} {P : List Pa} {L : List Wn} {f : FuncId} {fn : Func} (hF : Try.prog.funcs[f]? = some fn) (hname : (fn.name == "runtime.NumGoroutine") = false) (hbody : fn.body.isNone = false) (h : ExAt Rs a k b c P L) {l l' : List SV} {res : SV} (hargs : (planV 0 F 1 2 :: l).map (SV.ren [] [a, b, c]) = l') (hin : ((planV 0 F 1 2 :: l).all (SV.inn 0 3) && (planV 0 F 1 2 :: l).all SV.noRo) = true) (hres : (res.inn 0 0 && res.noRo) = true)
    (H : ∀ x W', CallOk Try.prog W' [] [some (rowPa P), some (rowWs [⟨x, L⟩]), some (rowCh [])] f (planV 0 F 1 2 :: l) (mkHd res [])) :
    CallOk Try.prog W B Rs f l' (mkHd res []) := by
  obtain ⟨Ra, ha, hla⟩ := h.ra
  obtain ⟨Rk, hk, hlk⟩ := h.rk
  obtain ⟨Rb, hb, hlb⟩ := h.rb
  obtain ⟨Rc, hc, hlc⟩ := h.rc
  refine CallOk.ownRows (f := wnC) (g := wnG) (x0 := wn0) (sz := 3) wnDen (fun _ => rfl) (fun _ => rfl) hF hname hbody ha hla rfl rfl (fun _ _ => rfl) hc hlc rfl rfl (fun _ _ => rfl) [k] [L] rfl hb hlb ?_ hargs hin hres ?_
  · intro i hi
    obtain rfl : i = 0 := by simp at hi; exact hi
    exact ⟨Rk, hk, hlk⟩
  · intro S hS W'
    obtain ⟨c, rfl⟩ := oneS hS
    exact H c W'
theorem exCheck {a k b c : Nat} {F e : Int} {P : List Pa} {L : List Wn} (h : ExAt Rs a k b c P L) (hS : ∀ w ∈ L, okWn w) (he : ∀ x, chk P F [⟨x, L⟩] [] = e) : CallOk Try.prog W B Rs 8 [planV a F b c] (hdInt e) :=
  exOwn Try.func8 (by kernel_rfl) rfl h (l := []) rfl rfl rfl fun x W' => by
    have := checkC (W := W') (B := []) (Rs := [some (rowPa P), some (rowWs [⟨x, L⟩]), some (rowCh [])]) (F := F) (thereP (a := 0) (b := 1) (c := 2) rfl rfl rfl) (fun r hr w hw => by
      simp at hr; subst hr
      exact hS w hw)
    rw [he] at this
    exact this
end
end Go.Proofs.Ytlbldfdkicofdaa
