/- Images as arguments: opened. -/
import Derived.Test.YtmifdcanokpkiaaLdD
import Derived.Test.YtmifdcanokpkiaaSxR
import Derived.Test.YtmifdcanokpkiaaFrameU
import Derived.OpenShut
namespace Go.Proofs.Ytmifdcanokpkiaa
open Go.Sx Go.RowKit Go.ChangeShapes Go.WideShapes Go.ChangeAt Go.Joins Go.Deep
set_option linter.unusedVariables false
set_option linter.unusedSimpArgs false
section
variable {H : Type} {enc : TypeId × Value → H} {W : World} {r : Reach} {b0 base : Nat} {spare : Nat → Bool} {held : Bool}
theorem cS : Try.prog.cellsOf 9 = 1 := by kernel_rfl
theorem cRs : Try.prog.cellsOf 28 = 1 := by kernel_rfl
theorem openRows {v : Value} {dd : DataW H} {p : List MemPlace} (hv : Value.okWide Try.prog W r b0 22 v) (h : DataW.Trod enc Try.prog W base spare held 22 v dd p) :
    ∃ (A : Option Addr) (n c : Nat) (S : List RS), v = .slice A n c ∧ RowsIn W (.slice A n c) S := by
  obtain ⟨fuel, hf⟩ := h
  obtain ⟨c, S, hc, hr, _⟩ := open_rowsX sC sG sDen (fun _ _ => True) s0 Try.underlying22 Try.underlying28 cRs cS (fun _ => rfl) (by omega) (fun n cs y h => by
    obtain ⟨s, e, _⟩ := DataW.trod_string Try.underlying9 h
    exact ⟨s, e, trivial⟩) hf
  obtain ⟨A', n', cap', rfl⟩ := okWide_slice Try.underlying22 hv
  have hc' : Value.slice A' n' cap' = c := by simpa [Value.cells] using hc
  subst hc'
  exact ⟨A', n', cap', S, rfl, hr⟩
end
end Go.Proofs.Ytmifdcanokpkiaa
