/- An end of a pipe as an argument: opened. -/
import Derived.Test.YtlhjlomfpgmdmaaPxO
namespace Go.Proofs.Ytlhjlomfpgmdmaa
open Go.Sx Go.RowKit Go.ChangeShapes Go.WideShapes Go.ChangeAt Go.Joins Go.Deep
set_option linter.unusedVariables false
theorem openEnd {H : Type} {enc : TypeId × Value → H} {W : World} {r : Reach} {b0 base : Nat} {spare : Nat → Bool} {held : Bool} {v : Value} {dd : DataW H} {p : List MemPlace}
    (hv : Value.okWide Try.prog W r b0 38 v) (h : DataW.Trod enc Try.prog W base spare held 38 v dd p) :
    ∃ (x : Int) (b : Bool), v = .agg #[.int .i64 x, .bool b] ∧ dd = .agg [.lit (.int .i64 x), .lit (.bool b)] ∧ -9223372036854775808 ≤ x ∧ x ≤ 9223372036854775807 := by
  obtain ⟨cs, ys, n, rfl, hc, hy, rfl, hg⟩ := open_structX Try.underlying38 hv h
  rw [show Try.prog.cellsOf 38 = 2 by kernel_rfl] at hc
  match cs, hc, ys, hy with
  | [c0, c1], _, [y0, y1], _ =>
    obtain ⟨x, e0, q0, b0⟩ := intCell (cs := [c0]) (by simpa [show Try.prog.cellsOf 3 = 1 by kernel_rfl] using hg 0 _ _ rfl rfl)
    obtain ⟨b, e1, q1⟩ := DataW.trod_bool Try.underlying4 (hg 1 _ _ rfl rfl)
    simp at e0 e1
    simp [show Try.prog.cellsOf 4 = 1 by kernel_rfl] at e1
    subst e0 e1
    exact ⟨x, b, rfl, by simp [q0, q1], b0⟩
end Go.Proofs.Ytlhjlomfpgmdmaa
