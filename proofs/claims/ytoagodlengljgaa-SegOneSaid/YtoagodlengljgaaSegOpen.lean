/- The laws' structs, opened. -/
import Derived.Test.YtoagodlengljgaaFrameU
import Derived.Test.YtoagodlengljgaaSegN
namespace Go.Proofs.Ytoagodlengljgaa
open Go.ChangeShapes Go.WideShapes Go.ChangeAt Go.RowKit Go.Joins
set_option linter.unusedVariables false
theorem cellsStr : Try.prog.cellsOf 9 = 1 := by kernel_rfl

theorem openSegBackIn {H : Type} {enc : TypeId × Value → H} {W : World} {r : Reach} {b0 base : Nat} {spare : Nat → Bool} {held : Bool} {v : Value} {d : DataW H} {p : List MemPlace}
    (hv : Value.okWide Try.prog W r b0 42 v) (h : DataW.Trod enc Try.prog W base spare held 42 v d p) :
    ∃ (m : ByteArray) (a o : Nat) (x : Int), v = inV m a x o ∧ d = .agg [.lit (.string m.data.toList), .lit (.int .u32 a), .lit (.int .u32 x), .lit (.int .u32 o)] ∧ (a : Int) < 4294967296 ∧ (o : Int) < 4294967296 ∧ 0 ≤ x ∧ x < 4294967296 := by
  obtain ⟨c0, c1, c2, c3, y0, y1, y2, y3, m, rfl, rfl, rfl, hy0, hy1, hy2, hy3⟩ := open_agg4 Try.underlying42 (by kernel_rfl) (by kernel_rfl) hv h
  obtain ⟨s, e0, rfl, _⟩ := DataW.trod_string Try.underlying9 hy0
  obtain ⟨a, e1, rfl, w1⟩ := DataW.trod_int Try.underlying22 hy1
  obtain ⟨b, e2, rfl, w2⟩ := DataW.trod_int Try.underlying22 hy2
  obtain ⟨i, e3, rfl, w3⟩ := DataW.trod_int Try.underlying22 hy3
  simp at e0 e1 e2 e3
  subst e0 e1 e2 e3
  obtain ⟨l1, g1⟩ := u32_bounds w1
  obtain ⟨l2, g2⟩ := u32_bounds w2
  obtain ⟨l3, g3⟩ := u32_bounds w3
  obtain ⟨a, rfl⟩ := Int.eq_ofNat_of_zero_le l1
  obtain ⟨i, rfl⟩ := Int.eq_ofNat_of_zero_le l3
  exact ⟨s, a, i, b, rfl, rfl, g1, g3, l2, g2⟩
theorem sizeSegBackIn {H : Type} {m : ByteArray} {y1 y2 y3 : DataW H} (h : (DataW.weightsEach Try.prog [42] [.agg [.lit (.string m.data.toList), y1, y2, y3]]).all (· ≤ reachBytes) = true) : m.size ≤ 140737488351232 := by
  have := List.all_eq_true.1 h m.data.toList.length (by simp [DataW.weightsEach, DataW.weights, Try.underlying42])
  rw [Lib.size_eq]
  exact of_decide_eq_true this

theorem openSegOneIn {H : Type} {enc : TypeId × Value → H} {W : World} {r : Reach} {b0 base : Nat} {spare : Nat → Bool} {held : Bool} {v : Value} {d : DataW H} {p : List MemPlace}
    (hv : Value.okWide Try.prog W r b0 46 v) (h : DataW.Trod enc Try.prog W base spare held 46 v d p) :
    ∃ (m : ByteArray) (a o : Nat) (x : Int), v = inV m a x o ∧ d = .agg [.lit (.string m.data.toList), .lit (.int .u32 a), .lit (.int .u32 x), .lit (.int .u32 o)] ∧ (a : Int) < 4294967296 ∧ (o : Int) < 4294967296 ∧ 0 ≤ x ∧ x < 4294967296 := by
  obtain ⟨c0, c1, c2, c3, y0, y1, y2, y3, m, rfl, rfl, rfl, hy0, hy1, hy2, hy3⟩ := open_agg4 Try.underlying46 (by kernel_rfl) (by kernel_rfl) hv h
  obtain ⟨s, e0, rfl, _⟩ := DataW.trod_string Try.underlying9 hy0
  obtain ⟨a, e1, rfl, w1⟩ := DataW.trod_int Try.underlying22 hy1
  obtain ⟨b, e2, rfl, w2⟩ := DataW.trod_int Try.underlying22 hy2
  obtain ⟨i, e3, rfl, w3⟩ := DataW.trod_int Try.underlying22 hy3
  simp at e0 e1 e2 e3
  subst e0 e1 e2 e3
  obtain ⟨l1, g1⟩ := u32_bounds w1
  obtain ⟨l2, g2⟩ := u32_bounds w2
  obtain ⟨l3, g3⟩ := u32_bounds w3
  obtain ⟨a, rfl⟩ := Int.eq_ofNat_of_zero_le l1
  obtain ⟨i, rfl⟩ := Int.eq_ofNat_of_zero_le l3
  exact ⟨s, a, i, b, rfl, rfl, g1, g3, l2, g2⟩
theorem sizeSegOneIn {H : Type} {m : ByteArray} {y1 y2 y3 : DataW H} (h : (DataW.weightsEach Try.prog [46] [.agg [.lit (.string m.data.toList), y1, y2, y3]]).all (· ≤ reachBytes) = true) : m.size ≤ 140737488351232 := by
  have := List.all_eq_true.1 h m.data.toList.length (by simp [DataW.weightsEach, DataW.weights, Try.underlying46])
  rw [Lib.size_eq]
  exact of_decide_eq_true this
end Go.Proofs.Ytoagodlengljgaa
