/- What SegRows is asked of: opened. -/
import Derived.Test.YtoagodlengljgaaSegR
import Derived.Test.YtoagodlengljgaaFrameU
import Derived.OpenShut
namespace Go.Proofs.Ytoagodlengljgaa
open Go.Sx Go.RowKit Go.ChangeShapes Go.WideShapes Go.ChangeAt Go.Joins Go.Deep
set_option linter.unusedVariables false
set_option linter.unusedSimpArgs false
section
variable {H : Type} {enc : TypeId × Value → H} {W : World} {r : Reach} {b0 base : Nat} {spare : Nat → Bool} {held : Bool}
theorem cI : Try.prog.cellsOf 3 = 1 := by kernel_rfl
theorem cS : Try.prog.cellsOf 9 = 1 := by kernel_rfl
theorem cU : Try.prog.cellsOf 22 = 1 := by kernel_rfl
theorem openRows {v : Value} {dd : DataW H} {p : List MemPlace} (hv : Value.okWide Try.prog W r b0 35 v) (h : DataW.Trod enc Try.prog W base spare held 35 v dd p)
    (hsz : (DataW.weightsEach Try.prog [35] [dd]).all (· ≤ reachBytes) = true) :
    ∃ (m s : ByteArray) (a n : Nat) (z : Int), v = .agg #[.string m, .int .u32 a, .int .u32 n, .string s, .int .i64 z] ∧ (a : Int) < 4294967296 ∧ (n : Int) < 4294967296 ∧ m.size ≤ 140737488351232 ∧ s.size ≤ 140737488351232 := by
  obtain ⟨cs, ys, k, rfl, hc, hy, rfl, hg⟩ := open_structX Try.underlying35 hv h
  rw [show Try.prog.cellsOf 35 = 5 by kernel_rfl] at hc
  match cs, hc, ys, hy with
  | [c0, c1, c2, c3, c4], _, [y0, y1, y2, y3, y4], _ =>
    obtain ⟨m, e0, q0, _⟩ := DataW.trod_string Try.underlying9 (show DataW.trod enc Try.prog W base spare held k 9 [c0] = some y0 by simpa [cS] using hg 0 _ _ rfl rfl)
    obtain ⟨a, e1, q1, w1⟩ := DataW.trod_int Try.underlying22 (show DataW.trod enc Try.prog W base spare held k 22 [c1] = some y1 by simpa [cU] using hg 1 _ _ rfl rfl)
    obtain ⟨n, e2, q2, w2⟩ := DataW.trod_int Try.underlying22 (show DataW.trod enc Try.prog W base spare held k 22 [c2] = some y2 by simpa [cU] using hg 2 _ _ rfl rfl)
    obtain ⟨s, e3, q3, _⟩ := DataW.trod_string Try.underlying9 (show DataW.trod enc Try.prog W base spare held k 9 [c3] = some y3 by simpa [cS] using hg 3 _ _ rfl rfl)
    obtain ⟨z, e4, q4, w4⟩ := DataW.trod_int Try.underlying3 (show DataW.trod enc Try.prog W base spare held k 3 [c4] = some y4 by simpa [cI] using hg 4 _ _ rfl rfl)
    simp at e0 e1 e2 e3 e4
    subst e0 e1 e2 e3 e4
    obtain ⟨l1, u1⟩ := u32_bounds w1
    obtain ⟨l2, u2⟩ := u32_bounds w2
    obtain ⟨a, rfl⟩ := Int.eq_ofNat_of_zero_le l1
    obtain ⟨n, rfl⟩ := Int.eq_ofNat_of_zero_le l2
    subst q0 q3
    have hs1 := Go.Sx.sized_aggX hsz (j := 0) rfl rfl Try.underlying35
    refine ⟨m, s, a, n, z, rfl, u1, u2, ?_, ?_⟩
    · rw [Lib.size_eq]; exact sized_string hs1 (j := 0) rfl rfl
    · rw [Lib.size_eq]; exact sized_string hs1 (j := 3) rfl rfl
end
end Go.Proofs.Ytoagodlengljgaa
