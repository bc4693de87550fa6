/- The document's Out, In. -/
import Derived.Test.YtoagodlengljgaaSegC
import Derived.Test.YtoagodlengljgaaSegB2
namespace Go.Proofs.Ytoagodlengljgaa
open Go.RowKit
set_option linter.unusedVariables false

set_option maxHeartbeats 400000 in
theorem rOut_any (m : ByteArray) (a n : Nat) (w : World) (h1 : (a : Int) < 4294967296) (h2 : (n : Int) < 4294967296) (hm : m.size ≤ 140737488351232) :
    Calls Try.prog 20 #[.string m, .int .u32 a, .int .u32 n] w fun e w' => e = .returned (if a + n ≤ m.size then .tuple #[.string (cutB m a n), .int .i64 0] else .tuple #[.string ⟨#[]⟩, .int .i64 10]) ∧ w = w' := by
  by_cases hs : a + n ≤ m.size
  · have hd : decide ((a : Int) + (n : Int) ≤ (m.size : Int)) = true := by simp; omega
    rw [if_pos hs]
    go_enter Try.func20, Try.ntmps20
    go_wp2_with ((go_at_call 26; refine (fits_any _ _ _ _ (by omega) (by omega) (by omega) (by omega) (by omega)).mono ?_; rintro e w' ⟨rfl, rfl⟩))
    all_goals go_ret2
    all_goals exact ⟨rfl, rfl⟩
  · have hd : decide ((a : Int) + (n : Int) ≤ (m.size : Int)) = false := by simp; omega
    rw [if_neg hs]
    go_enter Try.func20, Try.ntmps20
    go_wp2_with ((go_at_call 26; refine (fits_any _ _ _ _ (by omega) (by omega) (by omega) (by omega) (by omega)).mono ?_; rintro e w' ⟨rfl, rfl⟩))
    all_goals go_ret2
    all_goals exact ⟨rfl, rfl⟩

set_option maxHeartbeats 400000 in
theorem rIn_any (m s : ByteArray) (a : Nat) (w : World) (h1 : (a : Int) < 4294967296) (hm : m.size ≤ 140737488351232) (hs' : s.size ≤ 140737488351232) :
    Calls Try.prog 22 #[.string m, .int .u32 a, .string s] w fun e w' => e = .returned (if a + s.size ≤ m.size then .tuple #[.string (splB m a s), .int .i64 0] else .tuple #[.string m, .int .i64 10]) ∧ Below w.heap.size w w' := by
  by_cases hs : a + s.size ≤ m.size
  · have hd : decide ((a : Int) + (s.size : Int) ≤ (m.size : Int)) = true := by simp; omega
    have hx1 : (m.extract 0 a).size = a := by simp; omega
    have hx2 : (m.extract (a + s.size) m.size).size = m.size - (a + s.size) := by simp
    have ha1 := fun W => run_string_add_sum (P := Try.prog) W (m.extract 0 a) s (by rw [hx1]; omega)
    have ha2 := fun W => run_string_add_sum (P := Try.prog) W (m.extract 0 a ++ s) (m.extract (a + s.size) m.size) (by rw [ByteArray.size_append, hx1, hx2]; omega)
    clear hx1 hx2
    have h6 : a ≤ m.size := by omega
    rw [if_pos hs]
    go_enter Try.func22, Try.ntmps22
    go_wp2_with ((go_at_call 26; refine (fits_any _ _ _ _ (by omega) (by omega) (by omega) (by omega) (by omega)).mono ?_; rintro e w' ⟨rfl, rfl⟩))
    go_region
    all_goals go_wp2
    all_goals go_ret2
    all_goals exact ⟨ret2 (str_eq (spl_sum m a s hs)) rfl, (Below.refl _ _).drew⟩
  · have hd : decide ((a : Int) + (s.size : Int) ≤ (m.size : Int)) = false := by simp; omega
    rw [if_neg hs]
    go_enter Try.func22, Try.ntmps22
    go_wp2_with ((go_at_call 26; refine (fits_any _ _ _ _ (by omega) (by omega) (by omega) (by omega) (by omega)).mono ?_; rintro e w' ⟨rfl, rfl⟩))
    all_goals go_ret2
    all_goals exact ⟨rfl, Below.refl _ _⟩
end Go.Proofs.Ytoagodlengljgaa
