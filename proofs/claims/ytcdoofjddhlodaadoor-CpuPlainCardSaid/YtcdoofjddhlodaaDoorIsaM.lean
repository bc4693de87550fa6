/- Plain facts: masks and joins of bits; when a word's parts are its instruction. -/
import Derived.Test.YtcdoofjddhlodaaDoorIsaB
import Derived.Test.YtcdoofjddhlodaaDoorIsaC
namespace Go.Proofs.YtcdoofjddhlodaaDoor
open Go.RowKit

/-- The low i bits of whatever number. -/
theorem bits_low (k : IntKind) (i : Nat) (hi : i < k.bits) (hk : ∀ n : Int, 0 ≤ n → n < 2 ^ i → k.wrap n = n) (x : Int) : bits .and k x (2 ^ i - 1) = x % 2 ^ i := by
  have hpos : 0 < 2 ^ i := Nat.two_pow_pos i
  have hc : ((2 : Int) ^ i - 1) = ((2 ^ i - 1 : Nat) : Int) := by
    rw [Int.natCast_sub hpos]; simp
  have hlt : 2 ^ i - 1 < 2 ^ k.bits := Nat.lt_of_lt_of_le (Nat.sub_lt hpos (by decide)) (Nat.pow_le_pow_right (by decide) (Nat.le_of_lt hi))
  have hd : (2 : Int) ^ i ∣ 2 ^ k.bits := ⟨2 ^ (k.bits - i), by rw [← Int.pow_add]; congr 1; omega⟩
  have e : ((BitVec.ofInt k.bits x).toNat : Int) = x % 2 ^ k.bits := by
    rw [BitVec.toNat_ofInt, Int.toNat_of_nonneg (Int.emod_nonneg _ (by have := Nat.two_pow_pos k.bits; exact_mod_cast (by omega : (2 ^ k.bits : Nat) ≠ 0)))]
    simp
  have e2 : (((BitVec.ofInt k.bits x).toNat &&& (2 ^ i - 1) : Nat) : Int) = x % 2 ^ i := by
    rw [Nat.and_two_pow_sub_one_eq_mod]
    push_cast
    rw [e]
    exact Int.emod_emod_of_dvd x hd
  rw [hc]
  simp only [bits, BitVec.ofInt_natCast, BitVec.toNat_and, BitVec.toNat_ofNat, Nat.mod_eq_of_lt hlt]
  rw [e2]
  refine hk _ (Int.emod_nonneg _ ?_) (Int.emod_lt_of_pos _ ?_)
  · have : (0 : Int) < 2 ^ i := by exact_mod_cast hpos
    omega
  · exact_mod_cast hpos

theorem and7 (x : Int) : bits .and .i64 x 7 = x % 8 := bits_low .i64 3 (by decide) (fun n h h' => by rw [IntKind.wrap_i64]; omega) x

theorem wrap_i16 (n : Int) : IntKind.i16.wrap n = (n + 32768) % 65536 - 32768 := by
  simp only [IntKind.wrap, IntKind.bits, IntKind.signed]
  simp
  split <;> omega

theorem may_eq (o a b i : Int) : mayB o a b i = rMay o a b i := by
  rw [Bool.eq_iff_iff]
  by_cases ho : 1 ≤ o ∧ o ≤ 24
  · obtain ⟨h1, h2⟩ := ho
    have hcases : o = 1 ∨ o = 2 ∨ o = 3 ∨ o = 4 ∨ o = 5 ∨ o = 6 ∨ o = 7 ∨ o = 8 ∨ o = 9 ∨ o = 10 ∨ o = 11 ∨ o = 12 ∨ o = 13 ∨ o = 14 ∨ o = 15 ∨ o = 16 ∨ o = 17 ∨ o = 18 ∨ o = 19 ∨ o = 20 ∨ o = 21 ∨ o = 22 ∨ o = 23 ∨ o = 24 := by omega
    have f1 : bits .and .i64 1 1 = 1 := by decide
    rcases hcases with rfl | rfl | rfl | rfl | rfl | rfl | rfl | rfl | rfl | rfl | rfl | rfl | rfl | rfl | rfl | rfl | rfl | rfl | rfl | rfl | rfl | rfl | rfl | rfl <;>
      simp [mayB, mayIn, insEq, fitA, fitB, fitI, usesL, rMay, rA, rB, rImm, and7, wrap64, wrap_i16, show bits .and .i64 5 1 = 1 by decide, show bits .and .i64 3 1 = 1 by decide, show bits .and .i64 7 1 = 1 by decide, show bits .and .i64 4 1 = 0 by decide, f1, show bits .and .i64 0 1 = 0 by decide,
        show bits .and .i64 5 2 = 0 by decide, show bits .and .i64 3 2 = 2 by decide, show bits .and .i64 7 2 = 2 by decide, show bits .and .i64 4 2 = 0 by decide, show bits .and .i64 1 2 = 0 by decide, show bits .and .i64 0 2 = 0 by decide,
        show bits .and .i64 5 4 = 4 by decide, show bits .and .i64 3 4 = 0 by decide, show bits .and .i64 7 4 = 4 by decide, show bits .and .i64 4 4 = 4 by decide, show bits .and .i64 1 4 = 0 by decide, show bits .and .i64 0 4 = 0 by decide] <;> omega
  · simp only [mayB, rMay, Bool.and_eq_true, decide_eq_true_eq]
    constructor
    · rintro ⟨h1, h2, _⟩; omega
    · rintro ⟨h1, h2, _⟩; omega
end Go.Proofs.YtcdoofjddhlodaaDoor
