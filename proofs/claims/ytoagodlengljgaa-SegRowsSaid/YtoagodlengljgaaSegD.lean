/- The contracts of memories, a branch each. -/
import Derived.Test.YtoagodlengljgaaSegC2
namespace Go.Proofs.Ytoagodlengljgaa
open Go.RowKit
set_option linter.unusedVariables false

theorem byte_yes (m : ByteArray) (a : Nat) (w : World) (h1 : (a : Int) < 4294967296) (hm : m.size ≤ 140737488351232) (hc : a < m.size) :
    Calls Try.prog 15 #[.string m, .int .u32 a] w fun e w' => e = .returned (.tuple #[.int .u32 (byteV m a), .int .i64 0]) ∧ w = w' := by
  have h := byte_any m a w h1 hm
  rw [if_pos hc] at h
  exact h
theorem byte_no (m : ByteArray) (a : Nat) (w : World) (h1 : (a : Int) < 4294967296) (hm : m.size ≤ 140737488351232) (hc : ¬ a < m.size) :
    Calls Try.prog 15 #[.string m, .int .u32 a] w fun e w' => e = .returned (.tuple #[.int .u32 0, .int .i64 10]) ∧ w = w' := by
  have h := byte_any m a w h1 hm
  rw [if_neg hc] at h
  exact h
theorem out_yes (m : ByteArray) (a n : Nat) (w : World) (h1 : (a : Int) < 4294967296) (h2 : (n : Int) < 4294967296) (hm : m.size ≤ 140737488351232) (hc : a + n ≤ m.size) :
    Calls Try.prog 19 #[.string m, .int .u32 a, .int .u32 n] w fun e w' => e = .returned (.tuple #[.string (cutB m a n), .int .i64 0]) ∧ w = w' := by
  have h := out_any m a n w h1 h2 hm
  rw [if_pos hc] at h
  exact h
theorem out_no (m : ByteArray) (a n : Nat) (w : World) (h1 : (a : Int) < 4294967296) (h2 : (n : Int) < 4294967296) (hm : m.size ≤ 140737488351232) (hc : ¬ a + n ≤ m.size) :
    Calls Try.prog 19 #[.string m, .int .u32 a, .int .u32 n] w fun e w' => e = .returned (.tuple #[.string ⟨#[]⟩, .int .i64 10]) ∧ w = w' := by
  have h := out_any m a n w h1 h2 hm
  rw [if_neg hc] at h
  exact h
theorem in_yes (m s : ByteArray) (a : Nat) (w : World) (h1 : (a : Int) < 4294967296) (hm : m.size ≤ 140737488351232) (hs : s.size ≤ 140737488351232) (hc : a + s.size ≤ m.size) :
    Calls Try.prog 21 #[.string m, .int .u32 a, .string s] w fun e w' => e = .returned (.tuple #[.string (splB m a s), .int .i64 0]) ∧ Below w.heap.size w w' := by
  have h := in_any m s a w h1 hm hs
  rw [if_pos hc] at h
  exact h
theorem in_no (m s : ByteArray) (a : Nat) (w : World) (h1 : (a : Int) < 4294967296) (hm : m.size ≤ 140737488351232) (hs : s.size ≤ 140737488351232) (hc : ¬ a + s.size ≤ m.size) :
    Calls Try.prog 21 #[.string m, .int .u32 a, .string s] w fun e w' => e = .returned (.tuple #[.string m, .int .i64 10]) ∧ Below w.heap.size w w' := by
  have h := in_any m s a w h1 hm hs
  rw [if_neg hc] at h
  exact h
theorem put_yes (m : ByteArray) (a : Nat) (v : Int) (w : World) (h1 : (a : Int) < 4294967296) (hv0 : 0 ≤ v) (hv1 : v < 4294967296) (hm : m.size ≤ 140737488351232) (hc : a < m.size) :
    Calls Try.prog 17 #[.string m, .int .u32 a, .int .u32 v] w fun e w' => e = .returned (.tuple #[.string (splB m a ⟨#[byteI v]⟩), .int .i64 0]) ∧ Below w.heap.size w w' := by
  have h := put_any m a v w h1 hv0 hv1 hm
  rw [if_pos hc] at h
  exact h
theorem put_no (m : ByteArray) (a : Nat) (v : Int) (w : World) (h1 : (a : Int) < 4294967296) (hv0 : 0 ≤ v) (hv1 : v < 4294967296) (hm : m.size ≤ 140737488351232) (hc : ¬ a < m.size) :
    Calls Try.prog 17 #[.string m, .int .u32 a, .int .u32 v] w fun e w' => e = .returned (.tuple #[.string m, .int .i64 10]) ∧ Below w.heap.size w w' := by
  have h := put_any m a v w h1 hv0 hv1 hm
  rw [if_neg hc] at h
  exact h
theorem rByte_yes (m : ByteArray) (a : Nat) (w : World) (h1 : (a : Int) < 4294967296) (hm : m.size ≤ 140737488351232) (hc : a < m.size) :
    Calls Try.prog 16 #[.string m, .int .u32 a] w fun e w' => e = .returned (.tuple #[.int .u32 (byteV m a), .int .i64 0]) ∧ w = w' := by
  have h := rByte_any m a w h1 hm
  rw [if_pos hc] at h
  exact h
theorem rByte_no (m : ByteArray) (a : Nat) (w : World) (h1 : (a : Int) < 4294967296) (hm : m.size ≤ 140737488351232) (hc : ¬ a < m.size) :
    Calls Try.prog 16 #[.string m, .int .u32 a] w fun e w' => e = .returned (.tuple #[.int .u32 0, .int .i64 10]) ∧ w = w' := by
  have h := rByte_any m a w h1 hm
  rw [if_neg hc] at h
  exact h
theorem rOut_yes (m : ByteArray) (a n : Nat) (w : World) (h1 : (a : Int) < 4294967296) (h2 : (n : Int) < 4294967296) (hm : m.size ≤ 140737488351232) (hc : a + n ≤ m.size) :
    Calls Try.prog 20 #[.string m, .int .u32 a, .int .u32 n] w fun e w' => e = .returned (.tuple #[.string (cutB m a n), .int .i64 0]) ∧ w = w' := by
  have h := rOut_any m a n w h1 h2 hm
  rw [if_pos hc] at h
  exact h
theorem rOut_no (m : ByteArray) (a n : Nat) (w : World) (h1 : (a : Int) < 4294967296) (h2 : (n : Int) < 4294967296) (hm : m.size ≤ 140737488351232) (hc : ¬ a + n ≤ m.size) :
    Calls Try.prog 20 #[.string m, .int .u32 a, .int .u32 n] w fun e w' => e = .returned (.tuple #[.string ⟨#[]⟩, .int .i64 10]) ∧ w = w' := by
  have h := rOut_any m a n w h1 h2 hm
  rw [if_neg hc] at h
  exact h
theorem rIn_yes (m s : ByteArray) (a : Nat) (w : World) (h1 : (a : Int) < 4294967296) (hm : m.size ≤ 140737488351232) (hs : s.size ≤ 140737488351232) (hc : a + s.size ≤ m.size) :
    Calls Try.prog 22 #[.string m, .int .u32 a, .string s] w fun e w' => e = .returned (.tuple #[.string (splB m a s), .int .i64 0]) ∧ Below w.heap.size w w' := by
  have h := rIn_any m s a w h1 hm hs
  rw [if_pos hc] at h
  exact h
theorem rIn_no (m s : ByteArray) (a : Nat) (w : World) (h1 : (a : Int) < 4294967296) (hm : m.size ≤ 140737488351232) (hs : s.size ≤ 140737488351232) (hc : ¬ a + s.size ≤ m.size) :
    Calls Try.prog 22 #[.string m, .int .u32 a, .string s] w fun e w' => e = .returned (.tuple #[.string m, .int .i64 10]) ∧ Below w.heap.size w w' := by
  have h := rIn_any m s a w h1 hm hs
  rw [if_neg hc] at h
  exact h
theorem rPut_yes (m : ByteArray) (a : Nat) (v : Int) (w : World) (h1 : (a : Int) < 4294967296) (hv0 : 0 ≤ v) (hv1 : v < 4294967296) (hm : m.size < 4294967296) (hc : a < m.size) :
    Calls Try.prog 18 #[.string m, .int .u32 a, .int .u32 v] w fun e w' => e = .returned (.tuple #[.string (splB m a ⟨#[byteI v]⟩), .int .i64 0]) ∧ Below w.heap.size w w' := by
  have h := rPut_any m a v w h1 hv0 hv1 hm
  rw [if_pos hc] at h
  exact h
theorem rPut_no (m : ByteArray) (a : Nat) (v : Int) (w : World) (h1 : (a : Int) < 4294967296) (hv0 : 0 ≤ v) (hv1 : v < 4294967296) (hm : m.size < 4294967296) (hc : ¬ a < m.size) :
    Calls Try.prog 18 #[.string m, .int .u32 a, .int .u32 v] w fun e w' => e = .returned (.tuple #[.string m, .int .i64 10]) ∧ Below w.heap.size w w' := by
  have h := rPut_any m a v w h1 hv0 hv1 hm
  rw [if_neg hc] at h
  exact h
theorem stands_of_not {m : ByteArray} {a : Nat} (h : ¬ (a % 4 = 0 ∧ a + 4 ≤ m.size)) : standsB m a = false := by
  simp [standsB]; omega
end Go.Proofs.Ytoagodlengljgaa
