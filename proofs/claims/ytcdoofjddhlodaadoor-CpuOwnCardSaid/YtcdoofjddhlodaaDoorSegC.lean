/- The document's answers for memories. -/
import Derived.Test.YtcdoofjddhlodaaDoorSegB
namespace Go.Proofs.YtcdoofjddhlodaaDoor
open Go.RowKit
set_option linter.unusedVariables false

set_option maxHeartbeats 400000 in
theorem fits_any (m : ByteArray) (a n : Int) (w : World) (h0 : 0 ≤ a) (h1 : a < 4294967296) (h2 : 0 ≤ n) (h3 : n < 4611686018427387904) (hm : m.size ≤ 140737488351232) :
    Calls Tryd.prog 45 #[.string m, .int .u32 a, .int .i64 n] w fun e w' => e = .returned (.bool (decide (a + n ≤ m.size))) ∧ w = w' := by
  go_enter Tryd.func45, Tryd.ntmps45
  go_wp2
  go_ret
  exact ⟨rfl, rfl⟩

theorem byteV_get (m : ByteArray) (k : Nat) (h : k < m.size) : byteV m k = (m[k].toNat : Int) := by
  rw [byteV_at m k (by rw [← Lib.size_eq]; exact h)]
  rfl

set_option maxHeartbeats 400000 in
theorem rLoad_no (m : ByteArray) (a : Int) (w : World) (h0 : 0 ≤ a) (h1 : a < 4294967296) (hm : m.size ≤ 140737488351232) (hs : standsB m a = false) :
    Calls Tryd.prog 29 #[.string m, .int .u32 a] w fun e w' => e = .returned (.tuple #[.int .u32 0, .int .i64 10]) ∧ w = w' := by
  unfold standsB at hs
  by_cases hc : a + 4 ≤ m.size
  · have hd : decide (a + 4 ≤ (m.size : Int)) = true := by simpa using hc
    have h4 : a % 4 ≠ 0 := by simp at hs; omega
    clear hs
    go_enter Tryd.func29, Tryd.ntmps29
    go_wp2_with fail
    refine (fits_any _ _ _ _ h0 h1 (by omega) (by omega) hm).mono ?_
    rintro e w' ⟨rfl, rfl⟩
    rw [hd]
    go_wp2
    all_goals go_ret2
    all_goals exact ⟨rfl, rfl⟩
  · have hd : decide (a + 4 ≤ (m.size : Int)) = false := by simpa using hc
    clear hs
    go_enter Tryd.func29, Tryd.ntmps29
    go_wp2_with fail
    refine (fits_any _ _ _ _ h0 h1 (by omega) (by omega) hm).mono ?_
    rintro e w' ⟨rfl, rfl⟩
    rw [hd]
    go_wp2
    all_goals go_ret2
    all_goals exact ⟨rfl, rfl⟩

set_option maxHeartbeats 400000 in
theorem rLoad_yes (m : ByteArray) (a : Nat) (w : World) (h1 : (a : Int) < 4294967296) (hm : m.size ≤ 140737488351232) (h4 : a % 4 = 0) (h5 : a + 4 ≤ m.size) :
    Calls Tryd.prog 29 #[.string m, .int .u32 a] w fun e w' => e = .returned (.tuple #[.int .u32 (wordV m a), .int .i64 0]) ∧ Below w.heap.size w w' := by
  have hd : decide ((a : Int) + 4 ≤ (m.size : Int)) = true := by simp; omega
  have h4' : (a : Int) % 4 = 0 := by omega
  have h6 : (a : Int) < (m.size : Int) := by omega
  have h7 : (a : Int) + 1 < (m.size : Int) := by omega
  have h8 : (a : Int) + 2 < (m.size : Int) := by omega
  have h9 : (a : Int) + 3 < (m.size : Int) := by omega
  have g1 : (0 : Int) ≤ (a : Int) + 1 := by omega
  have g2 : (0 : Int) ≤ (a : Int) + 2 := by omega
  have g3 : (0 : Int) ≤ (a : Int) + 3 := by omega
  have w1 : IntKind.u32.wrap ((a : Int) + 1) = (a : Int) + 1 := by rw [IntKind.wrap_u32]; omega
  have w2 : IntKind.u32.wrap ((a : Int) + 2) = (a : Int) + 2 := by rw [IntKind.wrap_u32]; omega
  have w3 : IntKind.u32.wrap ((a : Int) + 3) = (a : Int) + 3 := by rw [IntKind.wrap_u32]; omega
  go_enter Tryd.func29, Tryd.ntmps29
  go_wp2_with fail
  refine (fits_any _ _ _ _ (by omega) h1 (by omega) (by omega) hm).mono ?_
  rintro e w' ⟨rfl, rfl⟩
  rw [hd]
  go_wp2
  go_region
  all_goals go_wp2
  all_goals go_ret2
  all_goals refine ⟨ret2 (int_eq ?_) rfl, (Below.refl _ _).drew⟩
  all_goals
    have b0 := byteV_get m a (by omega)
    have b1 := byteV_get m (a + 1) (by omega)
    have b2 := byteV_get m (a + 2) (by omega)
    have b3 := byteV_get m (a + 3) (by omega)
    have c0 := byteV_bounds m a
    have c1 := byteV_bounds m (a + 1)
    have c2 := byteV_bounds m (a + 2)
    have c3 := byteV_bounds m (a + 3)
    rw [← b0, ← b1, ← b2, ← b3]
    unfold wordV
    clear w1 w2 w3 b0 b1 b2 b3 hd
    omega

theorem spl_sum (m : ByteArray) (a : Nat) (s : ByteArray) (h : a + s.size ≤ m.size) : m.extract 0 a ++ s ++ m.extract (a + s.size) m.size = splB m a s := by
  apply ByteArray.ext
  apply Array.toList_inj.1
  have hl : m.data.toList.length = m.size := (Lib.size_eq m).symm
  rw [splB_list]
  simp only [ByteArray.data_append, Array.toList_append, Lib.extract_data]
  rw [Nat.sub_zero, List.drop_zero, List.take_of_length_le (l := List.drop _ _) (by simp)]

set_option maxHeartbeats 400000 in
theorem rStore_yes (m : ByteArray) (a : Nat) (v : Int) (w : World) (h1 : (a : Int) < 4294967296) (hv0 : 0 ≤ v) (hv1 : v < 4294967296) (hm : m.size < 4294967296) (h4 : a % 4 = 0) (h5 : a + 4 ≤ m.size) :
    Calls Tryd.prog 31 #[.string m, .int .u32 a, .int .u32 v] w fun e w' => e = .returned (.tuple #[.string (splB m a (wordB v)), .int .i64 0]) ∧ Below w.heap.size w w' := by
  have hd : decide ((a : Int) + 4 ≤ (m.size : Int)) = true := by simp; omega
  have h4' : (a : Int) % 4 = 0 := by omega
  have h6 : a ≤ m.size := by omega
  have hbk : (convert 62 9 (.slice (some ⟨w.heap.size, 0, none⟩) 4 4)).run Tryd.prog (w.alloc (.cells #[.int .u8 (v % 256), .int .u8 (v / 256 % 256), .int .u8 (v / 65536 % 256), .int .u8 (v / 16777216)] 5)).drew = .ok (.string (wordB v)) (w.alloc (.cells #[.int .u8 (v % 256), .int .u8 (v / 256 % 256), .int .u8 (v / 65536 % 256), .int .u8 (v / 16777216)] 5)).drew :=
    back_word v w.drew 5 hv0 hv1
  have hx1 : (m.extract 0 a).size = a := by simp; omega
  have hx2 : (m.extract (a + 4) m.size).size = m.size - (a + 4) := by simp
  have ha1 := fun W => run_string_add_sum (P := Tryd.prog) W (m.extract 0 a) (wordB v) (by rw [hx1, wordB_size]; omega)
  have ha2 := fun W => run_string_add_sum (P := Tryd.prog) W (m.extract 0 a ++ wordB v) (m.extract (a + 4) m.size) (by rw [ByteArray.size_append, hx1, wordB_size, hx2]; omega)
  clear hx1 hx2
  have w4 : IntKind.u32.wrap ((a : Int) + 4) = (a : Int) + 4 := by rw [IntKind.wrap_u32]; omega
  have h7 : a + 4 ≤ m.size := h5
  go_enter Tryd.func31, Tryd.ntmps31
  go_wp2_with fail
  refine (fits_any _ _ _ _ (by omega) h1 (by omega) (by omega) (by omega)).mono ?_
  rintro e w' ⟨rfl, rfl⟩
  rw [hd]
  go_wp2
  go_region
  all_goals go_wp2
  all_goals go_ret2
  all_goals exact ⟨ret2 (str_eq (spl_sum m a (wordB v) (by rw [wordB_size]; omega))) rfl, ((Below.refl _ _).alloc (Nat.le_refl _) _).drew⟩

set_option maxHeartbeats 400000 in
theorem rStore_no (m : ByteArray) (a v : Int) (w : World) (h0 : 0 ≤ a) (h1 : a < 4294967296) (hm : m.size ≤ 140737488351232) (hs : standsB m a = false) :
    Calls Tryd.prog 31 #[.string m, .int .u32 a, .int .u32 v] w fun e w' => e = .returned (.tuple #[.string m, .int .i64 10]) ∧ w = w' := by
  unfold standsB at hs
  by_cases hc : a + 4 ≤ m.size
  · have hd : decide (a + 4 ≤ (m.size : Int)) = true := by simpa using hc
    have h4 : a % 4 ≠ 0 := by simp at hs; omega
    clear hs
    go_enter Tryd.func31, Tryd.ntmps31
    go_wp2_with fail
    refine (fits_any _ _ _ _ h0 h1 (by omega) (by omega) hm).mono ?_
    rintro e w' ⟨rfl, rfl⟩
    rw [hd]
    go_wp2
    all_goals go_ret2
    all_goals exact ⟨rfl, rfl⟩
  · have hd : decide (a + 4 ≤ (m.size : Int)) = false := by simpa using hc
    clear hs
    go_enter Tryd.func31, Tryd.ntmps31
    go_wp2_with fail
    refine (fits_any _ _ _ _ h0 h1 (by omega) (by omega) hm).mono ?_
    rintro e w' ⟨rfl, rfl⟩
    rw [hd]
    go_wp2
    all_goals go_ret2
    all_goals exact ⟨rfl, rfl⟩

set_option maxHeartbeats 400000 in
theorem rByte_any (m : ByteArray) (a : Nat) (w : World) (h1 : (a : Int) < 4294967296) (hm : m.size ≤ 140737488351232) :
    Calls Tryd.prog 32 #[.string m, .int .u32 a] w fun e w' => e = .returned (if a < m.size then .tuple #[.int .u32 (byteV m a), .int .i64 0] else .tuple #[.int .u32 0, .int .i64 10]) ∧ w = w' := by
  by_cases hs : a < m.size
  · have hd : decide ((a : Int) + 1 ≤ (m.size : Int)) = true := by simp; omega
    have HB := Lib.hid (byteV_get m a hs)
    rw [if_pos hs]
    go_enter Tryd.func32, Tryd.ntmps32
    go_wp2_with ((go_at_call 45; refine (fits_any _ _ _ _ (by omega) (by omega) (by omega) (by omega) (by omega)).mono ?_; rintro e w' ⟨rfl, rfl⟩))
    all_goals go_ret2
    all_goals refine ⟨ret2 (int_eq ?_) rfl, rfl⟩
    all_goals (rw [HB.out]; have := m[a].toNat_lt; omega)
  · have hd : decide ((a : Int) + 1 ≤ (m.size : Int)) = false := by simp; omega
    rw [if_neg hs]
    go_enter Tryd.func32, Tryd.ntmps32
    go_wp2_with ((go_at_call 45; refine (fits_any _ _ _ _ (by omega) (by omega) (by omega) (by omega) (by omega)).mono ?_; rintro e w' ⟨rfl, rfl⟩))
    all_goals go_ret2
    all_goals exact ⟨rfl, rfl⟩

set_option maxHeartbeats 400000 in
theorem rPut_any (m : ByteArray) (a : Nat) (v : Int) (w : World) (h1 : (a : Int) < 4294967296) (hv0 : 0 ≤ v) (hv1 : v < 4294967296) (hm : m.size < 4294967296) :
    Calls Tryd.prog 33 #[.string m, .int .u32 a, .int .u32 v] w fun e w' => e = .returned (if a < m.size then .tuple #[.string (splB m a ⟨#[byteI v]⟩), .int .i64 0] else .tuple #[.string m, .int .i64 10]) ∧ Below w.heap.size w w' := by
  by_cases hs : a < m.size
  · have hd : decide ((a : Int) + 1 ≤ (m.size : Int)) = true := by simp; omega
    have hx1 : (m.extract 0 a).size = a := by simp; omega
    have hx2 : (m.extract (a + 1) m.size).size = m.size - (a + 1) := by simp
    have ha1 := fun W => run_string_add_sum (P := Tryd.prog) W (m.extract 0 a) ⟨#[byteI v]⟩ (by rw [hx1, byteB_size]; omega)
    have ha2 := fun W => run_string_add_sum (P := Tryd.prog) W (m.extract 0 a ++ ⟨#[byteI v]⟩) (m.extract (a + 1) m.size) (by rw [ByteArray.size_append, hx1, byteB_size, hx2]; omega)
    clear hx1 hx2
    have hbk : (convert 62 9 (.slice (some ⟨w.heap.size, 0, none⟩) 1 1)).run Tryd.prog (w.alloc (.cells #[.int .u8 (v % 256)] 5)).drew = .ok (.string ⟨#[byteI v]⟩) (w.alloc (.cells #[.int .u8 (v % 256)] 5)).drew :=
      back_byte v w.drew 5
    have h6 : a ≤ m.size := by omega
    have h7 : a + 1 ≤ m.size := by omega
    have w4 : IntKind.u32.wrap ((a : Int) + 1) = (a : Int) + 1 := by rw [IntKind.wrap_u32]; omega
    rw [if_pos hs]
    go_enter Tryd.func33, Tryd.ntmps33
    go_wp2_with ((go_at_call 45; refine (fits_any _ _ _ _ (by omega) (by omega) (by omega) (by omega) (by omega)).mono ?_; rintro e w' ⟨rfl, rfl⟩))
    go_region
    all_goals go_wp2
    all_goals go_ret2
    all_goals exact ⟨ret2 (str_eq (spl_sum m a ⟨#[byteI v]⟩ (by rw [byteB_size]; omega))) rfl, ((Below.refl _ _).alloc (Nat.le_refl _) _).drew⟩
  · have hd : decide ((a : Int) + 1 ≤ (m.size : Int)) = false := by simp; omega
    rw [if_neg hs]
    go_enter Tryd.func33, Tryd.ntmps33
    go_wp2_with ((go_at_call 45; refine (fits_any _ _ _ _ (by omega) (by omega) (by omega) (by omega) (by omega)).mono ?_; rintro e w' ⟨rfl, rfl⟩))
    all_goals go_ret2
    all_goals exact ⟨rfl, Below.refl _ _⟩

end Go.Proofs.YtcdoofjddhlodaaDoor
