/- The laws SegCopies, SegWords, walked. -/
import Derived.Test.YtoagodlengljgaaSegL
import Derived.Test.YtoagodlengljgaaSegM
namespace Go.Proofs.Ytoagodlengljgaa
open Go.RowKit
set_option linter.unusedVariables false

set_option maxHeartbeats 1000000 in
theorem copies_no (m s : ByteArray) (a : Nat) (w : World) (h1 : (a : Int) < 4294967296) (hm : m.size ≤ 1048576) (hs : s.size ≤ 1048576) (c1 : ¬ a + s.size ≤ m.size) :
    Calls Try.prog 7 #[.string m, .int .u32 a, .string s] w fun e w' => e = .returned (.bool true) ∧ Below w.heap.size w w' := by
  go_enter Try.func7, Try.ntmps7
  go_wp2_with fail
  refine (shown_any _).mono ?_
  rintro e w1 ⟨rfl, hb1⟩
  go_wp2_with fail
  refine (in_no _ _ _ _ h1 (by omega) (by omega) c1).mono ?_
  rintro e w2 ⟨rfl, hb2⟩
  have HB : Hid (Below w.heap.size w w2) := hb1.trans (hb2.mono hb1.size)
  clear hb1 hb2
  go_wp2
  all_goals go_ret
  all_goals exact ⟨ret_bool (by simp), HB.out⟩

set_option maxHeartbeats 1000000 in
theorem copies_yes (m s : ByteArray) (a : Nat) (w : World) (h1 : (a : Int) < 4294967296) (hm : m.size ≤ 1048576) (hs : s.size ≤ 1048576) (c1 : a + s.size ≤ m.size) :
    Calls Try.prog 7 #[.string m, .int .u32 a, .string s] w fun e w' => e = .returned (.bool true) ∧ Below w.heap.size w w' := by
  have HS := Lib.hid (splB_size m a s c1)
  have E1 := Lib.hid (cut_spl m a s c1)
  have E2 := Lib.hid (cut_ahead m a s c1)
  have E3 := Lib.hid (cut_behind m a s c1)
  generalize hK : splB m a s = K at *
  have HK := Lib.hid hK
  clear hK
  go_enter Try.func7, Try.ntmps7
  go_wp2_with fail
  refine (shown_any _).mono ?_
  rintro e w1 ⟨rfl, hb1⟩
  go_wp2_with fail
  refine (in_yes _ _ _ _ h1 (by omega) (by omega) c1).mono ?_
  rw [HK.out]
  rintro e w2 ⟨rfl, hb2⟩
  have HB : Hid (Below w.heap.size w w2) := hb1.trans (hb2.mono hb1.size)
  clear hb1 hb2
  go_wp2_with fail
  refine (out_yes _ _ s.size _ h1 (by omega) (by rw [HS.out]; omega) (by rw [HS.out]; exact c1)).mono ?_
  rw [E1.out]
  rintro e w' ⟨rfl, rfl⟩
  go_wp2_with fail
  refine (out_yes _ 0 _ _ (by omega) h1 (by omega) (by omega)).mono ?_
  rintro e w' ⟨rfl, rfl⟩
  go_wp2_with fail
  refine (out_yes _ 0 _ _ (by omega) h1 (by rw [HS.out]; omega) (by rw [HS.out]; omega)).mono ?_
  rw [E2.out]
  rintro e w' ⟨rfl, rfl⟩
  have HL : K.size = m.size := HS.out
  have x1 : IntKind.i64.wrap ((a : Int) + (s.size : Int)) = (a : Int) + (s.size : Int) := by rw [IntKind.wrap_i64]; omega
  have x2 : (0 : Int) ≤ (a : Int) + (s.size : Int) := by omega
  have x3 : ((a : Int) + (s.size : Int)).toNat = a + s.size := by omega
  have x4 : (a : Int) + (s.size : Int) ≤ (m.size : Int) := by omega
  have x5 : K.extract (a + s.size) m.size = m.extract (a + s.size) m.size := E3.out
  go_wp2
  go_region
  all_goals go_wp2
  all_goals go_ret
  all_goals exact ⟨ret_bool (by simp), HB.out.drew⟩

theorem copies_walk (m s : ByteArray) (a : Nat) (w : World) (h1 : (a : Int) < 4294967296) (hm : m.size ≤ 1048576) (hs : s.size ≤ 1048576) :
    Calls Try.prog 7 #[.string m, .int .u32 a, .string s] w fun e w' => e = .returned (.bool true) ∧ Below w.heap.size w w' := by
  by_cases c1 : a + s.size ≤ m.size
  · exact copies_yes m s a w h1 hm hs c1
  · exact copies_no m s a w h1 hm hs c1

set_option maxHeartbeats 1000000 in
theorem words_11 (m : ByteArray) (a : Nat) (v : Int) (w : World) (h1 : (a : Int) < 4294967296) (hv0 : 0 ≤ v) (hv1 : v < 4294967296) (hm : m.size ≤ 1048576) (c1 : a % 4 = 0 ∧ a + 4 ≤ m.size) (c2 : a < m.size) :
    Calls Try.prog 3 #[.string m, .int .u32 a, .int .u32 v] w fun e w' => e = .returned (.bool true) ∧ Below w.heap.size w w' := by
  have C1 := Lib.hid c1
  clear c1
  go_enter Try.func3, Try.ntmps3
  go_wp2_with fail
  refine (shown_any _).mono ?_
  rintro e w1 ⟨rfl, hb1⟩
  have HB1 : Hid (Below w.heap.size w w1) := hb1
  clear hb1
  go_wp2_with fail
  refine (load_yes _ _ _ h1 (by omega) C1.out.1 C1.out.2).mono ?_
  rintro e w2 ⟨rfl, hb⟩
  have HB2 : Hid (Below w.heap.size w w2) := HB1.out.trans (hb.mono HB1.out.size)
  clear hb
  go_wp2_with fail
  refine (rLoad_yes _ _ _ h1 (by omega) C1.out.1 C1.out.2).mono ?_
  rintro e w3 ⟨rfl, hb⟩
  have HB3 : Hid (Below w.heap.size w w3) := HB2.out.trans (hb.mono HB2.out.size)
  clear hb
  go_wp2_with fail
  refine (store_yes _ _ _ _ h1 hv0 hv1 (by omega) C1.out.1 C1.out.2).mono ?_
  rintro e w4 ⟨rfl, hb⟩
  have HB4 : Hid (Below w.heap.size w w4) := HB3.out.trans (hb.mono HB3.out.size)
  clear hb
  go_wp2_with fail
  refine (rStore_yes _ _ _ _ h1 hv0 hv1 (by omega) C1.out.1 C1.out.2).mono ?_
  rintro e w5 ⟨rfl, hb⟩
  have HB5 : Hid (Below w.heap.size w w5) := HB4.out.trans (hb.mono HB4.out.size)
  clear hb
  go_wp2_with fail
  refine (byte_yes _ _ _ h1 (by omega) c2).mono ?_
  rintro e w' ⟨rfl, rfl⟩
  go_wp2_with fail
  refine (rByte_yes _ _ _ h1 (by omega) c2).mono ?_
  rintro e w' ⟨rfl, rfl⟩
  go_wp2_with fail
  refine (put_yes _ _ _ _ h1 hv0 hv1 (by omega) c2).mono ?_
  rintro e w6 ⟨rfl, hb⟩
  have HB6 : Hid (Below w.heap.size w w6) := HB5.out.trans (hb.mono HB5.out.size)
  clear hb
  go_wp2_with fail
  refine (rPut_yes _ _ _ _ h1 hv0 hv1 (by omega) c2).mono ?_
  rintro e w7 ⟨rfl, hb⟩
  have HB7 : Hid (Below w.heap.size w w7) := HB6.out.trans (hb.mono HB6.out.size)
  clear hb
  go_wp2
  all_goals go_ret
  all_goals exact ⟨ret_bool (by simp), HB7.out⟩

set_option maxHeartbeats 1000000 in
theorem words_01 (m : ByteArray) (a : Nat) (v : Int) (w : World) (h1 : (a : Int) < 4294967296) (hv0 : 0 ≤ v) (hv1 : v < 4294967296) (hm : m.size ≤ 1048576) (c1 : ¬ (a % 4 = 0 ∧ a + 4 ≤ m.size)) (c2 : a < m.size) :
    Calls Try.prog 3 #[.string m, .int .u32 a, .int .u32 v] w fun e w' => e = .returned (.bool true) ∧ Below w.heap.size w w' := by
  have C1 := Lib.hid c1
  clear c1
  go_enter Try.func3, Try.ntmps3
  go_wp2_with fail
  refine (shown_any _).mono ?_
  rintro e w1 ⟨rfl, hb1⟩
  have HB1 : Hid (Below w.heap.size w w1) := hb1
  clear hb1
  go_wp2_with fail
  refine (load_no _ _ _ (by omega) h1 (by omega) (stands_of_not C1.out)).mono ?_
  rintro e w' ⟨rfl, rfl⟩
  go_wp2_with fail
  refine (rLoad_no _ _ _ (by omega) h1 (by omega) (stands_of_not C1.out)).mono ?_
  rintro e w' ⟨rfl, rfl⟩
  go_wp2_with fail
  refine (store_no _ _ _ _ (by omega) h1 (by omega) (stands_of_not C1.out)).mono ?_
  rintro e w' ⟨rfl, rfl⟩
  go_wp2_with fail
  refine (rStore_no _ _ _ _ (by omega) h1 (by omega) (stands_of_not C1.out)).mono ?_
  rintro e w' ⟨rfl, rfl⟩
  go_wp2_with fail
  refine (byte_yes _ _ _ h1 (by omega) c2).mono ?_
  rintro e w' ⟨rfl, rfl⟩
  go_wp2_with fail
  refine (rByte_yes _ _ _ h1 (by omega) c2).mono ?_
  rintro e w' ⟨rfl, rfl⟩
  go_wp2_with fail
  refine (put_yes _ _ _ _ h1 hv0 hv1 (by omega) c2).mono ?_
  rintro e w2 ⟨rfl, hb⟩
  have HB2 : Hid (Below w.heap.size w w2) := HB1.out.trans (hb.mono HB1.out.size)
  clear hb
  go_wp2_with fail
  refine (rPut_yes _ _ _ _ h1 hv0 hv1 (by omega) c2).mono ?_
  rintro e w3 ⟨rfl, hb⟩
  have HB3 : Hid (Below w.heap.size w w3) := HB2.out.trans (hb.mono HB2.out.size)
  clear hb
  go_wp2
  all_goals go_ret
  all_goals exact ⟨ret_bool (by simp), HB3.out⟩

set_option maxHeartbeats 1000000 in
theorem words_00 (m : ByteArray) (a : Nat) (v : Int) (w : World) (h1 : (a : Int) < 4294967296) (hv0 : 0 ≤ v) (hv1 : v < 4294967296) (hm : m.size ≤ 1048576) (c1 : ¬ (a % 4 = 0 ∧ a + 4 ≤ m.size)) (c2 : ¬ a < m.size) :
    Calls Try.prog 3 #[.string m, .int .u32 a, .int .u32 v] w fun e w' => e = .returned (.bool true) ∧ Below w.heap.size w w' := by
  have C1 := Lib.hid c1
  clear c1
  go_enter Try.func3, Try.ntmps3
  go_wp2_with fail
  refine (shown_any _).mono ?_
  rintro e w1 ⟨rfl, hb1⟩
  have HB1 : Hid (Below w.heap.size w w1) := hb1
  clear hb1
  go_wp2_with fail
  refine (load_no _ _ _ (by omega) h1 (by omega) (stands_of_not C1.out)).mono ?_
  rintro e w' ⟨rfl, rfl⟩
  go_wp2_with fail
  refine (rLoad_no _ _ _ (by omega) h1 (by omega) (stands_of_not C1.out)).mono ?_
  rintro e w' ⟨rfl, rfl⟩
  go_wp2_with fail
  refine (store_no _ _ _ _ (by omega) h1 (by omega) (stands_of_not C1.out)).mono ?_
  rintro e w' ⟨rfl, rfl⟩
  go_wp2_with fail
  refine (rStore_no _ _ _ _ (by omega) h1 (by omega) (stands_of_not C1.out)).mono ?_
  rintro e w' ⟨rfl, rfl⟩
  go_wp2_with fail
  refine (byte_no _ _ _ h1 (by omega) c2).mono ?_
  rintro e w' ⟨rfl, rfl⟩
  go_wp2_with fail
  refine (rByte_no _ _ _ h1 (by omega) c2).mono ?_
  rintro e w' ⟨rfl, rfl⟩
  go_wp2_with fail
  refine (put_no _ _ _ _ h1 hv0 hv1 (by omega) c2).mono ?_
  rintro e w2 ⟨rfl, hb⟩
  have HB2 : Hid (Below w.heap.size w w2) := HB1.out.trans (hb.mono HB1.out.size)
  clear hb
  go_wp2_with fail
  refine (rPut_no _ _ _ _ h1 hv0 hv1 (by omega) c2).mono ?_
  rintro e w3 ⟨rfl, hb⟩
  have HB3 : Hid (Below w.heap.size w w3) := HB2.out.trans (hb.mono HB2.out.size)
  clear hb
  go_wp2
  all_goals go_ret
  all_goals exact ⟨ret_bool (by simp), HB3.out⟩

theorem words_walk (m : ByteArray) (a : Nat) (v : Int) (w : World) (h1 : (a : Int) < 4294967296) (hv0 : 0 ≤ v) (hv1 : v < 4294967296) (hm : m.size ≤ 1048576) :
    Calls Try.prog 3 #[.string m, .int .u32 a, .int .u32 v] w fun e w' => e = .returned (.bool true) ∧ Below w.heap.size w w' := by
  by_cases c1 : a % 4 = 0 ∧ a + 4 ≤ m.size
  · exact words_11 m a v w h1 hv0 hv1 hm c1 (by omega)
  · by_cases c2 : a < m.size
    · exact words_01 m a v w h1 hv0 hv1 hm c1 c2
    · exact words_00 m a v w h1 hv0 hv1 hm c1 c2
end Go.Proofs.Ytoagodlengljgaa
