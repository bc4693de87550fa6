/- The laws SegOne, SegBack, walked. -/
import Derived.Test.YtoagodlengljgaaSegL
import Derived.Test.YtoagodlengljgaaSegM
namespace Go.Proofs.Ytoagodlengljgaa
open Go.RowKit
set_option linter.unusedVariables false

abbrev inV (m : ByteArray) (a v o : Int) : Value := .agg #[.string m, .int .u32 a, .int .u32 v, .int .u32 o]

set_option maxHeartbeats 1000000 in
theorem one_no (m : ByteArray) (a o : Nat) (v : Int) (w : World) (h1 : (a : Int) < 4294967296) (h2 : (o : Int) < 4294967296) (hv0 : 0 ≤ v) (hv1 : v < 4294967296) (hm : m.size ≤ 140737488351232) (c1 : ¬ a < m.size) :
    Calls Try.prog 8 #[inV m a v o] w fun e w' => e = .returned (.bool true) ∧ Below w.heap.size w w' := by
  go_enter Try.func8, Try.ntmps8
  go_wp2_with fail
  refine (shown_any _).mono ?_
  rintro e w1 ⟨rfl, hb1⟩
  go_wp2_with fail
  refine (put_no _ _ _ _ h1 hv0 hv1 hm c1).mono ?_
  rintro e w2 ⟨rfl, hb2⟩
  have HB : Hid (Below w.heap.size w w2) := ((Below.refl _ _).alloc (Nat.le_refl _) _).trans ((hb1.trans (hb2.mono hb1.size)).mono (by simp))
  clear hb1 hb2
  go_wp2
  all_goals go_ret
  all_goals exact ⟨ret_bool (by simp), HB.out⟩

set_option maxHeartbeats 1000000 in
theorem one_11 (m : ByteArray) (a o : Nat) (v : Int) (w : World) (h1 : (a : Int) < 4294967296) (h2 : (o : Int) < 4294967296) (hv0 : 0 ≤ v) (hv1 : v < 4294967296) (hm : m.size ≤ 140737488351232) (c1 : a < m.size) (c2 : o < m.size) (c3 : o = a) :
    Calls Try.prog 8 #[inV m a v o] w fun e w' => e = .returned (.bool true) ∧ Below w.heap.size w w' := by
  have hsz : (splB m a ⟨#[byteI v]⟩).size = m.size := splB_size m a _ (by rw [byteB_size]; omega)
  have hva : byteV (splB m a ⟨#[byteI v]⟩) a = v % 256 := by rw [byteV_spl _ _ _ (by rw [byteB_size]; omega), byteB_size, if_pos (by omega), Nat.sub_self, byteV_byte]
  subst c3
  have HS := Lib.hid hsz
  have HA := Lib.hid hva
  clear hva
  generalize hK : splB m o ⟨#[byteI v]⟩ = K at *
  have HK := Lib.hid hK
  clear hK hsz
  go_enter Try.func8, Try.ntmps8
  go_wp2_with fail
  refine (shown_any _).mono ?_
  rintro e w1 ⟨rfl, hb1⟩
  go_wp2_with fail
  refine (put_yes _ _ _ _ h1 hv0 hv1 hm c1).mono ?_
  rw [HK.out]
  rintro e w2 ⟨rfl, hb2⟩
  go_wp2_with fail
  refine (byte_yes _ _ _ h1 (by rw [HS.out]; exact hm) (by rw [HS.out]; exact c1)).mono ?_
  rw [HA.out]
  rintro e w' ⟨rfl, rfl⟩
  go_wp2_with fail
  refine (byte_yes _ _ _ h2 hm c2).mono ?_
  rintro e w' ⟨rfl, rfl⟩
  go_wp2_with fail
  refine (byte_yes _ _ _ h2 (by rw [HS.out]; exact hm) (by rw [HS.out]; exact c2)).mono ?_
  rintro e w' ⟨rfl, rfl⟩
  have HB : Hid (Below w.heap.size w w2) := ((Below.refl _ _).alloc (Nat.le_refl _) _).trans ((hb1.trans (hb2.mono hb1.size)).mono (by simp))
  have HL : K.size = m.size := HS.out
  clear hb1 hb2
  go_wp2
  all_goals go_ret
  all_goals exact ⟨ret_bool (by simp), HB.out⟩

set_option maxHeartbeats 1000000 in
theorem one_01 (m : ByteArray) (a o : Nat) (v : Int) (w : World) (h1 : (a : Int) < 4294967296) (h2 : (o : Int) < 4294967296) (hv0 : 0 ≤ v) (hv1 : v < 4294967296) (hm : m.size ≤ 140737488351232) (c1 : a < m.size) (c2 : o < m.size) (c3 : o ≠ a) :
    Calls Try.prog 8 #[inV m a v o] w fun e w' => e = .returned (.bool true) ∧ Below w.heap.size w w' := by
  have hsz : (splB m a ⟨#[byteI v]⟩).size = m.size := splB_size m a _ (by rw [byteB_size]; omega)
  have hva : byteV (splB m a ⟨#[byteI v]⟩) a = v % 256 := by rw [byteV_spl _ _ _ (by rw [byteB_size]; omega), byteB_size, if_pos (by omega), Nat.sub_self, byteV_byte]
  have hvo : byteV (splB m a ⟨#[byteI v]⟩) o = byteV m o := by rw [byteV_spl _ _ _ (by rw [byteB_size]; omega), byteB_size, if_neg (by omega)]
  have hd : ((o : Int) == (a : Int)) = false := by simp; omega
  have HS := Lib.hid hsz
  have HA := Lib.hid hva
  clear hva
  have HO := Lib.hid hvo
  clear hvo
  generalize hK : splB m a ⟨#[byteI v]⟩ = K at *
  have HK := Lib.hid hK
  clear hK hsz
  go_enter Try.func8, Try.ntmps8
  go_wp2_with fail
  refine (shown_any _).mono ?_
  rintro e w1 ⟨rfl, hb1⟩
  go_wp2_with fail
  refine (put_yes _ _ _ _ h1 hv0 hv1 hm c1).mono ?_
  rw [HK.out]
  rintro e w2 ⟨rfl, hb2⟩
  go_wp2_with fail
  refine (byte_yes _ _ _ h1 (by rw [HS.out]; exact hm) (by rw [HS.out]; exact c1)).mono ?_
  rw [HA.out]
  rintro e w' ⟨rfl, rfl⟩
  go_wp2_with fail
  refine (byte_yes _ _ _ h2 hm c2).mono ?_
  rintro e w' ⟨rfl, rfl⟩
  go_wp2_with fail
  refine (byte_yes _ _ _ h2 (by rw [HS.out]; exact hm) (by rw [HS.out]; exact c2)).mono ?_
  rw [HO.out]
  rintro e w' ⟨rfl, rfl⟩
  have HB : Hid (Below w.heap.size w w2) := ((Below.refl _ _).alloc (Nat.le_refl _) _).trans ((hb1.trans (hb2.mono hb1.size)).mono (by simp))
  have HL : K.size = m.size := HS.out
  clear hb1 hb2
  go_wp2
  all_goals go_ret
  all_goals exact ⟨ret_bool (by simp), HB.out⟩

set_option maxHeartbeats 1000000 in
theorem one_00 (m : ByteArray) (a o : Nat) (v : Int) (w : World) (h1 : (a : Int) < 4294967296) (h2 : (o : Int) < 4294967296) (hv0 : 0 ≤ v) (hv1 : v < 4294967296) (hm : m.size ≤ 140737488351232) (c1 : a < m.size) (c2 : ¬ o < m.size) (c3 : o ≠ a) :
    Calls Try.prog 8 #[inV m a v o] w fun e w' => e = .returned (.bool true) ∧ Below w.heap.size w w' := by
  have hsz : (splB m a ⟨#[byteI v]⟩).size = m.size := splB_size m a _ (by rw [byteB_size]; omega)
  have hva : byteV (splB m a ⟨#[byteI v]⟩) a = v % 256 := by rw [byteV_spl _ _ _ (by rw [byteB_size]; omega), byteB_size, if_pos (by omega), Nat.sub_self, byteV_byte]
  have hvo : byteV (splB m a ⟨#[byteI v]⟩) o = byteV m o := by rw [byteV_spl _ _ _ (by rw [byteB_size]; omega), byteB_size, if_neg (by omega)]
  have hd : ((o : Int) == (a : Int)) = false := by simp; omega
  have HS := Lib.hid hsz
  have HA := Lib.hid hva
  clear hva
  have HO := Lib.hid hvo
  clear hvo
  generalize hK : splB m a ⟨#[byteI v]⟩ = K at *
  have HK := Lib.hid hK
  clear hK hsz
  go_enter Try.func8, Try.ntmps8
  go_wp2_with fail
  refine (shown_any _).mono ?_
  rintro e w1 ⟨rfl, hb1⟩
  go_wp2_with fail
  refine (put_yes _ _ _ _ h1 hv0 hv1 hm c1).mono ?_
  rw [HK.out]
  rintro e w2 ⟨rfl, hb2⟩
  go_wp2_with fail
  refine (byte_yes _ _ _ h1 (by rw [HS.out]; exact hm) (by rw [HS.out]; exact c1)).mono ?_
  rw [HA.out]
  rintro e w' ⟨rfl, rfl⟩
  go_wp2_with fail
  refine (byte_no _ _ _ h2 hm c2).mono ?_
  rintro e w' ⟨rfl, rfl⟩
  go_wp2_with fail
  refine (byte_no _ _ _ h2 (by rw [HS.out]; exact hm) (by rw [HS.out]; exact c2)).mono ?_
  rintro e w' ⟨rfl, rfl⟩
  have HB : Hid (Below w.heap.size w w2) := ((Below.refl _ _).alloc (Nat.le_refl _) _).trans ((hb1.trans (hb2.mono hb1.size)).mono (by simp))
  have HL : K.size = m.size := HS.out
  clear hb1 hb2
  go_wp2
  all_goals go_ret
  all_goals exact ⟨ret_bool (by simp), HB.out⟩

theorem one_walk (m : ByteArray) (a o : Nat) (v : Int) (w : World) (h1 : (a : Int) < 4294967296) (h2 : (o : Int) < 4294967296) (hv0 : 0 ≤ v) (hv1 : v < 4294967296) (hm : m.size ≤ 140737488351232) :
    Calls Try.prog 8 #[inV m a v o] w fun e w' => e = .returned (.bool true) ∧ Below w.heap.size w w' := by
  by_cases c1 : a < m.size
  · by_cases c3 : o = a
    · exact one_11 m a o v w h1 h2 hv0 hv1 hm c1 (by omega) c3
    · by_cases c2 : o < m.size
      · exact one_01 m a o v w h1 h2 hv0 hv1 hm c1 c2 c3
      · exact one_00 m a o v w h1 h2 hv0 hv1 hm c1 c2 c3
  · exact one_no m a o v w h1 h2 hv0 hv1 hm c1

set_option maxHeartbeats 1000000 in
theorem back_no (m : ByteArray) (a o : Nat) (v : Int) (w : World) (h1 : (a : Int) < 4294967296) (h2 : (o : Int) < 4294967296) (hv0 : 0 ≤ v) (hv1 : v < 4294967296) (hm : m.size ≤ 140737488351232) (c1 : ¬ (a % 4 = 0 ∧ a + 4 ≤ m.size)) :
    Calls Try.prog 5 #[inV m a v o] w fun e w' => e = .returned (.bool true) ∧ Below w.heap.size w w' := by
  have C1 := Lib.hid c1
  clear c1
  go_enter Try.func5, Try.ntmps5
  go_wp2_with fail
  refine (shown_any _).mono ?_
  rintro e w1 ⟨rfl, hb1⟩
  go_wp2_with fail
  refine (store_no _ _ _ _ (by omega) h1 hm (stands_of_not C1.out)).mono ?_
  rintro e w2 ⟨rfl, rfl⟩
  have HB : Hid (Below w.heap.size w w1) := ((Below.refl _ _).alloc (Nat.le_refl _) _).trans (hb1.mono (by simp))
  clear hb1
  go_wp2
  all_goals go_ret
  all_goals exact ⟨ret_bool (by simp), HB.out⟩

set_option maxHeartbeats 1000000 in
theorem back_11 (m : ByteArray) (a o : Nat) (v : Int) (w : World) (h1 : (a : Int) < 4294967296) (h2 : (o : Int) < 4294967296) (hv0 : 0 ≤ v) (hv1 : v < 4294967296) (hm : m.size ≤ 140737488351232) (c1 : a % 4 = 0 ∧ a + 4 ≤ m.size) (c2 : o % 4 = 0 ∧ o + 4 ≤ m.size) (c3 : o = a) :
    Calls Try.prog 5 #[inV m a v o] w fun e w' => e = .returned (.bool true) ∧ Below w.heap.size w w' := by
  have hsz : (splB m a (wordB v)).size = m.size := splB_size m a _ (by rw [wordB_size]; omega)
  have hva : wordV (splB m a (wordB v)) a = v := word_back m a v c1.2 hv0 hv1
  subst c3
  have HS := Lib.hid hsz
  have HA := Lib.hid hva
  have C1 := Lib.hid c1
  have C2 := Lib.hid c2
  clear hva c1 c2
  generalize hK : splB m o (wordB v) = K at *
  have HK := Lib.hid hK
  clear hK hsz
  go_enter Try.func5, Try.ntmps5
  go_wp2_with fail
  refine (shown_any _).mono ?_
  rintro e w1 ⟨rfl, hb1⟩
  go_wp2_with fail
  refine (store_yes _ _ _ _ h1 hv0 hv1 hm C1.out.1 C1.out.2).mono ?_
  rw [HK.out]
  rintro e w2 ⟨rfl, hb2⟩
  go_wp2_with fail
  refine (load_yes _ _ _ h1 (by rw [HS.out]; exact hm) C1.out.1 (by rw [HS.out]; exact C1.out.2)).mono ?_
  rw [HA.out]
  rintro e w3 ⟨rfl, hb3⟩
  have HB3 : Hid (Below w.heap.size w w3) := ((Below.refl _ _).alloc (Nat.le_refl _) _).trans ((hb1.trans ((hb2.trans (hb3.mono hb2.size)).mono hb1.size)).mono (by simp))
  clear hb1 hb2 hb3
  go_wp2_with fail
  refine (load_yes _ _ _ h2 hm C2.out.1 C2.out.2).mono ?_
  rintro e w4 ⟨rfl, hb4⟩
  go_wp2_with fail
  refine (load_yes _ _ _ h2 (by rw [HS.out]; exact hm) C2.out.1 (by rw [HS.out]; exact C2.out.2)).mono ?_
  rintro e w5 ⟨rfl, hb5⟩
  have HB : Hid (Below w.heap.size w w5) := HB3.out.trans ((hb4.trans (hb5.mono hb4.size)).mono HB3.out.size)
  clear hb4 hb5
  have HL : K.size = m.size := HS.out
  go_wp2
  all_goals go_ret
  all_goals exact ⟨ret_bool (by simp), HB.out⟩

set_option maxHeartbeats 1000000 in
theorem back_01 (m : ByteArray) (a o : Nat) (v : Int) (w : World) (h1 : (a : Int) < 4294967296) (h2 : (o : Int) < 4294967296) (hv0 : 0 ≤ v) (hv1 : v < 4294967296) (hm : m.size ≤ 140737488351232) (c1 : a % 4 = 0 ∧ a + 4 ≤ m.size) (c2 : o % 4 = 0 ∧ o + 4 ≤ m.size) (c3 : o ≠ a) :
    Calls Try.prog 5 #[inV m a v o] w fun e w' => e = .returned (.bool true) ∧ Below w.heap.size w w' := by
  have hsz : (splB m a (wordB v)).size = m.size := splB_size m a _ (by rw [wordB_size]; omega)
  have hva : wordV (splB m a (wordB v)) a = v := word_back m a v c1.2 hv0 hv1
  have hd : ((o : Int) == (a : Int)) = false := by simp; omega
  have hvo : wordV (splB m a (wordB v)) o = wordV m o := word_other m a o v c1.2 c1.1 c2.1 c3
  have HO := Lib.hid hvo
  clear hvo
  have HS := Lib.hid hsz
  have HA := Lib.hid hva
  have C1 := Lib.hid c1
  have C2 := Lib.hid c2
  clear hva c1 c2
  generalize hK : splB m a (wordB v) = K at *
  have HK := Lib.hid hK
  clear hK hsz
  go_enter Try.func5, Try.ntmps5
  go_wp2_with fail
  refine (shown_any _).mono ?_
  rintro e w1 ⟨rfl, hb1⟩
  go_wp2_with fail
  refine (store_yes _ _ _ _ h1 hv0 hv1 hm C1.out.1 C1.out.2).mono ?_
  rw [HK.out]
  rintro e w2 ⟨rfl, hb2⟩
  go_wp2_with fail
  refine (load_yes _ _ _ h1 (by rw [HS.out]; exact hm) C1.out.1 (by rw [HS.out]; exact C1.out.2)).mono ?_
  rw [HA.out]
  rintro e w3 ⟨rfl, hb3⟩
  have HB3 : Hid (Below w.heap.size w w3) := ((Below.refl _ _).alloc (Nat.le_refl _) _).trans ((hb1.trans ((hb2.trans (hb3.mono hb2.size)).mono hb1.size)).mono (by simp))
  clear hb1 hb2 hb3
  go_wp2_with fail
  refine (load_yes _ _ _ h2 hm C2.out.1 C2.out.2).mono ?_
  rintro e w4 ⟨rfl, hb4⟩
  go_wp2_with fail
  refine (load_yes _ _ _ h2 (by rw [HS.out]; exact hm) C2.out.1 (by rw [HS.out]; exact C2.out.2)).mono ?_
  rw [HO.out]
  rintro e w5 ⟨rfl, hb5⟩
  have HB : Hid (Below w.heap.size w w5) := HB3.out.trans ((hb4.trans (hb5.mono hb4.size)).mono HB3.out.size)
  clear hb4 hb5
  have HL : K.size = m.size := HS.out
  go_wp2
  all_goals go_ret
  all_goals exact ⟨ret_bool (by simp), HB.out⟩

set_option maxHeartbeats 1000000 in
theorem back_00 (m : ByteArray) (a o : Nat) (v : Int) (w : World) (h1 : (a : Int) < 4294967296) (h2 : (o : Int) < 4294967296) (hv0 : 0 ≤ v) (hv1 : v < 4294967296) (hm : m.size ≤ 140737488351232) (c1 : a % 4 = 0 ∧ a + 4 ≤ m.size) (c2 : ¬ (o % 4 = 0 ∧ o + 4 ≤ m.size)) (c3 : o ≠ a) :
    Calls Try.prog 5 #[inV m a v o] w fun e w' => e = .returned (.bool true) ∧ Below w.heap.size w w' := by
  have hsz : (splB m a (wordB v)).size = m.size := splB_size m a _ (by rw [wordB_size]; omega)
  have hva : wordV (splB m a (wordB v)) a = v := word_back m a v c1.2 hv0 hv1
  have hd : ((o : Int) == (a : Int)) = false := by simp; omega
  have HS := Lib.hid hsz
  have HA := Lib.hid hva
  have C1 := Lib.hid c1
  have C2 := Lib.hid c2
  clear hva c1 c2
  generalize hK : splB m a (wordB v) = K at *
  have HK := Lib.hid hK
  clear hK hsz
  go_enter Try.func5, Try.ntmps5
  go_wp2_with fail
  refine (shown_any _).mono ?_
  rintro e w1 ⟨rfl, hb1⟩
  go_wp2_with fail
  refine (store_yes _ _ _ _ h1 hv0 hv1 hm C1.out.1 C1.out.2).mono ?_
  rw [HK.out]
  rintro e w2 ⟨rfl, hb2⟩
  go_wp2_with fail
  refine (load_yes _ _ _ h1 (by rw [HS.out]; exact hm) C1.out.1 (by rw [HS.out]; exact C1.out.2)).mono ?_
  rw [HA.out]
  rintro e w3 ⟨rfl, hb3⟩
  have HB3 : Hid (Below w.heap.size w w3) := ((Below.refl _ _).alloc (Nat.le_refl _) _).trans ((hb1.trans ((hb2.trans (hb3.mono hb2.size)).mono hb1.size)).mono (by simp))
  clear hb1 hb2 hb3
  go_wp2_with fail
  refine (load_no _ _ _ (by omega) h2 hm (stands_of_not C2.out)).mono ?_
  rintro e w' ⟨rfl, rfl⟩
  go_wp2_with fail
  refine (load_no _ _ _ (by omega) h2 (by rw [HS.out]; exact hm) (stands_of_not (by rw [HS.out]; exact C2.out))).mono ?_
  rintro e w' ⟨rfl, rfl⟩
  have HB := HB3
  have HL : K.size = m.size := HS.out
  go_wp2
  all_goals go_ret
  all_goals exact ⟨ret_bool (by simp), HB.out⟩

theorem back_walk (m : ByteArray) (a o : Nat) (v : Int) (w : World) (h1 : (a : Int) < 4294967296) (h2 : (o : Int) < 4294967296) (hv0 : 0 ≤ v) (hv1 : v < 4294967296) (hm : m.size ≤ 140737488351232) :
    Calls Try.prog 5 #[inV m a v o] w fun e w' => e = .returned (.bool true) ∧ Below w.heap.size w w' := by
  by_cases c1 : a % 4 = 0 ∧ a + 4 ≤ m.size
  · by_cases c3 : o = a
    · exact back_11 m a o v w h1 h2 hv0 hv1 hm c1 (by rw [c3]; exact c1) c3
    · by_cases c2 : o % 4 = 0 ∧ o + 4 ≤ m.size
      · exact back_01 m a o v w h1 h2 hv0 hv1 hm c1 c2 c3
      · exact back_00 m a o v w h1 h2 hv0 hv1 hm c1 c2 c3
  · exact back_no m a o v w h1 h2 hv0 hv1 hm c1
end Go.Proofs.Ytoagodlengljgaa
