/- The law IsaWords, walked. -/
import Derived.Test.YtnpgfjkenjldlaaDoorIsaL2
namespace Go.Proofs.YtnpgfjkenjldlaaDoor
open Go.RowKit
set_option linter.unusedVariables false

set_option maxHeartbeats 2000000 in
theorem words_true_true (o a b i n : Int) (w : World) (hT : UsesAt w) (h0 : 0 ≤ n) (h1 : n < 4294967296) (hm : rMay o a b i = true) (hn : tMay n = true) :
    Calls Tryd.prog 3 #[insV o a b i, .int .u32 n] w fun e w' => e = .returned (.bool true) ∧ Below w.heap.size w w' := by
  have HT := Lib.hid hT
  clear hT
  have heq := @eql_ins
  have hrefl : insEq (tO n) (tA n) (tB n) (tI n) (tO n) (tA n) (tB n) (tI n) = true := by simp [insEq]
  have HM := Lib.hid hm
  have HN := Lib.hid hn
  clear hm hn
  go_enter Tryd.func3, Tryd.ntmps3
  go_wp2_with fail
  refine (shown_any _ (HT.out.alloc _)).mono ?_
  rintro e w1 ⟨rfl, hb1⟩
  have hz1 : w.heap.size < w1.heap.size := by have := hb1.size; simp at this; omega
  have c00 : w1.cell? ⟨w.heap.size, 0, none⟩ = some (.int .i64 o) := (hb1.cell (by simp <;> omega)).trans (by simp)
  have c01 : w1.cell? ⟨w.heap.size, 1, none⟩ = some (.int .i64 a) := (hb1.cell (by simp <;> omega)).trans (by simp)
  have c02 : w1.cell? ⟨w.heap.size, 2, none⟩ = some (.int .i64 b) := (hb1.cell (by simp <;> omega)).trans (by simp)
  have c03 : w1.cell? ⟨w.heap.size, 3, none⟩ = some (.int .i64 i) := (hb1.cell (by simp <;> omega)).trans (by simp)
  go_wp2_with fail
  refine (word_yes _ _ _ _ _ ((HT.out.alloc _).below hb1) HM.out).mono ?_
  rintro e w2 ⟨rfl, hb2⟩
  have hz2 : w.heap.size < w2.heap.size := Nat.lt_of_lt_of_le hz1 hb2.size
  have d00 : w2.cell? ⟨w.heap.size, 0, none⟩ = some (.int .i64 o) := (hb2.cell (by simp <;> omega)).trans c00
  have d01 : w2.cell? ⟨w.heap.size, 1, none⟩ = some (.int .i64 a) := (hb2.cell (by simp <;> omega)).trans c01
  have d02 : w2.cell? ⟨w.heap.size, 2, none⟩ = some (.int .i64 b) := (hb2.cell (by simp <;> omega)).trans c02
  have d03 : w2.cell? ⟨w.heap.size, 3, none⟩ = some (.int .i64 i) := (hb2.cell (by simp <;> omega)).trans c03
  clear c00 c01 c02 c03
  have HT2 := Lib.hid (((HT.out.alloc (.cells #[.int .i64 o, .int .i64 a, .int .i64 b, .int .i64 i] 23)).below hb1).below hb2)
  have HB2 : Hid (Below w.heap.size w w2) := ((Below.refl _ _).alloc (Nat.le_refl _) _).trans ((hb1.trans (hb2.mono hb1.size)).mono (by simp <;> omega))
  clear hb1 hb2
  go_wp2_with fail
  refine (rWord_yes _ _ _ _ _ HM.out).mono ?_
  rintro e w3 ⟨rfl, hb3⟩
  have hz3 : w.heap.size < w3.heap.size := Nat.lt_of_lt_of_le hz2 hb3.size
  have e00 : w3.cell? ⟨w.heap.size, 0, none⟩ = some (.int .i64 o) := (hb3.cell (by simp <;> omega)).trans d00
  have e01 : w3.cell? ⟨w.heap.size, 1, none⟩ = some (.int .i64 a) := (hb3.cell (by simp <;> omega)).trans d01
  have e02 : w3.cell? ⟨w.heap.size, 2, none⟩ = some (.int .i64 b) := (hb3.cell (by simp <;> omega)).trans d02
  have e03 : w3.cell? ⟨w.heap.size, 3, none⟩ = some (.int .i64 i) := (hb3.cell (by simp <;> omega)).trans d03
  clear d00 d01 d02 d03
  have HT3 := Lib.hid (HT2.out.below hb3)
  have HB3 : Hid (Below w.heap.size w w3) := HB2.out.trans (hb3.mono HB2.out.size)
  clear hb3
  go_wp2_with fail
  refine (take_yes _ _ HT3.out h0 h1 HN.out).mono ?_
  rintro e w4 ⟨rfl, hb4⟩
  have hz4 : w.heap.size < w4.heap.size := Nat.lt_of_lt_of_le hz3 hb4.size
  have f00 : w4.cell? ⟨w.heap.size, 0, none⟩ = some (.int .i64 o) := (hb4.cell (by simp <;> omega)).trans e00
  have f01 : w4.cell? ⟨w.heap.size, 1, none⟩ = some (.int .i64 a) := (hb4.cell (by simp <;> omega)).trans e01
  have f02 : w4.cell? ⟨w.heap.size, 2, none⟩ = some (.int .i64 b) := (hb4.cell (by simp <;> omega)).trans e02
  have f03 : w4.cell? ⟨w.heap.size, 3, none⟩ = some (.int .i64 i) := (hb4.cell (by simp <;> omega)).trans e03
  clear e00 e01 e02 e03
  have HT4 := Lib.hid (HT3.out.below hb4)
  have HB4 : Hid (Below w.heap.size w w4) := HB3.out.trans (hb4.mono HB3.out.size)
  clear hb4
  go_wp2_with fail
  refine (rTake_yes _ _ h0 h1 HN.out).mono ?_
  rintro e w5 ⟨rfl, hb5⟩
  have hz5 : w4.heap.size < w5.heap.size := by have := hb5.size; simp at this; omega
  have g00 : w5.cell? ⟨w.heap.size, 0, none⟩ = some (.int .i64 o) := (hb5.cell (by simp <;> omega)).trans (by rw [World.cell?_alloc_past _ _ _ hz4]; exact f00)
  have g01 : w5.cell? ⟨w.heap.size, 1, none⟩ = some (.int .i64 a) := (hb5.cell (by simp <;> omega)).trans (by rw [World.cell?_alloc_past _ _ _ hz4]; exact f01)
  have g02 : w5.cell? ⟨w.heap.size, 2, none⟩ = some (.int .i64 b) := (hb5.cell (by simp <;> omega)).trans (by rw [World.cell?_alloc_past _ _ _ hz4]; exact f02)
  have g03 : w5.cell? ⟨w.heap.size, 3, none⟩ = some (.int .i64 i) := (hb5.cell (by simp <;> omega)).trans (by rw [World.cell?_alloc_past _ _ _ hz4]; exact f03)
  have x00 : w5.cell? ⟨w4.heap.size, 0, none⟩ = some (.int .i64 (tO n)) := (hb5.cell (by simp <;> omega)).trans (by simp)
  have x01 : w5.cell? ⟨w4.heap.size, 1, none⟩ = some (.int .i64 (tA n)) := (hb5.cell (by simp <;> omega)).trans (by simp)
  have x02 : w5.cell? ⟨w4.heap.size, 2, none⟩ = some (.int .i64 (tB n)) := (hb5.cell (by simp <;> omega)).trans (by simp)
  have x03 : w5.cell? ⟨w4.heap.size, 3, none⟩ = some (.int .i64 (tI n)) := (hb5.cell (by simp <;> omega)).trans (by simp)
  clear f00 f01 f02 f03
  have HT5 := Lib.hid ((HT4.out.alloc (.cells #[.int .i64 (tO n), .int .i64 (tA n), .int .i64 (tB n), .int .i64 (tI n)] 23)).below hb5)
  have HB5 : Hid (Below w.heap.size w w5) := (HB4.out.alloc HB4.out.size _).trans (hb5.mono (by simp; have := HB4.out.size; omega))
  clear hb5
  go_wp2
  go_region_held3 (fun W => UsesAt W ∧ Below w.heap.size w W ∧ w5.heap.size + 1 ≤ W.heap.size ∧ W.cell? ⟨w.heap.size, 0, none⟩ = some (.int .i64 o) ∧ W.cell? ⟨w.heap.size, 1, none⟩ = some (.int .i64 a) ∧ W.cell? ⟨w.heap.size, 2, none⟩ = some (.int .i64 b) ∧ W.cell? ⟨w.heap.size, 3, none⟩ = some (.int .i64 i) ∧ W.cell? ⟨w4.heap.size, 0, none⟩ = some (.int .i64 (tO n)) ∧ W.cell? ⟨w4.heap.size, 1, none⟩ = some (.int .i64 (tA n)) ∧ W.cell? ⟨w4.heap.size, 2, none⟩ = some (.int .i64 (tB n)) ∧ W.cell? ⟨w4.heap.size, 3, none⟩ = some (.int .i64 (tI n)) ∧ W.cell? ⟨w5.heap.size, 0, none⟩ = some (.int .i64 (tO n)) ∧ W.cell? ⟨w5.heap.size, 1, none⟩ = some (.int .i64 (tA n)) ∧ W.cell? ⟨w5.heap.size, 2, none⟩ = some (.int .i64 (tB n)) ∧ W.cell? ⟨w5.heap.size, 3, none⟩ = some (.int .i64 (tI n)))
    ((refine ⟨?_, ?_, ?_, ?_, ?_, ?_, ?_, ?_, ?_, ?_, ?_, ?_, ?_, ?_, ?_⟩ <;> first | (go_keep; done) | exact (HT5.out.alloc _).drew | exact (HB5.out.alloc HB5.out.size _).drew | exact k1.below hb | exact k2.trans (hb.mono k2.size) | (have := hb.size; omega) | exact (hb.cell (by simp <;> omega)).trans (by assumption)))
    ((first | (go_at_call 16; obtain ⟨k1, k2, k3, k4⟩ : UsesAt _ ∧ Below w.heap.size w _ ∧ w5.heap.size + 1 ≤ _ ∧ _ := (by assumption); obtain ⟨m1, m2, m3, m4, m5, m6, m7, m8, m9, m10, m11, m12⟩ := k4; refine (may_any _ _ _ _ _ k1).mono ?_; rintro e w' ⟨rfl, hb⟩) | (go_at_call 17; obtain ⟨k1, k2, k3, k4⟩ : UsesAt _ ∧ Below w.heap.size w _ ∧ w5.heap.size + 1 ≤ _ ∧ _ := (by assumption); obtain ⟨m1, m2, m3, m4, m5, m6, m7, m8, m9, m10, m11, m12⟩ := k4; refine (rMay_any _ _ _ _ _).mono ?_; rintro e w' ⟨rfl, hb⟩)))
  go_wp2
  go_ret
  obtain ⟨s1, s2, s3⟩ : UsesAt _ ∧ Below w.heap.size w _ ∧ _ := (by assumption)
  exact ⟨ret_bool (by simp [may_eq]), s2⟩

set_option maxHeartbeats 2000000 in
theorem words_true_false (o a b i n : Int) (w : World) (hT : UsesAt w) (h0 : 0 ≤ n) (h1 : n < 4294967296) (hm : rMay o a b i = true) (hn : tMay n = false) :
    Calls Tryd.prog 3 #[insV o a b i, .int .u32 n] w fun e w' => e = .returned (.bool true) ∧ Below w.heap.size w w' := by
  have HT := Lib.hid hT
  clear hT
  have heq := @eql_ins
  have hrefl : insEq 0 0 0 0 0 0 0 0 = true := by simp [insEq]
  have HM := Lib.hid hm
  have HN := Lib.hid hn
  clear hm hn
  go_enter Tryd.func3, Tryd.ntmps3
  go_wp2_with fail
  refine (shown_any _ (HT.out.alloc _)).mono ?_
  rintro e w1 ⟨rfl, hb1⟩
  have hz1 : w.heap.size < w1.heap.size := by have := hb1.size; simp at this; omega
  have c00 : w1.cell? ⟨w.heap.size, 0, none⟩ = some (.int .i64 o) := (hb1.cell (by simp <;> omega)).trans (by simp)
  have c01 : w1.cell? ⟨w.heap.size, 1, none⟩ = some (.int .i64 a) := (hb1.cell (by simp <;> omega)).trans (by simp)
  have c02 : w1.cell? ⟨w.heap.size, 2, none⟩ = some (.int .i64 b) := (hb1.cell (by simp <;> omega)).trans (by simp)
  have c03 : w1.cell? ⟨w.heap.size, 3, none⟩ = some (.int .i64 i) := (hb1.cell (by simp <;> omega)).trans (by simp)
  go_wp2_with fail
  refine (word_yes _ _ _ _ _ ((HT.out.alloc _).below hb1) HM.out).mono ?_
  rintro e w2 ⟨rfl, hb2⟩
  have hz2 : w.heap.size < w2.heap.size := Nat.lt_of_lt_of_le hz1 hb2.size
  have d00 : w2.cell? ⟨w.heap.size, 0, none⟩ = some (.int .i64 o) := (hb2.cell (by simp <;> omega)).trans c00
  have d01 : w2.cell? ⟨w.heap.size, 1, none⟩ = some (.int .i64 a) := (hb2.cell (by simp <;> omega)).trans c01
  have d02 : w2.cell? ⟨w.heap.size, 2, none⟩ = some (.int .i64 b) := (hb2.cell (by simp <;> omega)).trans c02
  have d03 : w2.cell? ⟨w.heap.size, 3, none⟩ = some (.int .i64 i) := (hb2.cell (by simp <;> omega)).trans c03
  clear c00 c01 c02 c03
  have HT2 := Lib.hid (((HT.out.alloc (.cells #[.int .i64 o, .int .i64 a, .int .i64 b, .int .i64 i] 23)).below hb1).below hb2)
  have HB2 : Hid (Below w.heap.size w w2) := ((Below.refl _ _).alloc (Nat.le_refl _) _).trans ((hb1.trans (hb2.mono hb1.size)).mono (by simp <;> omega))
  clear hb1 hb2
  go_wp2_with fail
  refine (rWord_yes _ _ _ _ _ HM.out).mono ?_
  rintro e w3 ⟨rfl, hb3⟩
  have hz3 : w.heap.size < w3.heap.size := Nat.lt_of_lt_of_le hz2 hb3.size
  have e00 : w3.cell? ⟨w.heap.size, 0, none⟩ = some (.int .i64 o) := (hb3.cell (by simp <;> omega)).trans d00
  have e01 : w3.cell? ⟨w.heap.size, 1, none⟩ = some (.int .i64 a) := (hb3.cell (by simp <;> omega)).trans d01
  have e02 : w3.cell? ⟨w.heap.size, 2, none⟩ = some (.int .i64 b) := (hb3.cell (by simp <;> omega)).trans d02
  have e03 : w3.cell? ⟨w.heap.size, 3, none⟩ = some (.int .i64 i) := (hb3.cell (by simp <;> omega)).trans d03
  clear d00 d01 d02 d03
  have HT3 := Lib.hid (HT2.out.below hb3)
  have HB3 : Hid (Below w.heap.size w w3) := HB2.out.trans (hb3.mono HB2.out.size)
  clear hb3
  go_wp2_with fail
  refine (take_no _ _ HT3.out h0 h1 HN.out).mono ?_
  rintro e w4 ⟨rfl, hb4⟩
  have hz4 : w.heap.size < w4.heap.size := Nat.lt_of_lt_of_le hz3 hb4.size
  have f00 : w4.cell? ⟨w.heap.size, 0, none⟩ = some (.int .i64 o) := (hb4.cell (by simp <;> omega)).trans e00
  have f01 : w4.cell? ⟨w.heap.size, 1, none⟩ = some (.int .i64 a) := (hb4.cell (by simp <;> omega)).trans e01
  have f02 : w4.cell? ⟨w.heap.size, 2, none⟩ = some (.int .i64 b) := (hb4.cell (by simp <;> omega)).trans e02
  have f03 : w4.cell? ⟨w.heap.size, 3, none⟩ = some (.int .i64 i) := (hb4.cell (by simp <;> omega)).trans e03
  clear e00 e01 e02 e03
  have HT4 := Lib.hid (HT3.out.below hb4)
  have HB4 : Hid (Below w.heap.size w w4) := HB3.out.trans (hb4.mono HB3.out.size)
  clear hb4
  go_wp2_with fail
  refine (rTake_no _ _ h0 h1 HN.out).mono ?_
  rintro e w5 ⟨rfl, hb5⟩
  have hz5 : w4.heap.size < w5.heap.size := by have := hb5.size; simp at this; omega
  have g00 : w5.cell? ⟨w.heap.size, 0, none⟩ = some (.int .i64 o) := (hb5.cell (by simp <;> omega)).trans (by rw [World.cell?_alloc_past _ _ _ hz4]; exact f00)
  have g01 : w5.cell? ⟨w.heap.size, 1, none⟩ = some (.int .i64 a) := (hb5.cell (by simp <;> omega)).trans (by rw [World.cell?_alloc_past _ _ _ hz4]; exact f01)
  have g02 : w5.cell? ⟨w.heap.size, 2, none⟩ = some (.int .i64 b) := (hb5.cell (by simp <;> omega)).trans (by rw [World.cell?_alloc_past _ _ _ hz4]; exact f02)
  have g03 : w5.cell? ⟨w.heap.size, 3, none⟩ = some (.int .i64 i) := (hb5.cell (by simp <;> omega)).trans (by rw [World.cell?_alloc_past _ _ _ hz4]; exact f03)
  have x00 : w5.cell? ⟨w4.heap.size, 0, none⟩ = some (.int .i64 0) := (hb5.cell (by simp <;> omega)).trans (by simp)
  have x01 : w5.cell? ⟨w4.heap.size, 1, none⟩ = some (.int .i64 0) := (hb5.cell (by simp <;> omega)).trans (by simp)
  have x02 : w5.cell? ⟨w4.heap.size, 2, none⟩ = some (.int .i64 0) := (hb5.cell (by simp <;> omega)).trans (by simp)
  have x03 : w5.cell? ⟨w4.heap.size, 3, none⟩ = some (.int .i64 0) := (hb5.cell (by simp <;> omega)).trans (by simp)
  clear f00 f01 f02 f03
  have HT5 := Lib.hid ((HT4.out.alloc (.cells #[.int .i64 0, .int .i64 0, .int .i64 0, .int .i64 0] 23)).below hb5)
  have HB5 : Hid (Below w.heap.size w w5) := (HB4.out.alloc HB4.out.size _).trans (hb5.mono (by simp; have := HB4.out.size; omega))
  clear hb5
  go_wp2
  go_region_held3 (fun W => UsesAt W ∧ Below w.heap.size w W ∧ w5.heap.size + 1 ≤ W.heap.size ∧ W.cell? ⟨w.heap.size, 0, none⟩ = some (.int .i64 o) ∧ W.cell? ⟨w.heap.size, 1, none⟩ = some (.int .i64 a) ∧ W.cell? ⟨w.heap.size, 2, none⟩ = some (.int .i64 b) ∧ W.cell? ⟨w.heap.size, 3, none⟩ = some (.int .i64 i) ∧ W.cell? ⟨w4.heap.size, 0, none⟩ = some (.int .i64 0) ∧ W.cell? ⟨w4.heap.size, 1, none⟩ = some (.int .i64 0) ∧ W.cell? ⟨w4.heap.size, 2, none⟩ = some (.int .i64 0) ∧ W.cell? ⟨w4.heap.size, 3, none⟩ = some (.int .i64 0) ∧ W.cell? ⟨w5.heap.size, 0, none⟩ = some (.int .i64 0) ∧ W.cell? ⟨w5.heap.size, 1, none⟩ = some (.int .i64 0) ∧ W.cell? ⟨w5.heap.size, 2, none⟩ = some (.int .i64 0) ∧ W.cell? ⟨w5.heap.size, 3, none⟩ = some (.int .i64 0))
    ((refine ⟨?_, ?_, ?_, ?_, ?_, ?_, ?_, ?_, ?_, ?_, ?_, ?_, ?_, ?_, ?_⟩ <;> first | (go_keep; done) | exact (HT5.out.alloc _).drew | exact (HB5.out.alloc HB5.out.size _).drew | exact k1.below hb | exact k2.trans (hb.mono k2.size) | (have := hb.size; omega) | exact (hb.cell (by simp <;> omega)).trans (by assumption)))
    ((first | (go_at_call 16; obtain ⟨k1, k2, k3, k4⟩ : UsesAt _ ∧ Below w.heap.size w _ ∧ w5.heap.size + 1 ≤ _ ∧ _ := (by assumption); obtain ⟨m1, m2, m3, m4, m5, m6, m7, m8, m9, m10, m11, m12⟩ := k4; refine (may_any _ _ _ _ _ k1).mono ?_; rintro e w' ⟨rfl, hb⟩) | (go_at_call 17; obtain ⟨k1, k2, k3, k4⟩ : UsesAt _ ∧ Below w.heap.size w _ ∧ w5.heap.size + 1 ≤ _ ∧ _ := (by assumption); obtain ⟨m1, m2, m3, m4, m5, m6, m7, m8, m9, m10, m11, m12⟩ := k4; refine (rMay_any _ _ _ _ _).mono ?_; rintro e w' ⟨rfl, hb⟩)))
  go_wp2
  go_ret
  obtain ⟨s1, s2, s3⟩ : UsesAt _ ∧ Below w.heap.size w _ ∧ _ := (by assumption)
  exact ⟨ret_bool (by simp [may_eq]), s2⟩

set_option maxHeartbeats 2000000 in
theorem words_false_true (o a b i n : Int) (w : World) (hT : UsesAt w) (h0 : 0 ≤ n) (h1 : n < 4294967296) (hm : rMay o a b i = false) (hn : tMay n = true) :
    Calls Tryd.prog 3 #[insV o a b i, .int .u32 n] w fun e w' => e = .returned (.bool true) ∧ Below w.heap.size w w' := by
  have HT := Lib.hid hT
  clear hT
  have heq := @eql_ins
  have hrefl : insEq (tO n) (tA n) (tB n) (tI n) (tO n) (tA n) (tB n) (tI n) = true := by simp [insEq]
  have HM := Lib.hid hm
  have HN := Lib.hid hn
  clear hm hn
  go_enter Tryd.func3, Tryd.ntmps3
  go_wp2_with fail
  refine (shown_any _ (HT.out.alloc _)).mono ?_
  rintro e w1 ⟨rfl, hb1⟩
  have hz1 : w.heap.size < w1.heap.size := by have := hb1.size; simp at this; omega
  have c00 : w1.cell? ⟨w.heap.size, 0, none⟩ = some (.int .i64 o) := (hb1.cell (by simp <;> omega)).trans (by simp)
  have c01 : w1.cell? ⟨w.heap.size, 1, none⟩ = some (.int .i64 a) := (hb1.cell (by simp <;> omega)).trans (by simp)
  have c02 : w1.cell? ⟨w.heap.size, 2, none⟩ = some (.int .i64 b) := (hb1.cell (by simp <;> omega)).trans (by simp)
  have c03 : w1.cell? ⟨w.heap.size, 3, none⟩ = some (.int .i64 i) := (hb1.cell (by simp <;> omega)).trans (by simp)
  go_wp2_with fail
  refine (word_no _ _ _ _ _ ((HT.out.alloc _).below hb1) HM.out).mono ?_
  rintro e w2 ⟨rfl, hb2⟩
  have hz2 : w.heap.size < w2.heap.size := Nat.lt_of_lt_of_le hz1 hb2.size
  have d00 : w2.cell? ⟨w.heap.size, 0, none⟩ = some (.int .i64 o) := (hb2.cell (by simp <;> omega)).trans c00
  have d01 : w2.cell? ⟨w.heap.size, 1, none⟩ = some (.int .i64 a) := (hb2.cell (by simp <;> omega)).trans c01
  have d02 : w2.cell? ⟨w.heap.size, 2, none⟩ = some (.int .i64 b) := (hb2.cell (by simp <;> omega)).trans c02
  have d03 : w2.cell? ⟨w.heap.size, 3, none⟩ = some (.int .i64 i) := (hb2.cell (by simp <;> omega)).trans c03
  clear c00 c01 c02 c03
  have HT2 := Lib.hid (((HT.out.alloc (.cells #[.int .i64 o, .int .i64 a, .int .i64 b, .int .i64 i] 23)).below hb1).below hb2)
  have HB2 : Hid (Below w.heap.size w w2) := ((Below.refl _ _).alloc (Nat.le_refl _) _).trans ((hb1.trans (hb2.mono hb1.size)).mono (by simp <;> omega))
  clear hb1 hb2
  go_wp2_with fail
  refine (rWord_no _ _ _ _ _ HM.out).mono ?_
  rintro e w3 ⟨rfl, hb3⟩
  have hz3 : w.heap.size < w3.heap.size := Nat.lt_of_lt_of_le hz2 hb3.size
  have e00 : w3.cell? ⟨w.heap.size, 0, none⟩ = some (.int .i64 o) := (hb3.cell (by simp <;> omega)).trans d00
  have e01 : w3.cell? ⟨w.heap.size, 1, none⟩ = some (.int .i64 a) := (hb3.cell (by simp <;> omega)).trans d01
  have e02 : w3.cell? ⟨w.heap.size, 2, none⟩ = some (.int .i64 b) := (hb3.cell (by simp <;> omega)).trans d02
  have e03 : w3.cell? ⟨w.heap.size, 3, none⟩ = some (.int .i64 i) := (hb3.cell (by simp <;> omega)).trans d03
  clear d00 d01 d02 d03
  have HT3 := Lib.hid (HT2.out.below hb3)
  have HB3 : Hid (Below w.heap.size w w3) := HB2.out.trans (hb3.mono HB2.out.size)
  clear hb3
  go_wp2_with fail
  refine (take_yes _ _ HT3.out h0 h1 HN.out).mono ?_
  rintro e w4 ⟨rfl, hb4⟩
  have hz4 : w.heap.size < w4.heap.size := Nat.lt_of_lt_of_le hz3 hb4.size
  have f00 : w4.cell? ⟨w.heap.size, 0, none⟩ = some (.int .i64 o) := (hb4.cell (by simp <;> omega)).trans e00
  have f01 : w4.cell? ⟨w.heap.size, 1, none⟩ = some (.int .i64 a) := (hb4.cell (by simp <;> omega)).trans e01
  have f02 : w4.cell? ⟨w.heap.size, 2, none⟩ = some (.int .i64 b) := (hb4.cell (by simp <;> omega)).trans e02
  have f03 : w4.cell? ⟨w.heap.size, 3, none⟩ = some (.int .i64 i) := (hb4.cell (by simp <;> omega)).trans e03
  clear e00 e01 e02 e03
  have HT4 := Lib.hid (HT3.out.below hb4)
  have HB4 : Hid (Below w.heap.size w w4) := HB3.out.trans (hb4.mono HB3.out.size)
  clear hb4
  go_wp2_with fail
  refine (rTake_yes _ _ h0 h1 HN.out).mono ?_
  rintro e w5 ⟨rfl, hb5⟩
  have hz5 : w4.heap.size < w5.heap.size := by have := hb5.size; simp at this; omega
  have g00 : w5.cell? ⟨w.heap.size, 0, none⟩ = some (.int .i64 o) := (hb5.cell (by simp <;> omega)).trans (by rw [World.cell?_alloc_past _ _ _ hz4]; exact f00)
  have g01 : w5.cell? ⟨w.heap.size, 1, none⟩ = some (.int .i64 a) := (hb5.cell (by simp <;> omega)).trans (by rw [World.cell?_alloc_past _ _ _ hz4]; exact f01)
  have g02 : w5.cell? ⟨w.heap.size, 2, none⟩ = some (.int .i64 b) := (hb5.cell (by simp <;> omega)).trans (by rw [World.cell?_alloc_past _ _ _ hz4]; exact f02)
  have g03 : w5.cell? ⟨w.heap.size, 3, none⟩ = some (.int .i64 i) := (hb5.cell (by simp <;> omega)).trans (by rw [World.cell?_alloc_past _ _ _ hz4]; exact f03)
  have x00 : w5.cell? ⟨w4.heap.size, 0, none⟩ = some (.int .i64 (tO n)) := (hb5.cell (by simp <;> omega)).trans (by simp)
  have x01 : w5.cell? ⟨w4.heap.size, 1, none⟩ = some (.int .i64 (tA n)) := (hb5.cell (by simp <;> omega)).trans (by simp)
  have x02 : w5.cell? ⟨w4.heap.size, 2, none⟩ = some (.int .i64 (tB n)) := (hb5.cell (by simp <;> omega)).trans (by simp)
  have x03 : w5.cell? ⟨w4.heap.size, 3, none⟩ = some (.int .i64 (tI n)) := (hb5.cell (by simp <;> omega)).trans (by simp)
  clear f00 f01 f02 f03
  have HT5 := Lib.hid ((HT4.out.alloc (.cells #[.int .i64 (tO n), .int .i64 (tA n), .int .i64 (tB n), .int .i64 (tI n)] 23)).below hb5)
  have HB5 : Hid (Below w.heap.size w w5) := (HB4.out.alloc HB4.out.size _).trans (hb5.mono (by simp; have := HB4.out.size; omega))
  clear hb5
  go_wp2
  go_region_held3 (fun W => UsesAt W ∧ Below w.heap.size w W ∧ w5.heap.size + 1 ≤ W.heap.size ∧ W.cell? ⟨w.heap.size, 0, none⟩ = some (.int .i64 o) ∧ W.cell? ⟨w.heap.size, 1, none⟩ = some (.int .i64 a) ∧ W.cell? ⟨w.heap.size, 2, none⟩ = some (.int .i64 b) ∧ W.cell? ⟨w.heap.size, 3, none⟩ = some (.int .i64 i) ∧ W.cell? ⟨w4.heap.size, 0, none⟩ = some (.int .i64 (tO n)) ∧ W.cell? ⟨w4.heap.size, 1, none⟩ = some (.int .i64 (tA n)) ∧ W.cell? ⟨w4.heap.size, 2, none⟩ = some (.int .i64 (tB n)) ∧ W.cell? ⟨w4.heap.size, 3, none⟩ = some (.int .i64 (tI n)) ∧ W.cell? ⟨w5.heap.size, 0, none⟩ = some (.int .i64 (tO n)) ∧ W.cell? ⟨w5.heap.size, 1, none⟩ = some (.int .i64 (tA n)) ∧ W.cell? ⟨w5.heap.size, 2, none⟩ = some (.int .i64 (tB n)) ∧ W.cell? ⟨w5.heap.size, 3, none⟩ = some (.int .i64 (tI n)))
    ((refine ⟨?_, ?_, ?_, ?_, ?_, ?_, ?_, ?_, ?_, ?_, ?_, ?_, ?_, ?_, ?_⟩ <;> first | (go_keep; done) | exact (HT5.out.alloc _).drew | exact (HB5.out.alloc HB5.out.size _).drew | exact k1.below hb | exact k2.trans (hb.mono k2.size) | (have := hb.size; omega) | exact (hb.cell (by simp <;> omega)).trans (by assumption)))
    ((first | (go_at_call 16; obtain ⟨k1, k2, k3, k4⟩ : UsesAt _ ∧ Below w.heap.size w _ ∧ w5.heap.size + 1 ≤ _ ∧ _ := (by assumption); obtain ⟨m1, m2, m3, m4, m5, m6, m7, m8, m9, m10, m11, m12⟩ := k4; refine (may_any _ _ _ _ _ k1).mono ?_; rintro e w' ⟨rfl, hb⟩) | (go_at_call 17; obtain ⟨k1, k2, k3, k4⟩ : UsesAt _ ∧ Below w.heap.size w _ ∧ w5.heap.size + 1 ≤ _ ∧ _ := (by assumption); obtain ⟨m1, m2, m3, m4, m5, m6, m7, m8, m9, m10, m11, m12⟩ := k4; refine (rMay_any _ _ _ _ _).mono ?_; rintro e w' ⟨rfl, hb⟩)))
  go_wp2
  go_ret
  obtain ⟨s1, s2, s3⟩ : UsesAt _ ∧ Below w.heap.size w _ ∧ _ := (by assumption)
  exact ⟨ret_bool (by simp [may_eq]), s2⟩

set_option maxHeartbeats 2000000 in
theorem words_false_false (o a b i n : Int) (w : World) (hT : UsesAt w) (h0 : 0 ≤ n) (h1 : n < 4294967296) (hm : rMay o a b i = false) (hn : tMay n = false) :
    Calls Tryd.prog 3 #[insV o a b i, .int .u32 n] w fun e w' => e = .returned (.bool true) ∧ Below w.heap.size w w' := by
  have HT := Lib.hid hT
  clear hT
  have heq := @eql_ins
  have hrefl : insEq 0 0 0 0 0 0 0 0 = true := by simp [insEq]
  have HM := Lib.hid hm
  have HN := Lib.hid hn
  clear hm hn
  go_enter Tryd.func3, Tryd.ntmps3
  go_wp2_with fail
  refine (shown_any _ (HT.out.alloc _)).mono ?_
  rintro e w1 ⟨rfl, hb1⟩
  have hz1 : w.heap.size < w1.heap.size := by have := hb1.size; simp at this; omega
  have c00 : w1.cell? ⟨w.heap.size, 0, none⟩ = some (.int .i64 o) := (hb1.cell (by simp <;> omega)).trans (by simp)
  have c01 : w1.cell? ⟨w.heap.size, 1, none⟩ = some (.int .i64 a) := (hb1.cell (by simp <;> omega)).trans (by simp)
  have c02 : w1.cell? ⟨w.heap.size, 2, none⟩ = some (.int .i64 b) := (hb1.cell (by simp <;> omega)).trans (by simp)
  have c03 : w1.cell? ⟨w.heap.size, 3, none⟩ = some (.int .i64 i) := (hb1.cell (by simp <;> omega)).trans (by simp)
  go_wp2_with fail
  refine (word_no _ _ _ _ _ ((HT.out.alloc _).below hb1) HM.out).mono ?_
  rintro e w2 ⟨rfl, hb2⟩
  have hz2 : w.heap.size < w2.heap.size := Nat.lt_of_lt_of_le hz1 hb2.size
  have d00 : w2.cell? ⟨w.heap.size, 0, none⟩ = some (.int .i64 o) := (hb2.cell (by simp <;> omega)).trans c00
  have d01 : w2.cell? ⟨w.heap.size, 1, none⟩ = some (.int .i64 a) := (hb2.cell (by simp <;> omega)).trans c01
  have d02 : w2.cell? ⟨w.heap.size, 2, none⟩ = some (.int .i64 b) := (hb2.cell (by simp <;> omega)).trans c02
  have d03 : w2.cell? ⟨w.heap.size, 3, none⟩ = some (.int .i64 i) := (hb2.cell (by simp <;> omega)).trans c03
  clear c00 c01 c02 c03
  have HT2 := Lib.hid (((HT.out.alloc (.cells #[.int .i64 o, .int .i64 a, .int .i64 b, .int .i64 i] 23)).below hb1).below hb2)
  have HB2 : Hid (Below w.heap.size w w2) := ((Below.refl _ _).alloc (Nat.le_refl _) _).trans ((hb1.trans (hb2.mono hb1.size)).mono (by simp <;> omega))
  clear hb1 hb2
  go_wp2_with fail
  refine (rWord_no _ _ _ _ _ HM.out).mono ?_
  rintro e w3 ⟨rfl, hb3⟩
  have hz3 : w.heap.size < w3.heap.size := Nat.lt_of_lt_of_le hz2 hb3.size
  have e00 : w3.cell? ⟨w.heap.size, 0, none⟩ = some (.int .i64 o) := (hb3.cell (by simp <;> omega)).trans d00
  have e01 : w3.cell? ⟨w.heap.size, 1, none⟩ = some (.int .i64 a) := (hb3.cell (by simp <;> omega)).trans d01
  have e02 : w3.cell? ⟨w.heap.size, 2, none⟩ = some (.int .i64 b) := (hb3.cell (by simp <;> omega)).trans d02
  have e03 : w3.cell? ⟨w.heap.size, 3, none⟩ = some (.int .i64 i) := (hb3.cell (by simp <;> omega)).trans d03
  clear d00 d01 d02 d03
  have HT3 := Lib.hid (HT2.out.below hb3)
  have HB3 : Hid (Below w.heap.size w w3) := HB2.out.trans (hb3.mono HB2.out.size)
  clear hb3
  go_wp2_with fail
  refine (take_no _ _ HT3.out h0 h1 HN.out).mono ?_
  rintro e w4 ⟨rfl, hb4⟩
  have hz4 : w.heap.size < w4.heap.size := Nat.lt_of_lt_of_le hz3 hb4.size
  have f00 : w4.cell? ⟨w.heap.size, 0, none⟩ = some (.int .i64 o) := (hb4.cell (by simp <;> omega)).trans e00
  have f01 : w4.cell? ⟨w.heap.size, 1, none⟩ = some (.int .i64 a) := (hb4.cell (by simp <;> omega)).trans e01
  have f02 : w4.cell? ⟨w.heap.size, 2, none⟩ = some (.int .i64 b) := (hb4.cell (by simp <;> omega)).trans e02
  have f03 : w4.cell? ⟨w.heap.size, 3, none⟩ = some (.int .i64 i) := (hb4.cell (by simp <;> omega)).trans e03
  clear e00 e01 e02 e03
  have HT4 := Lib.hid (HT3.out.below hb4)
  have HB4 : Hid (Below w.heap.size w w4) := HB3.out.trans (hb4.mono HB3.out.size)
  clear hb4
  go_wp2_with fail
  refine (rTake_no _ _ h0 h1 HN.out).mono ?_
  rintro e w5 ⟨rfl, hb5⟩
  have hz5 : w4.heap.size < w5.heap.size := by have := hb5.size; simp at this; omega
  have g00 : w5.cell? ⟨w.heap.size, 0, none⟩ = some (.int .i64 o) := (hb5.cell (by simp <;> omega)).trans (by rw [World.cell?_alloc_past _ _ _ hz4]; exact f00)
  have g01 : w5.cell? ⟨w.heap.size, 1, none⟩ = some (.int .i64 a) := (hb5.cell (by simp <;> omega)).trans (by rw [World.cell?_alloc_past _ _ _ hz4]; exact f01)
  have g02 : w5.cell? ⟨w.heap.size, 2, none⟩ = some (.int .i64 b) := (hb5.cell (by simp <;> omega)).trans (by rw [World.cell?_alloc_past _ _ _ hz4]; exact f02)
  have g03 : w5.cell? ⟨w.heap.size, 3, none⟩ = some (.int .i64 i) := (hb5.cell (by simp <;> omega)).trans (by rw [World.cell?_alloc_past _ _ _ hz4]; exact f03)
  have x00 : w5.cell? ⟨w4.heap.size, 0, none⟩ = some (.int .i64 0) := (hb5.cell (by simp <;> omega)).trans (by simp)
  have x01 : w5.cell? ⟨w4.heap.size, 1, none⟩ = some (.int .i64 0) := (hb5.cell (by simp <;> omega)).trans (by simp)
  have x02 : w5.cell? ⟨w4.heap.size, 2, none⟩ = some (.int .i64 0) := (hb5.cell (by simp <;> omega)).trans (by simp)
  have x03 : w5.cell? ⟨w4.heap.size, 3, none⟩ = some (.int .i64 0) := (hb5.cell (by simp <;> omega)).trans (by simp)
  clear f00 f01 f02 f03
  have HT5 := Lib.hid ((HT4.out.alloc (.cells #[.int .i64 0, .int .i64 0, .int .i64 0, .int .i64 0] 23)).below hb5)
  have HB5 : Hid (Below w.heap.size w w5) := (HB4.out.alloc HB4.out.size _).trans (hb5.mono (by simp; have := HB4.out.size; omega))
  clear hb5
  go_wp2
  go_region_held3 (fun W => UsesAt W ∧ Below w.heap.size w W ∧ w5.heap.size + 1 ≤ W.heap.size ∧ W.cell? ⟨w.heap.size, 0, none⟩ = some (.int .i64 o) ∧ W.cell? ⟨w.heap.size, 1, none⟩ = some (.int .i64 a) ∧ W.cell? ⟨w.heap.size, 2, none⟩ = some (.int .i64 b) ∧ W.cell? ⟨w.heap.size, 3, none⟩ = some (.int .i64 i) ∧ W.cell? ⟨w4.heap.size, 0, none⟩ = some (.int .i64 0) ∧ W.cell? ⟨w4.heap.size, 1, none⟩ = some (.int .i64 0) ∧ W.cell? ⟨w4.heap.size, 2, none⟩ = some (.int .i64 0) ∧ W.cell? ⟨w4.heap.size, 3, none⟩ = some (.int .i64 0) ∧ W.cell? ⟨w5.heap.size, 0, none⟩ = some (.int .i64 0) ∧ W.cell? ⟨w5.heap.size, 1, none⟩ = some (.int .i64 0) ∧ W.cell? ⟨w5.heap.size, 2, none⟩ = some (.int .i64 0) ∧ W.cell? ⟨w5.heap.size, 3, none⟩ = some (.int .i64 0))
    ((refine ⟨?_, ?_, ?_, ?_, ?_, ?_, ?_, ?_, ?_, ?_, ?_, ?_, ?_, ?_, ?_⟩ <;> first | (go_keep; done) | exact (HT5.out.alloc _).drew | exact (HB5.out.alloc HB5.out.size _).drew | exact k1.below hb | exact k2.trans (hb.mono k2.size) | (have := hb.size; omega) | exact (hb.cell (by simp <;> omega)).trans (by assumption)))
    ((first | (go_at_call 16; obtain ⟨k1, k2, k3, k4⟩ : UsesAt _ ∧ Below w.heap.size w _ ∧ w5.heap.size + 1 ≤ _ ∧ _ := (by assumption); obtain ⟨m1, m2, m3, m4, m5, m6, m7, m8, m9, m10, m11, m12⟩ := k4; refine (may_any _ _ _ _ _ k1).mono ?_; rintro e w' ⟨rfl, hb⟩) | (go_at_call 17; obtain ⟨k1, k2, k3, k4⟩ : UsesAt _ ∧ Below w.heap.size w _ ∧ w5.heap.size + 1 ≤ _ ∧ _ := (by assumption); obtain ⟨m1, m2, m3, m4, m5, m6, m7, m8, m9, m10, m11, m12⟩ := k4; refine (rMay_any _ _ _ _ _).mono ?_; rintro e w' ⟨rfl, hb⟩)))
  go_wp2
  go_ret
  obtain ⟨s1, s2, s3⟩ : UsesAt _ ∧ Below w.heap.size w _ ∧ _ := (by assumption)
  exact ⟨ret_bool (by simp [may_eq]), s2⟩

theorem words_walk (o a b i n : Int) (w : World) (hT : UsesAt w) (h0 : 0 ≤ n) (h1 : n < 4294967296) :
    Calls Tryd.prog 3 #[insV o a b i, .int .u32 n] w fun e w' => e = .returned (.bool true) ∧ Below w.heap.size w w' := by
  cases hm : rMay o a b i <;> cases hn : tMay n
  · exact words_false_false _ _ _ _ _ w hT h0 h1 hm hn
  · exact words_false_true _ _ _ _ _ w hT h0 h1 hm hn
  · exact words_true_false _ _ _ _ _ w hT h0 h1 hm hn
  · exact words_true_true _ _ _ _ _ w hT h0 h1 hm hn
end Go.Proofs.YtnpgfjkenjldlaaDoor
