/- The law IsaBack, walked. -/
import Derived.Test.YtnpgfjkenjldlaaDoorIsaL2
namespace Go.Proofs.YtnpgfjkenjldlaaDoor
open Go.RowKit
set_option linter.unusedVariables false

set_option maxHeartbeats 1000000 in
theorem back_true_true (o a b i n : Int) (w : World) (hT : UsesAt w) (h0 : 0 ≤ n) (h1 : n < 4294967296) (hm : rMay o a b i = true) (hn : tMay n = true) :
    Calls Tryd.prog 5 #[insV o a b i, .int .u32 n] w fun e w' => e = .returned (.bool true) ∧ Below w.heap.size w w' := by
  have HT := Lib.hid hT
  clear hT
  have heq := @eql_ins
  have hne := @neq_ins
  have hrefl : insEq o a b i o a b i = true := by simp [insEq]
  have HR := Lib.hid (wordN_range hm)
  have HW := Lib.hid (tMay_word hm)
  have HTW : Hid (tIns (wordN o a b i) = insV o a b i) := by obtain ⟨e1, e2, e3, e4⟩ := take_word hm; show tIns _ = _; unfold tIns; rw [e1, e2, e3, e4]
  have HM := Lib.hid hm
  have HN := Lib.hid hn
  clear hm hn
  go_enter Tryd.func5, Tryd.ntmps5
  go_wp2_with fail
  refine (shown_any _ (HT.out.alloc _)).mono ?_
  rintro e w1 ⟨rfl, hb1⟩
  have hz1 : w.heap.size < w1.heap.size := by have := hb1.size; simp at this; omega
  have c00 : w1.cell? ⟨w.heap.size, 0, none⟩ = some (.int .i64 o) := (hb1.cell (by simp <;> omega)).trans (by simp)
  have c01 : w1.cell? ⟨w.heap.size, 1, none⟩ = some (.int .i64 a) := (hb1.cell (by simp <;> omega)).trans (by simp)
  have c02 : w1.cell? ⟨w.heap.size, 2, none⟩ = some (.int .i64 b) := (hb1.cell (by simp <;> omega)).trans (by simp)
  have c03 : w1.cell? ⟨w.heap.size, 3, none⟩ = some (.int .i64 i) := (hb1.cell (by simp <;> omega)).trans (by simp)
  go_wp2_with fail
  refine (word_yes _ _ _ _ _ ((HT.out.alloc _).below hb1) HM.out).mono ?_
  rintro e w2 ⟨rfl, hb2⟩
  have hz2 : w.heap.size < w2.heap.size := Nat.lt_of_lt_of_le hz1 hb2.size
  have d00 : w2.cell? ⟨w.heap.size, 0, none⟩ = some (.int .i64 o) := (hb2.cell (by simp <;> omega)).trans c00
  have d01 : w2.cell? ⟨w.heap.size, 1, none⟩ = some (.int .i64 a) := (hb2.cell (by simp <;> omega)).trans c01
  have d02 : w2.cell? ⟨w.heap.size, 2, none⟩ = some (.int .i64 b) := (hb2.cell (by simp <;> omega)).trans c02
  have d03 : w2.cell? ⟨w.heap.size, 3, none⟩ = some (.int .i64 i) := (hb2.cell (by simp <;> omega)).trans c03
  clear c00 c01 c02 c03
  have HT2 := Lib.hid (((HT.out.alloc (.cells #[.int .i64 o, .int .i64 a, .int .i64 b, .int .i64 i] 23)).below hb1).below hb2)
  have HB2 : Hid (Below w.heap.size w w2) := ((Below.refl _ _).alloc (Nat.le_refl _) _).trans ((hb1.trans (hb2.mono hb1.size)).mono (by simp <;> omega))
  clear hb1 hb2
  go_wp2_with fail
  refine (take_yes _ _ HT2.out HR.out.1 HR.out.2 HW.out).mono ?_
  rw [HTW.out]
  rintro e w3 ⟨rfl, hb3⟩
  have hz3 : w.heap.size < w3.heap.size := Nat.lt_of_lt_of_le hz2 hb3.size
  have e00 : w3.cell? ⟨w.heap.size, 0, none⟩ = some (.int .i64 o) := (hb3.cell (by simp <;> omega)).trans d00
  have e01 : w3.cell? ⟨w.heap.size, 1, none⟩ = some (.int .i64 a) := (hb3.cell (by simp <;> omega)).trans d01
  have e02 : w3.cell? ⟨w.heap.size, 2, none⟩ = some (.int .i64 b) := (hb3.cell (by simp <;> omega)).trans d02
  have e03 : w3.cell? ⟨w.heap.size, 3, none⟩ = some (.int .i64 i) := (hb3.cell (by simp <;> omega)).trans d03
  clear d00 d01 d02 d03
  have HT3 := Lib.hid (HT2.out.below hb3)
  have HB3 : Hid (Below w.heap.size w w3) := HB2.out.trans (hb3.mono HB2.out.size)
  clear hb3
  go_wp2_with fail
  refine (take_yes _ _ (by repeat (first | exact HT3.out | apply UsesAt.alloc | apply UsesAt.drew)) h0 h1 HN.out).mono ?_
  rintro e w4 ⟨rfl, hb4⟩
  have HT4 := Lib.hid (UsesAt.below (by repeat (first | exact HT3.out | apply UsesAt.alloc | apply UsesAt.drew)) hb4)
  have HB4 : Hid (Below w.heap.size w w4) := Below.trans (by repeat (first | exact HB3.out | refine Below.alloc ?_ (by first | exact HB3.out.size | (simp; have := HB3.out.size; omega)) _ | apply Below.drew)) (hb4.mono (by have := HB3.out.size; first | exact this | (simp; omega)))
  clear hb4
  go_wp2_with fail
  refine (word_yes _ _ _ _ _ (by repeat (first | exact HT4.out | apply UsesAt.alloc | apply UsesAt.drew)) HN.out).mono ?_
  rw [word_take h0 h1]
  rintro e w5 ⟨rfl, hb5⟩
  have HB5 : Hid (Below w.heap.size w w5) := Below.trans (by repeat (first | exact HB4.out | refine Below.alloc ?_ (by first | exact HB4.out.size | (simp; have := HB4.out.size; omega)) _ | apply Below.drew)) (hb5.mono (by have := HB4.out.size; first | exact this | (simp; omega)))
  clear hb5
  go_wp2
  all_goals go_ret
  all_goals exact ⟨ret_bool (by simp), HB5.out⟩

set_option maxHeartbeats 1000000 in
theorem back_true_false (o a b i n : Int) (w : World) (hT : UsesAt w) (h0 : 0 ≤ n) (h1 : n < 4294967296) (hm : rMay o a b i = true) (hn : tMay n = false) :
    Calls Tryd.prog 5 #[insV o a b i, .int .u32 n] w fun e w' => e = .returned (.bool true) ∧ Below w.heap.size w w' := by
  have HT := Lib.hid hT
  clear hT
  have heq := @eql_ins
  have hne := @neq_ins
  have hrefl : insEq o a b i o a b i = true := by simp [insEq]
  have HR := Lib.hid (wordN_range hm)
  have HW := Lib.hid (tMay_word hm)
  have HTW : Hid (tIns (wordN o a b i) = insV o a b i) := by obtain ⟨e1, e2, e3, e4⟩ := take_word hm; show tIns _ = _; unfold tIns; rw [e1, e2, e3, e4]
  have HM := Lib.hid hm
  have HN := Lib.hid hn
  clear hm hn
  go_enter Tryd.func5, Tryd.ntmps5
  go_wp2_with fail
  refine (shown_any _ (HT.out.alloc _)).mono ?_
  rintro e w1 ⟨rfl, hb1⟩
  have hz1 : w.heap.size < w1.heap.size := by have := hb1.size; simp at this; omega
  have c00 : w1.cell? ⟨w.heap.size, 0, none⟩ = some (.int .i64 o) := (hb1.cell (by simp <;> omega)).trans (by simp)
  have c01 : w1.cell? ⟨w.heap.size, 1, none⟩ = some (.int .i64 a) := (hb1.cell (by simp <;> omega)).trans (by simp)
  have c02 : w1.cell? ⟨w.heap.size, 2, none⟩ = some (.int .i64 b) := (hb1.cell (by simp <;> omega)).trans (by simp)
  have c03 : w1.cell? ⟨w.heap.size, 3, none⟩ = some (.int .i64 i) := (hb1.cell (by simp <;> omega)).trans (by simp)
  go_wp2_with fail
  refine (word_yes _ _ _ _ _ ((HT.out.alloc _).below hb1) HM.out).mono ?_
  rintro e w2 ⟨rfl, hb2⟩
  have hz2 : w.heap.size < w2.heap.size := Nat.lt_of_lt_of_le hz1 hb2.size
  have d00 : w2.cell? ⟨w.heap.size, 0, none⟩ = some (.int .i64 o) := (hb2.cell (by simp <;> omega)).trans c00
  have d01 : w2.cell? ⟨w.heap.size, 1, none⟩ = some (.int .i64 a) := (hb2.cell (by simp <;> omega)).trans c01
  have d02 : w2.cell? ⟨w.heap.size, 2, none⟩ = some (.int .i64 b) := (hb2.cell (by simp <;> omega)).trans c02
  have d03 : w2.cell? ⟨w.heap.size, 3, none⟩ = some (.int .i64 i) := (hb2.cell (by simp <;> omega)).trans c03
  clear c00 c01 c02 c03
  have HT2 := Lib.hid (((HT.out.alloc (.cells #[.int .i64 o, .int .i64 a, .int .i64 b, .int .i64 i] 23)).below hb1).below hb2)
  have HB2 : Hid (Below w.heap.size w w2) := ((Below.refl _ _).alloc (Nat.le_refl _) _).trans ((hb1.trans (hb2.mono hb1.size)).mono (by simp <;> omega))
  clear hb1 hb2
  go_wp2_with fail
  refine (take_yes _ _ HT2.out HR.out.1 HR.out.2 HW.out).mono ?_
  rw [HTW.out]
  rintro e w3 ⟨rfl, hb3⟩
  have hz3 : w.heap.size < w3.heap.size := Nat.lt_of_lt_of_le hz2 hb3.size
  have e00 : w3.cell? ⟨w.heap.size, 0, none⟩ = some (.int .i64 o) := (hb3.cell (by simp <;> omega)).trans d00
  have e01 : w3.cell? ⟨w.heap.size, 1, none⟩ = some (.int .i64 a) := (hb3.cell (by simp <;> omega)).trans d01
  have e02 : w3.cell? ⟨w.heap.size, 2, none⟩ = some (.int .i64 b) := (hb3.cell (by simp <;> omega)).trans d02
  have e03 : w3.cell? ⟨w.heap.size, 3, none⟩ = some (.int .i64 i) := (hb3.cell (by simp <;> omega)).trans d03
  clear d00 d01 d02 d03
  have HT3 := Lib.hid (HT2.out.below hb3)
  have HB3 : Hid (Below w.heap.size w w3) := HB2.out.trans (hb3.mono HB2.out.size)
  clear hb3
  go_wp2_with fail
  refine (take_no _ _ (by repeat (first | exact HT3.out | apply UsesAt.alloc | apply UsesAt.drew)) h0 h1 HN.out).mono ?_
  rintro e w4 ⟨rfl, hb4⟩
  have HT4 := Lib.hid (UsesAt.below (by repeat (first | exact HT3.out | apply UsesAt.alloc | apply UsesAt.drew)) hb4)
  have HB4 : Hid (Below w.heap.size w w4) := Below.trans (by repeat (first | exact HB3.out | refine Below.alloc ?_ (by first | exact HB3.out.size | (simp; have := HB3.out.size; omega)) _ | apply Below.drew)) (hb4.mono (by have := HB3.out.size; first | exact this | (simp; omega)))
  clear hb4
  go_wp2_with fail
  refine (word_no _ _ _ _ _ (by repeat (first | exact HT4.out | apply UsesAt.alloc | apply UsesAt.drew)) (by decide)).mono ?_
  rintro e w5 ⟨rfl, hb5⟩
  have HB5 : Hid (Below w.heap.size w w5) := Below.trans (by repeat (first | exact HB4.out | refine Below.alloc ?_ (by first | exact HB4.out.size | (simp; have := HB4.out.size; omega)) _ | apply Below.drew)) (hb5.mono (by have := HB4.out.size; first | exact this | (simp; omega)))
  clear hb5
  go_wp2
  all_goals go_ret
  all_goals exact ⟨ret_bool (by simp), HB5.out⟩

set_option maxHeartbeats 1000000 in
theorem back_false_true (o a b i n : Int) (w : World) (hT : UsesAt w) (h0 : 0 ≤ n) (h1 : n < 4294967296) (hm : rMay o a b i = false) (hn : tMay n = true) :
    Calls Tryd.prog 5 #[insV o a b i, .int .u32 n] w fun e w' => e = .returned (.bool true) ∧ Below w.heap.size w w' := by
  have HT := Lib.hid hT
  clear hT
  have heq := @eql_ins
  have hne := @neq_ins
  have hrefl : insEq o a b i o a b i = true := by simp [insEq]
  have HM := Lib.hid hm
  have HN := Lib.hid hn
  clear hm hn
  go_enter Tryd.func5, Tryd.ntmps5
  go_wp2_with fail
  refine (shown_any _ (HT.out.alloc _)).mono ?_
  rintro e w1 ⟨rfl, hb1⟩
  have hz1 : w.heap.size < w1.heap.size := by have := hb1.size; simp at this; omega
  have c00 : w1.cell? ⟨w.heap.size, 0, none⟩ = some (.int .i64 o) := (hb1.cell (by simp <;> omega)).trans (by simp)
  have c01 : w1.cell? ⟨w.heap.size, 1, none⟩ = some (.int .i64 a) := (hb1.cell (by simp <;> omega)).trans (by simp)
  have c02 : w1.cell? ⟨w.heap.size, 2, none⟩ = some (.int .i64 b) := (hb1.cell (by simp <;> omega)).trans (by simp)
  have c03 : w1.cell? ⟨w.heap.size, 3, none⟩ = some (.int .i64 i) := (hb1.cell (by simp <;> omega)).trans (by simp)
  go_wp2_with fail
  refine (word_no _ _ _ _ _ ((HT.out.alloc _).below hb1) HM.out).mono ?_
  rintro e w2 ⟨rfl, hb2⟩
  have hz2 : w.heap.size < w2.heap.size := Nat.lt_of_lt_of_le hz1 hb2.size
  have d00 : w2.cell? ⟨w.heap.size, 0, none⟩ = some (.int .i64 o) := (hb2.cell (by simp <;> omega)).trans c00
  have d01 : w2.cell? ⟨w.heap.size, 1, none⟩ = some (.int .i64 a) := (hb2.cell (by simp <;> omega)).trans c01
  have d02 : w2.cell? ⟨w.heap.size, 2, none⟩ = some (.int .i64 b) := (hb2.cell (by simp <;> omega)).trans c02
  have d03 : w2.cell? ⟨w.heap.size, 3, none⟩ = some (.int .i64 i) := (hb2.cell (by simp <;> omega)).trans c03
  clear c00 c01 c02 c03
  have HT2 := Lib.hid (((HT.out.alloc (.cells #[.int .i64 o, .int .i64 a, .int .i64 b, .int .i64 i] 23)).below hb1).below hb2)
  have HB2 : Hid (Below w.heap.size w w2) := ((Below.refl _ _).alloc (Nat.le_refl _) _).trans ((hb1.trans (hb2.mono hb1.size)).mono (by simp <;> omega))
  clear hb1 hb2
  go_wp2_with fail
  refine (take_no _ _ HT2.out (by decide) (by decide) (by decide)).mono ?_
  rintro e w3 ⟨rfl, hb3⟩
  have hz3 : w.heap.size < w3.heap.size := Nat.lt_of_lt_of_le hz2 hb3.size
  have e00 : w3.cell? ⟨w.heap.size, 0, none⟩ = some (.int .i64 o) := (hb3.cell (by simp <;> omega)).trans d00
  have e01 : w3.cell? ⟨w.heap.size, 1, none⟩ = some (.int .i64 a) := (hb3.cell (by simp <;> omega)).trans d01
  have e02 : w3.cell? ⟨w.heap.size, 2, none⟩ = some (.int .i64 b) := (hb3.cell (by simp <;> omega)).trans d02
  have e03 : w3.cell? ⟨w.heap.size, 3, none⟩ = some (.int .i64 i) := (hb3.cell (by simp <;> omega)).trans d03
  clear d00 d01 d02 d03
  have HT3 := Lib.hid (HT2.out.below hb3)
  have HB3 : Hid (Below w.heap.size w w3) := HB2.out.trans (hb3.mono HB2.out.size)
  clear hb3
  go_wp2_with fail
  refine (take_yes _ _ (by repeat (first | exact HT3.out | apply UsesAt.alloc | apply UsesAt.drew)) h0 h1 HN.out).mono ?_
  rintro e w4 ⟨rfl, hb4⟩
  have HT4 := Lib.hid (UsesAt.below (by repeat (first | exact HT3.out | apply UsesAt.alloc | apply UsesAt.drew)) hb4)
  have HB4 : Hid (Below w.heap.size w w4) := Below.trans (by repeat (first | exact HB3.out | refine Below.alloc ?_ (by first | exact HB3.out.size | (simp; have := HB3.out.size; omega)) _ | apply Below.drew)) (hb4.mono (by have := HB3.out.size; first | exact this | (simp; omega)))
  clear hb4
  go_wp2_with fail
  refine (word_yes _ _ _ _ _ (by repeat (first | exact HT4.out | apply UsesAt.alloc | apply UsesAt.drew)) HN.out).mono ?_
  rw [word_take h0 h1]
  rintro e w5 ⟨rfl, hb5⟩
  have HB5 : Hid (Below w.heap.size w w5) := Below.trans (by repeat (first | exact HB4.out | refine Below.alloc ?_ (by first | exact HB4.out.size | (simp; have := HB4.out.size; omega)) _ | apply Below.drew)) (hb5.mono (by have := HB4.out.size; first | exact this | (simp; omega)))
  clear hb5
  go_wp2
  all_goals go_ret
  all_goals exact ⟨ret_bool (by simp), HB5.out⟩

set_option maxHeartbeats 1000000 in
theorem back_false_false (o a b i n : Int) (w : World) (hT : UsesAt w) (h0 : 0 ≤ n) (h1 : n < 4294967296) (hm : rMay o a b i = false) (hn : tMay n = false) :
    Calls Tryd.prog 5 #[insV o a b i, .int .u32 n] w fun e w' => e = .returned (.bool true) ∧ Below w.heap.size w w' := by
  have HT := Lib.hid hT
  clear hT
  have heq := @eql_ins
  have hne := @neq_ins
  have hrefl : insEq o a b i o a b i = true := by simp [insEq]
  have HM := Lib.hid hm
  have HN := Lib.hid hn
  clear hm hn
  go_enter Tryd.func5, Tryd.ntmps5
  go_wp2_with fail
  refine (shown_any _ (HT.out.alloc _)).mono ?_
  rintro e w1 ⟨rfl, hb1⟩
  have hz1 : w.heap.size < w1.heap.size := by have := hb1.size; simp at this; omega
  have c00 : w1.cell? ⟨w.heap.size, 0, none⟩ = some (.int .i64 o) := (hb1.cell (by simp <;> omega)).trans (by simp)
  have c01 : w1.cell? ⟨w.heap.size, 1, none⟩ = some (.int .i64 a) := (hb1.cell (by simp <;> omega)).trans (by simp)
  have c02 : w1.cell? ⟨w.heap.size, 2, none⟩ = some (.int .i64 b) := (hb1.cell (by simp <;> omega)).trans (by simp)
  have c03 : w1.cell? ⟨w.heap.size, 3, none⟩ = some (.int .i64 i) := (hb1.cell (by simp <;> omega)).trans (by simp)
  go_wp2_with fail
  refine (word_no _ _ _ _ _ ((HT.out.alloc _).below hb1) HM.out).mono ?_
  rintro e w2 ⟨rfl, hb2⟩
  have hz2 : w.heap.size < w2.heap.size := Nat.lt_of_lt_of_le hz1 hb2.size
  have d00 : w2.cell? ⟨w.heap.size, 0, none⟩ = some (.int .i64 o) := (hb2.cell (by simp <;> omega)).trans c00
  have d01 : w2.cell? ⟨w.heap.size, 1, none⟩ = some (.int .i64 a) := (hb2.cell (by simp <;> omega)).trans c01
  have d02 : w2.cell? ⟨w.heap.size, 2, none⟩ = some (.int .i64 b) := (hb2.cell (by simp <;> omega)).trans c02
  have d03 : w2.cell? ⟨w.heap.size, 3, none⟩ = some (.int .i64 i) := (hb2.cell (by simp <;> omega)).trans c03
  clear c00 c01 c02 c03
  have HT2 := Lib.hid (((HT.out.alloc (.cells #[.int .i64 o, .int .i64 a, .int .i64 b, .int .i64 i] 23)).below hb1).below hb2)
  have HB2 : Hid (Below w.heap.size w w2) := ((Below.refl _ _).alloc (Nat.le_refl _) _).trans ((hb1.trans (hb2.mono hb1.size)).mono (by simp <;> omega))
  clear hb1 hb2
  go_wp2_with fail
  refine (take_no _ _ HT2.out (by decide) (by decide) (by decide)).mono ?_
  rintro e w3 ⟨rfl, hb3⟩
  have hz3 : w.heap.size < w3.heap.size := Nat.lt_of_lt_of_le hz2 hb3.size
  have e00 : w3.cell? ⟨w.heap.size, 0, none⟩ = some (.int .i64 o) := (hb3.cell (by simp <;> omega)).trans d00
  have e01 : w3.cell? ⟨w.heap.size, 1, none⟩ = some (.int .i64 a) := (hb3.cell (by simp <;> omega)).trans d01
  have e02 : w3.cell? ⟨w.heap.size, 2, none⟩ = some (.int .i64 b) := (hb3.cell (by simp <;> omega)).trans d02
  have e03 : w3.cell? ⟨w.heap.size, 3, none⟩ = some (.int .i64 i) := (hb3.cell (by simp <;> omega)).trans d03
  clear d00 d01 d02 d03
  have HT3 := Lib.hid (HT2.out.below hb3)
  have HB3 : Hid (Below w.heap.size w w3) := HB2.out.trans (hb3.mono HB2.out.size)
  clear hb3
  go_wp2_with fail
  refine (take_no _ _ (by repeat (first | exact HT3.out | apply UsesAt.alloc | apply UsesAt.drew)) h0 h1 HN.out).mono ?_
  rintro e w4 ⟨rfl, hb4⟩
  have HT4 := Lib.hid (UsesAt.below (by repeat (first | exact HT3.out | apply UsesAt.alloc | apply UsesAt.drew)) hb4)
  have HB4 : Hid (Below w.heap.size w w4) := Below.trans (by repeat (first | exact HB3.out | refine Below.alloc ?_ (by first | exact HB3.out.size | (simp; have := HB3.out.size; omega)) _ | apply Below.drew)) (hb4.mono (by have := HB3.out.size; first | exact this | (simp; omega)))
  clear hb4
  go_wp2_with fail
  refine (word_no _ _ _ _ _ (by repeat (first | exact HT4.out | apply UsesAt.alloc | apply UsesAt.drew)) (by decide)).mono ?_
  rintro e w5 ⟨rfl, hb5⟩
  have HB5 : Hid (Below w.heap.size w w5) := Below.trans (by repeat (first | exact HB4.out | refine Below.alloc ?_ (by first | exact HB4.out.size | (simp; have := HB4.out.size; omega)) _ | apply Below.drew)) (hb5.mono (by have := HB4.out.size; first | exact this | (simp; omega)))
  clear hb5
  go_wp2
  all_goals go_ret
  all_goals exact ⟨ret_bool (by simp), HB5.out⟩

theorem back_walk (o a b i n : Int) (w : World) (hT : UsesAt w) (h0 : 0 ≤ n) (h1 : n < 4294967296) :
    Calls Tryd.prog 5 #[insV o a b i, .int .u32 n] w fun e w' => e = .returned (.bool true) ∧ Below w.heap.size w w' := by
  cases hm : rMay o a b i <;> cases hn : tMay n
  · exact back_false_false _ _ _ _ _ w hT h0 h1 hm hn
  · exact back_false_true _ _ _ _ _ w hT h0 h1 hm hn
  · exact back_true_false _ _ _ _ _ w hT h0 h1 hm hn
  · exact back_true_true _ _ _ _ _ w hT h0 h1 hm hn
end Go.Proofs.YtnpgfjkenjldlaaDoor
