/- The laws IsaFields, IsaApart, IsaBack, walked. -/
import Derived.Test.YtnpgfjkenjldlaaDoorIsaL
namespace Go.Proofs.YtnpgfjkenjldlaaDoor
open Go.RowKit
set_option linter.unusedVariables false

theorem take_word {o a b i : Int} (h : rMay o a b i = true) : tO (wordN o a b i) = o ∧ tA (wordN o a b i) = a ∧ tB (wordN o a b i) = b ∧ tI (wordN o a b i) = i := by
  obtain ⟨h1, h2, h3, h4, h5, h6, h7, h8⟩ := may_range h
  unfold tO tA tB tI wordN
  refine ⟨by omega, by omega, by omega, by omega⟩
theorem word_take {n : Int} (h0 : 0 ≤ n) (h1 : n < 4294967296) : wordN (tO n) (tA n) (tB n) (tI n) = n := by
  unfold tO tA tB tI wordN
  omega
theorem wordN_range {o a b i : Int} (h : rMay o a b i = true) : 0 ≤ wordN o a b i ∧ wordN o a b i < 4294967296 := by
  obtain ⟨h1, h2, h3, h4, h5, h6, h7, h8⟩ := may_range h
  unfold wordN
  omega
theorem tMay_word {o a b i : Int} (h : rMay o a b i = true) : tMay (wordN o a b i) = true := by
  obtain ⟨e1, e2, e3, e4⟩ := take_word h
  unfold tMay
  rw [e1, e2, e3, e4, h]
theorem word_apart {o a b i o' a' b' i' : Int} (h : rMay o a b i = true) (h' : rMay o' a' b' i' = true) : (wordN o a b i == wordN o' a' b' i') = insEq o a b i o' a' b' i' := by
  obtain ⟨h1, h2, h3, h4, h5, h6, h7, h8⟩ := may_range h
  obtain ⟨g1, g2, g3, g4, g5, g6, g7, g8⟩ := may_range h'
  rw [Bool.eq_iff_iff]
  simp only [insEq, Bool.and_eq_true, beq_iff_eq]
  unfold wordN
  omega

set_option maxHeartbeats 400000 in
theorem fields_walk (o a b i : Int) (w : World) (hT : UsesAt w) :
    Calls Tryd.prog 9 #[insV o a b i] w fun e w' => e = .returned (.bool true) ∧ Below w.heap.size w w' := by
  have HT := Lib.hid hT
  clear hT
  cases hm : rMay o a b i with
  | false =>
    have HM := Lib.hid hm
    clear hm
    go_enter Tryd.func9, Tryd.ntmps9
    go_wp2_with fail
    refine (shown_any _ (HT.out.alloc _)).mono ?_
    rintro e w1 ⟨rfl, hb1⟩
    have c0 : w1.cell? ⟨w.heap.size, 0, none⟩ = some (.int .i64 o) := (hb1.cell (by simp)).trans (by simp)
    have c1 : w1.cell? ⟨w.heap.size, 1, none⟩ = some (.int .i64 a) := (hb1.cell (by simp)).trans (by simp)
    have c2 : w1.cell? ⟨w.heap.size, 2, none⟩ = some (.int .i64 b) := (hb1.cell (by simp)).trans (by simp)
    have c3 : w1.cell? ⟨w.heap.size, 3, none⟩ = some (.int .i64 i) := (hb1.cell (by simp)).trans (by simp)
    go_wp2_with fail
    refine (word_no _ _ _ _ _ ((HT.out.alloc _).below hb1) HM.out).mono ?_
    rintro e w2 ⟨rfl, hb2⟩
    have HB : Hid (Below w.heap.size w w2) := ((Below.refl _ _).alloc (Nat.le_refl _) _).trans ((hb1.trans (hb2.mono hb1.size)).mono (by simp))
    clear hb1 hb2
    go_wp2
    all_goals go_ret
    all_goals exact ⟨rfl, HB.out⟩
  | true =>
    obtain ⟨r1, r2⟩ := wordN_range hm
    have hmm := may_range hm
    have q1 : wordN o a b i / 16777216 = o := by unfold wordN; omega
    have q2 : wordN o a b i / 1048576 % 16 = a := by unfold wordN; omega
    have q3 : wordN o a b i / 65536 % 16 = b := by unfold wordN; omega
    have q4 : wordN o a b i % 65536 = i % 65536 := by unfold wordN; omega
    have HM := Lib.hid hm
    clear hm
    obtain ⟨h1, h2, h3, h4, h5, h6, h7, h8⟩ := hmm
    go_enter Tryd.func9, Tryd.ntmps9
    go_wp2_with fail
    refine (shown_any _ (HT.out.alloc _)).mono ?_
    rintro e w1 ⟨rfl, hb1⟩
    have c0 : w1.cell? ⟨w.heap.size, 0, none⟩ = some (.int .i64 o) := (hb1.cell (by simp)).trans (by simp)
    have c1 : w1.cell? ⟨w.heap.size, 1, none⟩ = some (.int .i64 a) := (hb1.cell (by simp)).trans (by simp)
    have c2 : w1.cell? ⟨w.heap.size, 2, none⟩ = some (.int .i64 b) := (hb1.cell (by simp)).trans (by simp)
    have c3 : w1.cell? ⟨w.heap.size, 3, none⟩ = some (.int .i64 i) := (hb1.cell (by simp)).trans (by simp)
    go_wp2_with fail
    refine (word_yes _ _ _ _ _ ((HT.out.alloc _).below hb1) HM.out).mono ?_
    rintro e w2 ⟨rfl, hb2⟩
    have hz : w.heap.size < w1.heap.size := by have := hb1.size; simp at this; omega
    have d0 : w2.cell? ⟨w.heap.size, 0, none⟩ = some (.int .i64 o) := (hb2.cell hz).trans c0
    have d1 : w2.cell? ⟨w.heap.size, 1, none⟩ = some (.int .i64 a) := (hb2.cell hz).trans c1
    have d2 : w2.cell? ⟨w.heap.size, 2, none⟩ = some (.int .i64 b) := (hb2.cell hz).trans c2
    have d3 : w2.cell? ⟨w.heap.size, 3, none⟩ = some (.int .i64 i) := (hb2.cell hz).trans c3
    have HB : Hid (Below w.heap.size w w2) := ((Below.refl _ _).alloc (Nat.le_refl _) _).trans ((hb1.trans (hb2.mono hb1.size)).mono (by simp))
    clear hb1 hb2 c0 c1 c2 c3
    go_wp2
    all_goals go_ret
    all_goals refine ⟨ret_bool ?_, HB.out⟩
    all_goals first | rfl | (simp only [Bool.or_eq_true, beq_iff_eq]; omega) | (rw [beq_iff_eq]; omega)

set_option maxHeartbeats 400000 in
theorem apart_true_true (o a b i o' a' b' i' : Int) (w : World) (hT : UsesAt w) (hm : rMay o a b i = true) (hm' : rMay o' a' b' i' = true) :
    Calls Tryd.prog 6 #[insV o a b i, insV o' a' b' i'] w fun e w' => e = .returned (.bool true) ∧ Below w.heap.size w w' := by
  have HT := Lib.hid hT
  clear hT
  have heq := @eql_ins
  have hq := word_apart hm hm'
  have HM := Lib.hid hm
  have HM' := Lib.hid hm'
  clear hm hm'
  go_enter Tryd.func6, Tryd.ntmps6
  go_wp2_with fail
  refine (shown_any _ ((HT.out.alloc _).alloc _)).mono ?_
  rintro e w1 ⟨rfl, hb1⟩
  have hz1 : w.heap.size + 1 < w1.heap.size := by have := hb1.size; simp at this; omega
  have c00 : w1.cell? ⟨w.heap.size, 0, none⟩ = some (.int .i64 o) := (hb1.cell (by simp <;> omega)).trans (by simp)
  have c01 : w1.cell? ⟨w.heap.size, 1, none⟩ = some (.int .i64 a) := (hb1.cell (by simp <;> omega)).trans (by simp)
  have c02 : w1.cell? ⟨w.heap.size, 2, none⟩ = some (.int .i64 b) := (hb1.cell (by simp <;> omega)).trans (by simp)
  have c03 : w1.cell? ⟨w.heap.size, 3, none⟩ = some (.int .i64 i) := (hb1.cell (by simp <;> omega)).trans (by simp)
  have c10 : w1.cell? ⟨w.heap.size + 1, 0, none⟩ = some (.int .i64 o') := (hb1.cell (by simp <;> omega)).trans (by simp)
  have c11 : w1.cell? ⟨w.heap.size + 1, 1, none⟩ = some (.int .i64 a') := (hb1.cell (by simp <;> omega)).trans (by simp)
  have c12 : w1.cell? ⟨w.heap.size + 1, 2, none⟩ = some (.int .i64 b') := (hb1.cell (by simp <;> omega)).trans (by simp)
  have c13 : w1.cell? ⟨w.heap.size + 1, 3, none⟩ = some (.int .i64 i') := (hb1.cell (by simp <;> omega)).trans (by simp)
  go_wp2_with fail
  refine (word_yes _ _ _ _ _ (((HT.out.alloc _).alloc _).below hb1) HM.out).mono ?_
  rintro e w2 ⟨rfl, hb2⟩
  have hz2 : w.heap.size + 1 < w2.heap.size := Nat.lt_of_lt_of_le hz1 hb2.size
  have d00 : w2.cell? ⟨w.heap.size, 0, none⟩ = some (.int .i64 o) := (hb2.cell (by simp <;> omega)).trans c00
  have d01 : w2.cell? ⟨w.heap.size, 1, none⟩ = some (.int .i64 a) := (hb2.cell (by simp <;> omega)).trans c01
  have d02 : w2.cell? ⟨w.heap.size, 2, none⟩ = some (.int .i64 b) := (hb2.cell (by simp <;> omega)).trans c02
  have d03 : w2.cell? ⟨w.heap.size, 3, none⟩ = some (.int .i64 i) := (hb2.cell (by simp <;> omega)).trans c03
  have d10 : w2.cell? ⟨w.heap.size + 1, 0, none⟩ = some (.int .i64 o') := (hb2.cell (by simp <;> omega)).trans c10
  have d11 : w2.cell? ⟨w.heap.size + 1, 1, none⟩ = some (.int .i64 a') := (hb2.cell (by simp <;> omega)).trans c11
  have d12 : w2.cell? ⟨w.heap.size + 1, 2, none⟩ = some (.int .i64 b') := (hb2.cell (by simp <;> omega)).trans c12
  have d13 : w2.cell? ⟨w.heap.size + 1, 3, none⟩ = some (.int .i64 i') := (hb2.cell (by simp <;> omega)).trans c13
  clear c00 c01 c02 c03 c10 c11 c12 c13
  go_wp2_with fail
  refine (word_yes _ _ _ _ _ ((((HT.out.alloc _).alloc _).below hb1).below hb2) HM'.out).mono ?_
  rintro e w3 ⟨rfl, hb3⟩
  have e00 : w3.cell? ⟨w.heap.size, 0, none⟩ = some (.int .i64 o) := (hb3.cell (by simp <;> omega)).trans d00
  have e01 : w3.cell? ⟨w.heap.size, 1, none⟩ = some (.int .i64 a) := (hb3.cell (by simp <;> omega)).trans d01
  have e02 : w3.cell? ⟨w.heap.size, 2, none⟩ = some (.int .i64 b) := (hb3.cell (by simp <;> omega)).trans d02
  have e03 : w3.cell? ⟨w.heap.size, 3, none⟩ = some (.int .i64 i) := (hb3.cell (by simp <;> omega)).trans d03
  have e10 : w3.cell? ⟨w.heap.size + 1, 0, none⟩ = some (.int .i64 o') := (hb3.cell (by simp <;> omega)).trans d10
  have e11 : w3.cell? ⟨w.heap.size + 1, 1, none⟩ = some (.int .i64 a') := (hb3.cell (by simp <;> omega)).trans d11
  have e12 : w3.cell? ⟨w.heap.size + 1, 2, none⟩ = some (.int .i64 b') := (hb3.cell (by simp <;> omega)).trans d12
  have e13 : w3.cell? ⟨w.heap.size + 1, 3, none⟩ = some (.int .i64 i') := (hb3.cell (by simp <;> omega)).trans d13
  clear d00 d01 d02 d03 d10 d11 d12 d13
  have HB : Hid (Below w.heap.size w w3) := (((Below.refl _ _).alloc (Nat.le_refl _) _).alloc (by simp) _).trans ((hb1.trans ((hb2.trans (hb3.mono hb2.size)).mono hb1.size)).mono (by simp <;> omega))
  clear hb1 hb2 hb3
  go_wp2
  all_goals go_ret
  all_goals exact ⟨ret_bool (by simp), HB.out⟩

set_option maxHeartbeats 400000 in
theorem apart_true_false (o a b i o' a' b' i' : Int) (w : World) (hT : UsesAt w) (hm : rMay o a b i = true) (hm' : rMay o' a' b' i' = false) :
    Calls Tryd.prog 6 #[insV o a b i, insV o' a' b' i'] w fun e w' => e = .returned (.bool true) ∧ Below w.heap.size w w' := by
  have HT := Lib.hid hT
  clear hT
  have heq := @eql_ins
  have HM := Lib.hid hm
  have HM' := Lib.hid hm'
  clear hm hm'
  go_enter Tryd.func6, Tryd.ntmps6
  go_wp2_with fail
  refine (shown_any _ ((HT.out.alloc _).alloc _)).mono ?_
  rintro e w1 ⟨rfl, hb1⟩
  have hz1 : w.heap.size + 1 < w1.heap.size := by have := hb1.size; simp at this; omega
  have c00 : w1.cell? ⟨w.heap.size, 0, none⟩ = some (.int .i64 o) := (hb1.cell (by simp <;> omega)).trans (by simp)
  have c01 : w1.cell? ⟨w.heap.size, 1, none⟩ = some (.int .i64 a) := (hb1.cell (by simp <;> omega)).trans (by simp)
  have c02 : w1.cell? ⟨w.heap.size, 2, none⟩ = some (.int .i64 b) := (hb1.cell (by simp <;> omega)).trans (by simp)
  have c03 : w1.cell? ⟨w.heap.size, 3, none⟩ = some (.int .i64 i) := (hb1.cell (by simp <;> omega)).trans (by simp)
  have c10 : w1.cell? ⟨w.heap.size + 1, 0, none⟩ = some (.int .i64 o') := (hb1.cell (by simp <;> omega)).trans (by simp)
  have c11 : w1.cell? ⟨w.heap.size + 1, 1, none⟩ = some (.int .i64 a') := (hb1.cell (by simp <;> omega)).trans (by simp)
  have c12 : w1.cell? ⟨w.heap.size + 1, 2, none⟩ = some (.int .i64 b') := (hb1.cell (by simp <;> omega)).trans (by simp)
  have c13 : w1.cell? ⟨w.heap.size + 1, 3, none⟩ = some (.int .i64 i') := (hb1.cell (by simp <;> omega)).trans (by simp)
  go_wp2_with fail
  refine (word_yes _ _ _ _ _ (((HT.out.alloc _).alloc _).below hb1) HM.out).mono ?_
  rintro e w2 ⟨rfl, hb2⟩
  have hz2 : w.heap.size + 1 < w2.heap.size := Nat.lt_of_lt_of_le hz1 hb2.size
  have d00 : w2.cell? ⟨w.heap.size, 0, none⟩ = some (.int .i64 o) := (hb2.cell (by simp <;> omega)).trans c00
  have d01 : w2.cell? ⟨w.heap.size, 1, none⟩ = some (.int .i64 a) := (hb2.cell (by simp <;> omega)).trans c01
  have d02 : w2.cell? ⟨w.heap.size, 2, none⟩ = some (.int .i64 b) := (hb2.cell (by simp <;> omega)).trans c02
  have d03 : w2.cell? ⟨w.heap.size, 3, none⟩ = some (.int .i64 i) := (hb2.cell (by simp <;> omega)).trans c03
  have d10 : w2.cell? ⟨w.heap.size + 1, 0, none⟩ = some (.int .i64 o') := (hb2.cell (by simp <;> omega)).trans c10
  have d11 : w2.cell? ⟨w.heap.size + 1, 1, none⟩ = some (.int .i64 a') := (hb2.cell (by simp <;> omega)).trans c11
  have d12 : w2.cell? ⟨w.heap.size + 1, 2, none⟩ = some (.int .i64 b') := (hb2.cell (by simp <;> omega)).trans c12
  have d13 : w2.cell? ⟨w.heap.size + 1, 3, none⟩ = some (.int .i64 i') := (hb2.cell (by simp <;> omega)).trans c13
  clear c00 c01 c02 c03 c10 c11 c12 c13
  go_wp2_with fail
  refine (word_no _ _ _ _ _ ((((HT.out.alloc _).alloc _).below hb1).below hb2) HM'.out).mono ?_
  rintro e w3 ⟨rfl, hb3⟩
  have e00 : w3.cell? ⟨w.heap.size, 0, none⟩ = some (.int .i64 o) := (hb3.cell (by simp <;> omega)).trans d00
  have e01 : w3.cell? ⟨w.heap.size, 1, none⟩ = some (.int .i64 a) := (hb3.cell (by simp <;> omega)).trans d01
  have e02 : w3.cell? ⟨w.heap.size, 2, none⟩ = some (.int .i64 b) := (hb3.cell (by simp <;> omega)).trans d02
  have e03 : w3.cell? ⟨w.heap.size, 3, none⟩ = some (.int .i64 i) := (hb3.cell (by simp <;> omega)).trans d03
  have e10 : w3.cell? ⟨w.heap.size + 1, 0, none⟩ = some (.int .i64 o') := (hb3.cell (by simp <;> omega)).trans d10
  have e11 : w3.cell? ⟨w.heap.size + 1, 1, none⟩ = some (.int .i64 a') := (hb3.cell (by simp <;> omega)).trans d11
  have e12 : w3.cell? ⟨w.heap.size + 1, 2, none⟩ = some (.int .i64 b') := (hb3.cell (by simp <;> omega)).trans d12
  have e13 : w3.cell? ⟨w.heap.size + 1, 3, none⟩ = some (.int .i64 i') := (hb3.cell (by simp <;> omega)).trans d13
  clear d00 d01 d02 d03 d10 d11 d12 d13
  have HB : Hid (Below w.heap.size w w3) := (((Below.refl _ _).alloc (Nat.le_refl _) _).alloc (by simp) _).trans ((hb1.trans ((hb2.trans (hb3.mono hb2.size)).mono hb1.size)).mono (by simp <;> omega))
  clear hb1 hb2 hb3
  go_wp2
  all_goals go_ret
  all_goals exact ⟨ret_bool (by simp), HB.out⟩

set_option maxHeartbeats 400000 in
theorem apart_false_true (o a b i o' a' b' i' : Int) (w : World) (hT : UsesAt w) (hm : rMay o a b i = false) (hm' : rMay o' a' b' i' = true) :
    Calls Tryd.prog 6 #[insV o a b i, insV o' a' b' i'] w fun e w' => e = .returned (.bool true) ∧ Below w.heap.size w w' := by
  have HT := Lib.hid hT
  clear hT
  have heq := @eql_ins
  have HM := Lib.hid hm
  have HM' := Lib.hid hm'
  clear hm hm'
  go_enter Tryd.func6, Tryd.ntmps6
  go_wp2_with fail
  refine (shown_any _ ((HT.out.alloc _).alloc _)).mono ?_
  rintro e w1 ⟨rfl, hb1⟩
  have hz1 : w.heap.size + 1 < w1.heap.size := by have := hb1.size; simp at this; omega
  have c00 : w1.cell? ⟨w.heap.size, 0, none⟩ = some (.int .i64 o) := (hb1.cell (by simp <;> omega)).trans (by simp)
  have c01 : w1.cell? ⟨w.heap.size, 1, none⟩ = some (.int .i64 a) := (hb1.cell (by simp <;> omega)).trans (by simp)
  have c02 : w1.cell? ⟨w.heap.size, 2, none⟩ = some (.int .i64 b) := (hb1.cell (by simp <;> omega)).trans (by simp)
  have c03 : w1.cell? ⟨w.heap.size, 3, none⟩ = some (.int .i64 i) := (hb1.cell (by simp <;> omega)).trans (by simp)
  have c10 : w1.cell? ⟨w.heap.size + 1, 0, none⟩ = some (.int .i64 o') := (hb1.cell (by simp <;> omega)).trans (by simp)
  have c11 : w1.cell? ⟨w.heap.size + 1, 1, none⟩ = some (.int .i64 a') := (hb1.cell (by simp <;> omega)).trans (by simp)
  have c12 : w1.cell? ⟨w.heap.size + 1, 2, none⟩ = some (.int .i64 b') := (hb1.cell (by simp <;> omega)).trans (by simp)
  have c13 : w1.cell? ⟨w.heap.size + 1, 3, none⟩ = some (.int .i64 i') := (hb1.cell (by simp <;> omega)).trans (by simp)
  go_wp2_with fail
  refine (word_no _ _ _ _ _ (((HT.out.alloc _).alloc _).below hb1) HM.out).mono ?_
  rintro e w2 ⟨rfl, hb2⟩
  have hz2 : w.heap.size + 1 < w2.heap.size := Nat.lt_of_lt_of_le hz1 hb2.size
  have d00 : w2.cell? ⟨w.heap.size, 0, none⟩ = some (.int .i64 o) := (hb2.cell (by simp <;> omega)).trans c00
  have d01 : w2.cell? ⟨w.heap.size, 1, none⟩ = some (.int .i64 a) := (hb2.cell (by simp <;> omega)).trans c01
  have d02 : w2.cell? ⟨w.heap.size, 2, none⟩ = some (.int .i64 b) := (hb2.cell (by simp <;> omega)).trans c02
  have d03 : w2.cell? ⟨w.heap.size, 3, none⟩ = some (.int .i64 i) := (hb2.cell (by simp <;> omega)).trans c03
  have d10 : w2.cell? ⟨w.heap.size + 1, 0, none⟩ = some (.int .i64 o') := (hb2.cell (by simp <;> omega)).trans c10
  have d11 : w2.cell? ⟨w.heap.size + 1, 1, none⟩ = some (.int .i64 a') := (hb2.cell (by simp <;> omega)).trans c11
  have d12 : w2.cell? ⟨w.heap.size + 1, 2, none⟩ = some (.int .i64 b') := (hb2.cell (by simp <;> omega)).trans c12
  have d13 : w2.cell? ⟨w.heap.size + 1, 3, none⟩ = some (.int .i64 i') := (hb2.cell (by simp <;> omega)).trans c13
  clear c00 c01 c02 c03 c10 c11 c12 c13
  go_wp2_with fail
  refine (word_yes _ _ _ _ _ ((((HT.out.alloc _).alloc _).below hb1).below hb2) HM'.out).mono ?_
  rintro e w3 ⟨rfl, hb3⟩
  have e00 : w3.cell? ⟨w.heap.size, 0, none⟩ = some (.int .i64 o) := (hb3.cell (by simp <;> omega)).trans d00
  have e01 : w3.cell? ⟨w.heap.size, 1, none⟩ = some (.int .i64 a) := (hb3.cell (by simp <;> omega)).trans d01
  have e02 : w3.cell? ⟨w.heap.size, 2, none⟩ = some (.int .i64 b) := (hb3.cell (by simp <;> omega)).trans d02
  have e03 : w3.cell? ⟨w.heap.size, 3, none⟩ = some (.int .i64 i) := (hb3.cell (by simp <;> omega)).trans d03
  have e10 : w3.cell? ⟨w.heap.size + 1, 0, none⟩ = some (.int .i64 o') := (hb3.cell (by simp <;> omega)).trans d10
  have e11 : w3.cell? ⟨w.heap.size + 1, 1, none⟩ = some (.int .i64 a') := (hb3.cell (by simp <;> omega)).trans d11
  have e12 : w3.cell? ⟨w.heap.size + 1, 2, none⟩ = some (.int .i64 b') := (hb3.cell (by simp <;> omega)).trans d12
  have e13 : w3.cell? ⟨w.heap.size + 1, 3, none⟩ = some (.int .i64 i') := (hb3.cell (by simp <;> omega)).trans d13
  clear d00 d01 d02 d03 d10 d11 d12 d13
  have HB : Hid (Below w.heap.size w w3) := (((Below.refl _ _).alloc (Nat.le_refl _) _).alloc (by simp) _).trans ((hb1.trans ((hb2.trans (hb3.mono hb2.size)).mono hb1.size)).mono (by simp <;> omega))
  clear hb1 hb2 hb3
  go_wp2
  all_goals go_ret
  all_goals exact ⟨ret_bool (by simp), HB.out⟩

set_option maxHeartbeats 400000 in
theorem apart_false_false (o a b i o' a' b' i' : Int) (w : World) (hT : UsesAt w) (hm : rMay o a b i = false) (hm' : rMay o' a' b' i' = false) :
    Calls Tryd.prog 6 #[insV o a b i, insV o' a' b' i'] w fun e w' => e = .returned (.bool true) ∧ Below w.heap.size w w' := by
  have HT := Lib.hid hT
  clear hT
  have heq := @eql_ins
  have HM := Lib.hid hm
  have HM' := Lib.hid hm'
  clear hm hm'
  go_enter Tryd.func6, Tryd.ntmps6
  go_wp2_with fail
  refine (shown_any _ ((HT.out.alloc _).alloc _)).mono ?_
  rintro e w1 ⟨rfl, hb1⟩
  have hz1 : w.heap.size + 1 < w1.heap.size := by have := hb1.size; simp at this; omega
  have c00 : w1.cell? ⟨w.heap.size, 0, none⟩ = some (.int .i64 o) := (hb1.cell (by simp <;> omega)).trans (by simp)
  have c01 : w1.cell? ⟨w.heap.size, 1, none⟩ = some (.int .i64 a) := (hb1.cell (by simp <;> omega)).trans (by simp)
  have c02 : w1.cell? ⟨w.heap.size, 2, none⟩ = some (.int .i64 b) := (hb1.cell (by simp <;> omega)).trans (by simp)
  have c03 : w1.cell? ⟨w.heap.size, 3, none⟩ = some (.int .i64 i) := (hb1.cell (by simp <;> omega)).trans (by simp)
  have c10 : w1.cell? ⟨w.heap.size + 1, 0, none⟩ = some (.int .i64 o') := (hb1.cell (by simp <;> omega)).trans (by simp)
  have c11 : w1.cell? ⟨w.heap.size + 1, 1, none⟩ = some (.int .i64 a') := (hb1.cell (by simp <;> omega)).trans (by simp)
  have c12 : w1.cell? ⟨w.heap.size + 1, 2, none⟩ = some (.int .i64 b') := (hb1.cell (by simp <;> omega)).trans (by simp)
  have c13 : w1.cell? ⟨w.heap.size + 1, 3, none⟩ = some (.int .i64 i') := (hb1.cell (by simp <;> omega)).trans (by simp)
  go_wp2_with fail
  refine (word_no _ _ _ _ _ (((HT.out.alloc _).alloc _).below hb1) HM.out).mono ?_
  rintro e w2 ⟨rfl, hb2⟩
  have hz2 : w.heap.size + 1 < w2.heap.size := Nat.lt_of_lt_of_le hz1 hb2.size
  have d00 : w2.cell? ⟨w.heap.size, 0, none⟩ = some (.int .i64 o) := (hb2.cell (by simp <;> omega)).trans c00
  have d01 : w2.cell? ⟨w.heap.size, 1, none⟩ = some (.int .i64 a) := (hb2.cell (by simp <;> omega)).trans c01
  have d02 : w2.cell? ⟨w.heap.size, 2, none⟩ = some (.int .i64 b) := (hb2.cell (by simp <;> omega)).trans c02
  have d03 : w2.cell? ⟨w.heap.size, 3, none⟩ = some (.int .i64 i) := (hb2.cell (by simp <;> omega)).trans c03
  have d10 : w2.cell? ⟨w.heap.size + 1, 0, none⟩ = some (.int .i64 o') := (hb2.cell (by simp <;> omega)).trans c10
  have d11 : w2.cell? ⟨w.heap.size + 1, 1, none⟩ = some (.int .i64 a') := (hb2.cell (by simp <;> omega)).trans c11
  have d12 : w2.cell? ⟨w.heap.size + 1, 2, none⟩ = some (.int .i64 b') := (hb2.cell (by simp <;> omega)).trans c12
  have d13 : w2.cell? ⟨w.heap.size + 1, 3, none⟩ = some (.int .i64 i') := (hb2.cell (by simp <;> omega)).trans c13
  clear c00 c01 c02 c03 c10 c11 c12 c13
  go_wp2_with fail
  refine (word_no _ _ _ _ _ ((((HT.out.alloc _).alloc _).below hb1).below hb2) HM'.out).mono ?_
  rintro e w3 ⟨rfl, hb3⟩
  have e00 : w3.cell? ⟨w.heap.size, 0, none⟩ = some (.int .i64 o) := (hb3.cell (by simp <;> omega)).trans d00
  have e01 : w3.cell? ⟨w.heap.size, 1, none⟩ = some (.int .i64 a) := (hb3.cell (by simp <;> omega)).trans d01
  have e02 : w3.cell? ⟨w.heap.size, 2, none⟩ = some (.int .i64 b) := (hb3.cell (by simp <;> omega)).trans d02
  have e03 : w3.cell? ⟨w.heap.size, 3, none⟩ = some (.int .i64 i) := (hb3.cell (by simp <;> omega)).trans d03
  have e10 : w3.cell? ⟨w.heap.size + 1, 0, none⟩ = some (.int .i64 o') := (hb3.cell (by simp <;> omega)).trans d10
  have e11 : w3.cell? ⟨w.heap.size + 1, 1, none⟩ = some (.int .i64 a') := (hb3.cell (by simp <;> omega)).trans d11
  have e12 : w3.cell? ⟨w.heap.size + 1, 2, none⟩ = some (.int .i64 b') := (hb3.cell (by simp <;> omega)).trans d12
  have e13 : w3.cell? ⟨w.heap.size + 1, 3, none⟩ = some (.int .i64 i') := (hb3.cell (by simp <;> omega)).trans d13
  clear d00 d01 d02 d03 d10 d11 d12 d13
  have HB : Hid (Below w.heap.size w w3) := (((Below.refl _ _).alloc (Nat.le_refl _) _).alloc (by simp) _).trans ((hb1.trans ((hb2.trans (hb3.mono hb2.size)).mono hb1.size)).mono (by simp <;> omega))
  clear hb1 hb2 hb3
  go_wp2
  all_goals go_ret
  all_goals exact ⟨ret_bool (by simp), HB.out⟩

theorem apart_walk (o a b i o' a' b' i' : Int) (w : World) (hT : UsesAt w) :
    Calls Tryd.prog 6 #[insV o a b i, insV o' a' b' i'] w fun e w' => e = .returned (.bool true) ∧ Below w.heap.size w w' := by
  cases hm : rMay o a b i <;> cases hm' : rMay o' a' b' i'
  · exact apart_false_false _ _ _ _ _ _ _ _ w hT hm hm'
  · exact apart_false_true _ _ _ _ _ _ _ _ w hT hm hm'
  · exact apart_true_false _ _ _ _ _ _ _ _ w hT hm hm'
  · exact apart_true_true _ _ _ _ _ _ _ _ w hT hm hm'
end Go.Proofs.YtnpgfjkenjldlaaDoor
