/- Heaps: right ones, and what is put in and taken out. -/
import Derived.Test.YtpbpgkkfpfenhaaHpM
namespace Go.Proofs.Ytpbpgkkfpfenhaa
open Go.Sx Go.RowKit
set_option linter.unusedVariables false
def inRoom (sz : Int) (x : E) : Prop := 0 ≤ x.1 ∧ x.1 ≤ sz ∧ 1 ≤ x.2.1 ∧ x.2.1 ≤ sz - x.1
theorem rt_iff {sz : Int} {L : List E} : Rt sz L ↔ 0 ≤ sz ∧ (∀ x ∈ L, inRoom sz x) ∧ L.Pairwise (fun a b => a.1 + a.2.1 ≤ b.1) := by
  constructor
  · intro ht
    refine ⟨ht.1, fun x hx => ?_, ?_⟩
    · obtain ⟨j, hj, rfl⟩ := List.getElem_of_mem hx
      obtain ⟨a, b, c, d⟩ := ht.2 j hj
      have := end_ok ht.1 (k := j) (fun q hq => ht.2 q (by omega))
      rw [getD_mem hj] at a b c d
      exact ⟨by omega, b, c, d⟩
    · rw [List.pairwise_iff_getElem]
      intro i j hi hj hij
      have h1 := end_mono (sz := sz) (i := i + 1) (j := j) (fun q hq => ht.2 q (by omega)) hij
      have h2 := (ht.2 j hj).a
      rw [getD_mem hj] at h2
      have h3 : endAt L (i + 1) = (L.getD i e0).1 + (L.getD i e0).2.1 := rfl
      rw [getD_mem hi] at h3
      omega
  · rintro ⟨h0, hin, hpw⟩
    refine ⟨h0, fun k hk => ?_⟩
    obtain ⟨a, b, c, d⟩ := hin (L.getD k e0) (by rw [getD_mem hk]; exact List.getElem_mem hk)
    refine ⟨?_, b, c, d⟩
    cases k with
    | zero => exact a
    | succ m =>
      have := List.pairwise_iff_getElem.1 hpw m (m + 1) (by omega) hk (by omega)
      show (L.getD m e0).1 + (L.getD m e0).2.1 ≤ _
      rw [getD_mem (by omega), getD_mem hk]; exact this
theorem rt_sub {sz : Int} {L M : List E} (ht : Rt sz L) (h : M.Sublist L) : Rt sz M := by
  obtain ⟨h0, h1, h2⟩ := rt_iff.1 ht
  exact rt_iff.2 ⟨h0, fun x hx => h1 x (h.subset hx), h2.sublist h⟩
theorem rt_drop {sz who : Int} {L : List E} (ht : Rt sz L) : Rt sz (dropL who L) := rt_sub ht List.filter_sublist
theorem rt_free {sz a : Int} {L : List E} (ht : Rt sz L) : Rt sz (freeL a L) := rt_sub ht List.eraseP_sublist
/-- Where a hole is, and what stands ahead of it. -/
theorem hole_ix {sz : Int} {L : List E} (ht : Rt sz L) {x : E} (h : HoleAt sz L x) : (∀ y ∈ L.take (L.findIdx (beh x.1)), y.1 + y.2.1 ≤ x.1 ∧ y.1 < x.1) ∧ (∀ y ∈ L.drop (L.findIdx (beh x.1)), x.1 + x.2.1 ≤ y.1) := by
  obtain ⟨m, h1, h2, h3, _, h5⟩ := h
  have hlo : ∀ j, j < m → (L.getD j e0).1 + (L.getD j e0).2.1 ≤ x.1 ∧ (L.getD j e0).1 < x.1 := fun j hj => by
    have g1 := end_mono (sz := sz) (i := j + 1) (j := m) (fun q hq => ht.2 q (by omega)) (by omega)
    have g2 := (ht.2 j (by omega)).c
    have g3 : endAt L (j + 1) = (L.getD j e0).1 + (L.getD j e0).2.1 := rfl
    omega
  have hhi : ∀ j, m ≤ j → j < L.length → x.1 + x.2.1 ≤ (L.getD j e0).1 := fun j hj hl => by
    rcases h5 with ⟨h7, h8⟩ | ⟨h7, h8⟩
    · have := at_mono (sz := sz) (i := m) (j := j) (fun q hq => ht.2 q (by omega)) hj
      omega
    · omega
  have hix : L.findIdx (beh x.1) = m := by
    rcases Nat.lt_or_ge m L.length with hm | hm
    · refine ixP_at hm ?_ fun j hj => ?_
      · have := hhi m (Nat.le_refl _) hm
        simp only [beh, decide_eq_true_eq]; omega
      · have := hlo j hj
        simp only [beh, decide_eq_false_iff_not]; omega
    · rw [show m = L.length by omega]
      refine ixP_none (Nat.le_refl _) fun j hj => ?_
      have := hlo j (by omega)
      simp only [beh, decide_eq_false_iff_not]; omega
  rw [hix]
  refine ⟨fun y hy => ?_, fun y hy => ?_⟩
  · obtain ⟨j, hj, rfl⟩ := List.getElem_of_mem hy
    simp only [List.length_take] at hj
    have := hlo j (by omega)
    rw [getD_mem (by omega)] at this
    simpa using this
  · obtain ⟨j, hj, rfl⟩ := List.getElem_of_mem hy
    simp only [List.length_drop] at hj
    have := hhi (m + j) (by omega) (by omega)
    rw [getD_mem (by omega)] at this
    simpa using this
theorem rt_ins {sz n who : Int} {L : List E} (ht : Rt sz L) {x : E} (h : HoleAt sz L x) (hn : 1 ≤ n) (hx : n ≤ x.2.1) : Rt sz (insAt x.1 n who L) := by
  obtain ⟨g1, g2⟩ := hole_ix ht h
  obtain ⟨h0, h1, h2⟩ := rt_iff.1 ht
  have hin := hole_in ht h
  unfold insAt
  generalize L.findIdx (beh x.1) = m at *
  refine rt_iff.2 ⟨h0, fun y hy => ?_, ?_⟩
  · rcases List.mem_append.1 hy with hy | hy
    · exact h1 y (List.mem_of_mem_take hy)
    · rcases List.mem_cons.1 hy with rfl | hy
      · exact ⟨hin.1, by dsimp only; omega, hn, by dsimp only; omega⟩
      · exact h1 y (List.mem_of_mem_drop hy)
  · rw [List.pairwise_append]
    refine ⟨h2.sublist (List.take_sublist _ _), ?_, fun a ha b hb => ?_⟩
    · rw [List.pairwise_cons]
      refine ⟨fun y hy => ?_, h2.sublist (List.drop_sublist _ _)⟩
      have := g2 y hy
      dsimp only; omega
    · rcases List.mem_cons.1 hb with rfl | hb
      · exact (g1 a ha).1
      · have e1 := (g1 a ha).1
        have e2 := g2 b hb
        omega
theorem ins_len (a n who : Int) (L : List E) : (insAt a n who L).length = L.length + 1 := by
  have := List.findIdx_le_length (p := beh a) (xs := L)
  simp only [insAt, List.length_append, List.length_cons, List.length_take, List.length_drop]; omega
theorem sum_ins (a n who : Int) (L : List E) : sumN (insAt a n who L) = sumN L + n := by
  unfold insAt
  generalize L.findIdx (beh a) = m
  have h := sumN_app (L.take m) (L.drop m)
  rw [List.take_append_drop] at h
  rw [sumN_app, h]
  simp only [sumN, List.map_cons, List.foldr_cons]; omega
theorem free_ins {sz n who : Int} {L : List E} (ht : Rt sz L) {x : E} (h : HoleAt sz L x) : freeL x.1 (insAt x.1 n who L) = L ∧ (insAt x.1 n who L).any (atB x.1) = true := by
  obtain ⟨g1, g2⟩ := hole_ix ht h
  unfold insAt freeL
  generalize L.findIdx (beh x.1) = m at *
  refine ⟨?_, by simp [atB]⟩
  rw [List.eraseP_append_right _ (fun y hy => by have := (g1 y hy).2; simp [atB]; omega), List.eraseP_cons_of_pos (by simp [atB]), List.take_append_drop]
theorem fit_some {n sz : Int} {L : List E} {x : E} (h : fit n sz L = some x) : HoleAt sz L x ∧ n ≤ x.2.1 := by
  refine ⟨hole_at (List.mem_of_find?_eq_some h), ?_⟩
  have := List.find?_some h
  simpa [fits] using this
theorem fit_first {n sz : Int} {L : List E} (ht : Rt sz L) {x : E} (h : fit n sz L = some x) {i : Nat} (hi : i < (holes sz L).length) (hf : n ≤ ((holes sz L).getD i e0).2.1) : x.1 ≤ ((holes sz L).getD i e0).1 := by
  obtain ⟨_, j, hj, hx, hno⟩ := List.find?_eq_some_iff_getElem.1 h
  have hij : j ≤ i := by
    rcases Nat.lt_or_ge i j with h' | h'
    · have := hno i h'
      rw [getD_mem hi] at hf
      simp [fits] at this
      omega
    · exact h'
  rcases Nat.lt_or_ge j i with h' | h'
  · have h1 := holes_lt ht h' hi
    rw [getD_mem (show j < (holes sz L).length from hj)] at h1
    have h2 := holes_pos sz L x (by rw [← hx]; exact List.getElem_mem hj)
    rw [hx] at h1
    omega
  · have : i = j := by omega
    subst this
    rw [getD_mem hi, hx]; exact Int.le_refl _
theorem fit_no {n sz : Int} {L : List E} (h : fit n sz L = none) {i : Nat} (hi : i < (holes sz L).length) : ¬ n ≤ ((holes sz L).getD i e0).2.1 := by
  have := List.find?_eq_none.1 h _ (List.getElem_mem hi)
  rw [getD_mem hi]
  simpa [fits] using this
theorem sum_drop (who : Int) (L : List E) : sumN (dropL who L) + sumN (L.filter (whoB who)) = sumN L := by
  induction L with
  | nil => rfl
  | cons x L ih =>
    unfold dropL at ih ⊢
    by_cases h : whoB who x = true
    · simp only [List.filter_cons, h, Bool.not_true, Bool.false_eq_true, if_false, if_true]
      simp only [sumN, List.map_cons, List.foldr_cons] at ih ⊢
      omega
    · simp only [List.filter_cons, h, Bool.not_false, if_true, Bool.false_eq_true, if_false]
      simp only [sumN, List.map_cons, List.foldr_cons] at ih ⊢
      omega
end Go.Proofs.Ytpbpgkkfpfenhaa
