/- Tables: who is found. -/
import Derived.Test.YthdpigdbkljiiaaTbB
namespace Go.Proofs.Ythdpigdbkljiiaa
open Go.Sx Go.RowKit
set_option linter.unusedVariables false
theorem find_ix {p : E → Bool} {L : List E} : (if L.findIdx p < L.length then L.getD (L.findIdx p) e0 else e0) = (L.find? p).getD e0 ∧ decide (L.findIdx p < L.length) = (L.find? p).isSome := by
  by_cases h : L.findIdx p < L.length
  · have hx : L.find? p = some L[L.findIdx p] := by
      rw [List.find?_eq_some_iff_getElem]
      exact ⟨List.findIdx_getElem, L.findIdx p, h, rfl, fun j hj => by simpa using List.not_of_lt_findIdx hj⟩
    rw [if_pos h, hx, getD_mem h]
    simp [h]
  · have hx : L.find? p = none := by
      rw [List.find?_eq_none]
      have := List.findIdx_eq_length.1 (show L.findIdx p = L.length by have := List.findIdx_le_length (p := p) (xs := L); omega)
      intro x hx; simp [this x hx]
    rw [if_neg h, hx]
    simp [h]
theorem findE_eq (n : Int) (L : List E) : findE n L = (L.find? (isP n)).getD e0 := find_ix.1
theorem hasE_eq (n : Int) (L : List E) : hasE n L = (L.find? (isP n)).isSome := find_ix.2
theorem gone_find {pid other : Int} {L : List E} (h : other ≠ pid) : (L.filter (fun x => !isP pid x)).find? (isP other) = L.find? (isP other) := by
  rw [List.find?_filter]
  congr 1
  funext x
  by_cases hx : x.pid = other
  · simp [isP, hx, h]
  · simp [isP, hx]
theorem gone_not {pid : Int} {L : List E} : (L.filter (fun x => !isP pid x)).find? (isP pid) = none := by
  rw [List.find?_filter, List.find?_eq_none]
  intro x _
  simp
theorem put_form (a : E) (L : List E) : ∃ A B, (L.find? (isP a.pid) = none ∧ L = A ++ B ∧ putE a L = A ++ a :: B) ∨ (∃ y, isP a.pid y = true ∧ A.find? (isP a.pid) = none ∧ L = A ++ y :: B ∧ putE a L = A ++ a :: B) := by
  unfold putE
  by_cases h : L.findIdx (isP a.pid) < L.length
  · have hA : (L.take (L.findIdx (isP a.pid))).find? (isP a.pid) = none := by
      rw [List.find?_eq_none]
      intro x hx
      obtain ⟨j, hj, rfl⟩ := List.getElem_of_mem hx
      simp only [List.length_take] at hj
      have := List.not_of_lt_findIdx (show j < L.findIdx (isP a.pid) by omega)
      simpa using this
    have hy : isP a.pid L[L.findIdx (isP a.pid)] = true := List.findIdx_getElem
    rw [if_pos h]
    generalize L.findIdx (isP a.pid) = m at *
    refine ⟨L.take m, L.drop (m + 1), .inr ⟨L[m], hy, hA, ?_, ?_⟩⟩
    · rw [List.getElem_cons_drop, List.take_append_drop]
    · rw [List.set_eq_take_append_cons_drop, if_pos h]
  · rw [if_neg h]
    refine ⟨L.take (L.findIdx (gtP a.pid)), L.drop (L.findIdx (gtP a.pid)), .inl ⟨?_, (List.take_append_drop _ _).symm, rfl⟩⟩
    rw [List.find?_eq_none]
    have := List.findIdx_eq_length.1 (show L.findIdx (isP a.pid) = L.length by have := List.findIdx_le_length (p := isP a.pid) (xs := L); omega)
    intro x hx; simp [this x hx]
theorem put_find (a : E) (L : List E) : (putE a L).find? (isP a.pid) = some a := by
  have ha : isP a.pid a = true := by simp [isP]
  obtain ⟨A, B, ⟨h1, h2, h3⟩ | ⟨y, h0, h1, h2, h3⟩⟩ := put_form a L
  · rw [h2, List.find?_append, Option.or_eq_none_iff] at h1
    rw [h3, List.find?_append, h1.1, Option.none_or, List.find?_cons_of_pos ha]
  · rw [h3, List.find?_append, h1, Option.none_or, List.find?_cons_of_pos ha]
theorem put_other {a : E} {L : List E} {n : Int} (hn : n ≠ a.pid) : (putE a L).find? (isP n) = L.find? (isP n) := by
  have ha : ¬ isP n a = true := by simp [isP]; exact fun h => hn h.symm
  obtain ⟨A, B, ⟨h1, h2, h3⟩ | ⟨y, h0, h1, h2, h3⟩⟩ := put_form a L
  · rw [h3, List.find?_append, List.find?_cons_of_neg ha, ← List.find?_append, ← h2]
  · have hy : ¬ isP n y = true := by
      simp only [isP, beq_iff_eq] at h0 ⊢
      rw [h0]; exact fun h => hn h.symm
    rw [h3, h2, List.find?_append, List.find?_append, List.find?_cons_of_neg ha, List.find?_cons_of_neg hy]
theorem put_len (a : E) (L : List E) : L.length ≤ (putE a L).length ∧ (putE a L).length ≤ L.length + 1 := by
  obtain ⟨A, B, ⟨h1, h2, h3⟩ | ⟨y, h0, h1, h2, h3⟩⟩ := put_form a L
  · have e := congrArg List.length h2
    rw [h3]; simp at e ⊢; omega
  · have e := congrArg List.length h2
    rw [h3]; simp at e ⊢; omega
theorem most_ge (L : List E) : ∀ k, 0 ≤ most L k ∧ ∀ j, j < k → (L.getD j e0).pid ≤ most L k
  | 0 => ⟨Int.le_refl _, fun j hj => absurd hj (Nat.not_lt_zero j)⟩
  | k + 1 => by
    obtain ⟨h1, h2⟩ := most_ge L k
    simp only [most]
    split
    · rename_i h
      refine ⟨by omega, fun j hj => ?_⟩
      by_cases e : j = k
      · subst e; exact Int.le_refl _
      · have := h2 j (by omega); omega
    · rename_i h
      refine ⟨h1, fun j hj => ?_⟩
      by_cases e : j = k
      · subst e; omega
      · exact h2 j (by omega)
theorem most_is {L : List E} : ∀ k, most L k = 0 ∨ ∃ j, j < k ∧ most L k = (L.getD j e0).pid
  | 0 => .inl rfl
  | k + 1 => by
    simp only [most]
    split
    · exact .inr ⟨k, by omega, rfl⟩
    · rcases most_is (L := L) k with h | ⟨j, hj, h⟩
      · exact .inl h
      · exact .inr ⟨j, by omega, h⟩
end Go.Proofs.Ythdpigdbkljiiaa
