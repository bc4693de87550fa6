/- Tables: what stays right. -/
import Derived.Test.YthdpigdbkljiiaaTbD
namespace Go.Proofs.Ythdpigdbkljiiaa
open Go.Sx Go.RowKit
set_option linter.unusedVariables false
set_option linter.unusedSimpArgs false
theorem asc_iff {L : List E} : Asc L ↔ (∀ n ∈ L.map (·.pid), 1 ≤ n) ∧ (L.map (·.pid)).Pairwise (· < ·) := by
  constructor
  · intro h
    have hpos : ∀ j, j < L.length → 1 ≤ (L.getD j e0).pid := by
      intro j
      induction j with
      | zero => intro hj; have := h 0 hj; simp only [ahead] at this; omega
      | succ m ih => intro hj; have := h (m + 1) hj; have := ih (by omega); simp only [ahead] at *; omega
    have hlt : ∀ d i, i + 1 + d < L.length → (L.getD i e0).pid < (L.getD (i + 1 + d) e0).pid := by
      intro d
      induction d with
      | zero => intro i hj; exact h (i + 1) hj
      | succ m ih =>
        intro i hj
        have h1 := ih i (by omega)
        have h2 := h (i + 1 + m + 1) (by omega)
        simp only [ahead] at h2
        have e : i + 1 + (m + 1) = i + 1 + m + 1 := by omega
        rw [e]; omega
    refine ⟨fun n hn => ?_, ?_⟩
    · obtain ⟨x, hx, rfl⟩ := List.mem_map.1 hn
      obtain ⟨j, hj, rfl⟩ := List.getElem_of_mem hx
      have := hpos j hj
      rwa [getD_mem hj] at this
    · rw [List.pairwise_map, List.pairwise_iff_getElem]
      intro i j hi hj hij
      have := hlt (j - (i + 1)) i (by omega)
      rw [show i + 1 + (j - (i + 1)) = j by omega, getD_mem hi, getD_mem hj] at this
      exact this
  · rintro ⟨h1, h2⟩ k hk
    cases k with
    | zero =>
      have := h1 _ (List.mem_map.2 ⟨L[0], List.getElem_mem hk, rfl⟩)
      rw [getD_mem hk]; simp only [ahead]; omega
    | succ m =>
      rw [List.pairwise_map, List.pairwise_iff_getElem] at h2
      have := h2 m (m + 1) (by omega) hk (by omega)
      simp only [ahead]
      rw [getD_mem (by omega), getD_mem hk]; exact this
theorem asc_sub {L M : List E} (h : Asc L) (hs : M.Sublist L) : Asc M := by
  obtain ⟨h1, h2⟩ := asc_iff.1 h
  have := hs.map (·.pid)
  exact asc_iff.2 ⟨fun n hn => h1 n (this.subset hn), h2.sublist this⟩
theorem asc_map {L M : List E} (h : Asc L) (hs : M.map (·.pid) = L.map (·.pid)) : Asc M := by
  rw [asc_iff, hs]; exact asc_iff.1 h
theorem asc_filter {L : List E} {p : E → Bool} (h : Asc L) : Asc (L.filter p) := asc_sub h List.filter_sublist
theorem asc_ad {n to : Int} {L : List E} (h : Asc L) : Asc (adL n to L L.length) := by
  refine asc_map h ?_
  rw [adL_all, List.map_map]
  refine List.map_congr_left fun x _ => ?_
  simp only [Function.comp, adF]; split <;> rfl
theorem asc_put {a : E} {L : List E} (h : Asc L) (ha : 1 ≤ a.pid) : Asc (putE a L) := by
  unfold putE
  by_cases hm : L.findIdx (isP a.pid) < L.length
  · rw [if_pos hm]
    refine asc_map h ?_
    have hy : isP a.pid L[L.findIdx (isP a.pid)] = true := List.findIdx_getElem
    generalize L.findIdx (isP a.pid) = m at *
    rw [List.map_set]
    simp only [isP, beq_iff_eq] at hy
    rw [← hy]
    have : (L.map (·.pid))[m]? = some L[m].pid := by simp [hm]
    exact List.ext_getElem (by simp) fun i h1 h2 => by
      rw [List.getElem_set]; split
      · subst_vars; simp
      · rfl
  · rw [if_neg hm]
    have hno : ∀ x ∈ L, x.pid ≠ a.pid := by
      have := List.findIdx_eq_length.1 (show L.findIdx (isP a.pid) = L.length by have := List.findIdx_le_length (p := isP a.pid) (xs := L); omega)
      intro x hx
      simpa [isP] using this x hx
    obtain ⟨h1, h2⟩ := asc_iff.1 h
    have hlo : ∀ x ∈ L.take (L.findIdx (gtP a.pid)), x.pid < a.pid := by
      intro x hx
      obtain ⟨j, hj, rfl⟩ := List.getElem_of_mem hx
      simp only [List.length_take] at hj
      have h3 := List.not_of_lt_findIdx (show j < L.findIdx (gtP a.pid) by omega)
      have h4 := hno L[j] (List.getElem_mem _)
      simp only [gtP, decide_eq_false_iff_not] at h3
      simp only [List.getElem_take]
      omega
    have hhi : ∀ x ∈ L.drop (L.findIdx (gtP a.pid)), a.pid < x.pid := by
      intro x hx
      obtain ⟨j, hj, rfl⟩ := List.getElem_of_mem hx
      simp only [List.length_drop] at hj
      have hl : L.findIdx (gtP a.pid) < L.length := by omega
      have h3 : gtP a.pid L[L.findIdx (gtP a.pid)] = true := List.findIdx_getElem
      simp only [gtP, decide_eq_true_eq] at h3
      rw [List.getElem_drop]
      rw [List.pairwise_map, List.pairwise_iff_getElem] at h2
      rcases Nat.eq_zero_or_pos j with rfl | hp
      · simpa using h3
      · have := h2 (L.findIdx (gtP a.pid)) (L.findIdx (gtP a.pid) + j) hl (by omega) (by omega)
        omega
    generalize L.findIdx (gtP a.pid) = m at *
    refine asc_iff.2 ⟨fun n hn => ?_, ?_⟩
    · obtain ⟨x, hx, rfl⟩ := List.mem_map.1 hn
      rcases List.mem_append.1 hx with hx | hx
      · exact h1 _ (List.mem_map.2 ⟨x, List.mem_of_mem_take hx, rfl⟩)
      · rcases List.mem_cons.1 hx with rfl | hx
        · exact ha
        · exact h1 _ (List.mem_map.2 ⟨x, List.mem_of_mem_drop hx, rfl⟩)
    · rw [List.pairwise_map] at h2 ⊢
      rw [List.pairwise_append]
      refine ⟨h2.sublist (List.take_sublist _ _), ?_, fun x hx y hy => ?_⟩
      · rw [List.pairwise_cons]
        exact ⟨fun y hy => hhi y hy, h2.sublist (List.drop_sublist _ _)⟩
      · have := hlo x hx
        rcases List.mem_cons.1 hy with rfl | hy
        · exact this
        · have := hhi y hy; omega
end Go.Proofs.Ythdpigdbkljiiaa
