/- Heaps: facts of rows of spans. -/
import Derived.Test.YtpbpgkkfpfenhaaHpD
namespace Go.Proofs.Ytpbpgkkfpfenhaa
open Go.Sx Go.RowKit
set_option linter.unusedVariables false
theorem filt_split {p : E → Bool} {L : List E} {k : Nat} (hk : k < L.length) (hp : p (L.getD k e0) = true) : L.filter p = ((L.take k).filter p ++ [L.getD k e0]) ++ (L.drop (k + 1)).filter p := by
  rw [← filt_take_yes (d := e0) hk hp, ← List.filter_append, List.take_append_drop]
theorem filt_get {p : E → Bool} {L : List E} {k : Nat} (hk : k < L.length) (hp : p (L.getD k e0) = true) : (L.filter p).getD ((L.take k).filter p).length e0 = L.getD k e0 := by
  rw [filt_split hk hp]
  generalize (L.take k).filter p = A
  simp only [List.getD_eq_getElem?_getD]
  rw [List.getElem?_append_left (by simp), List.getElem?_append_right (Nat.le_refl _), Nat.sub_self]
  rfl
theorem filt_lt {p : E → Bool} {L : List E} {k : Nat} (hk : k < L.length) (hp : p (L.getD k e0) = true) : ((L.take k).filter p).length < (L.filter p).length := by
  rw [filt_split hk hp]; simp only [List.length_append, List.length_singleton]; omega
theorem end_step {sz : Int} {L : List E} {k : Nat} (h : OkAt sz L k) : endAt L k ≤ (L.getD k e0).1 ∧ (L.getD k e0).1 < endAt L (k + 1) := ⟨h.a, by have := h.c; simp only [endAt]; omega⟩
theorem end_mono {sz : Int} {L : List E} {i : Nat} : ∀ {j : Nat}, (∀ q, q < j → OkAt sz L q) → i ≤ j → endAt L i ≤ endAt L j
  | 0, _, h => by rw [show i = 0 by omega]; exact Int.le_refl _
  | j + 1, ok, h => by
    rcases Nat.lt_or_ge j i with h' | h'
    · rw [show i = j + 1 by omega]; exact Int.le_refl _
    · have h1 := end_mono (j := j) (fun q hq => ok q (by omega)) h'
      have h2 := end_step (ok j (by omega))
      omega
theorem at_mono {sz : Int} {L : List E} {i j : Nat} (ok : ∀ q, q < j + 1 → OkAt sz L q) (h : i ≤ j) : (L.getD i e0).1 ≤ (L.getD j e0).1 := by
  rcases Nat.lt_or_ge i j with h' | h'
  · have h1 := end_step (ok i (by omega))
    have h2 := end_mono (i := i + 1) (j := j) (fun q hq => ok q (by omega)) (by omega)
    have h3 := end_step (ok j (by omega))
    omega
  · rw [show i = j by omega]; exact Int.le_refl _
/-- A hole is what lies ahead of a span, or behind all. -/
def HoleAt (sz : Int) (L : List E) (x : E) : Prop := ∃ m, m ≤ L.length ∧ x.1 = endAt L m ∧ 1 ≤ x.2.1 ∧ x.2.2 = 0 ∧ ((m < L.length ∧ x.1 + x.2.1 = (L.getD m e0).1) ∨ (m = L.length ∧ x.1 + x.2.1 = sz))
theorem gap_mem {L : List E} {k : Nat} {to : Int} {x : E} (h : x ∈ gapAt L k to) : x.1 = endAt L k ∧ 1 ≤ x.2.1 ∧ x.2.2 = 0 ∧ x.1 + x.2.1 = to := by
  unfold gapAt at h
  split at h
  · simp only [List.mem_singleton] at h; subst h
    refine ⟨rfl, ?_, rfl, ?_⟩ <;> (dsimp only; omega)
  · cases h
theorem holesTo_mem {sz : Int} {L : List E} {x : E} : ∀ {k : Nat}, k ≤ L.length → x ∈ holesTo L k → ∃ m, m < k ∧ x.1 = endAt L m ∧ 1 ≤ x.2.1 ∧ x.2.2 = 0 ∧ x.1 + x.2.1 = (L.getD m e0).1
  | 0, _, h => by cases h
  | k + 1, hk, h => by
    rw [holesTo] at h
    rcases List.mem_append.1 h with h | h
    · obtain ⟨m, h1, h2⟩ := holesTo_mem (sz := sz) (by omega) h
      exact ⟨m, by omega, h2⟩
    · obtain ⟨h1, h2, h3, h4⟩ := gap_mem h
      exact ⟨k, by omega, h1, h2, h3, h4⟩
theorem hole_at {sz : Int} {L : List E} {x : E} (h : x ∈ holes sz L) : HoleAt sz L x := by
  rcases List.mem_append.1 h with h | h
  · obtain ⟨m, h1, h2, h3, h4, h5⟩ := holesTo_mem (sz := sz) (Nat.le_refl _) h
    exact ⟨m, by omega, h2, h3, h4, .inl ⟨h1, h5⟩⟩
  · obtain ⟨h1, h2, h3, h4⟩ := gap_mem h
    exact ⟨L.length, Nat.le_refl _, h1, h2, h3, .inr ⟨rfl, h4⟩⟩
/-- A hole lies within the room, and apart from each span. -/
theorem hole_in {sz : Int} {L : List E} (ht : Rt sz L) {x : E} (h : HoleAt sz L x) : 0 ≤ x.1 ∧ 1 ≤ x.2.1 ∧ x.1 + x.2.1 ≤ sz := by
  obtain ⟨m, h1, h2, h3, _, h5⟩ := h
  have h6 := end_ok ht.1 (k := m) (fun j hj => ht.2 j (by omega))
  rcases h5 with ⟨h7, h8⟩ | ⟨h7, h8⟩
  · have := (ht.2 m h7).b; omega
  · omega
theorem hole_apart {sz : Int} {L : List E} (ht : Rt sz L) {x : E} (h : HoleAt sz L x) {j : Nat} (hj : j < L.length) : (L.getD j e0).1 + (L.getD j e0).2.1 ≤ x.1 ∨ x.1 + x.2.1 ≤ (L.getD j e0).1 := by
  obtain ⟨m, h1, h2, h3, _, h5⟩ := h
  rcases Nat.lt_or_ge j m with hjm | hjm
  · left
    have := end_mono (sz := sz) (i := j + 1) (j := m) (fun q hq => ht.2 q (by omega)) (by omega)
    rw [h2]; exact this
  · right
    rcases h5 with ⟨h7, h8⟩ | ⟨h7, h8⟩
    · rw [h8]; exact at_mono (sz := sz) (fun q hq => ht.2 q (by omega)) hjm
    · omega
theorem holesTo_end {sz : Int} {L : List E} (ht : Rt sz L) : ∀ {k : Nat}, k ≤ L.length → ∀ x ∈ holesTo L k, x.1 + x.2.1 < endAt L k
  | 0, _, x, h => by cases h
  | k + 1, hk, x, h => by
    have h2 := end_step (ht.2 k (by omega))
    rw [holesTo] at h
    rcases List.mem_append.1 h with h | h
    · have := holesTo_end ht (k := k) (by omega) x h; omega
    · have := gap_mem h; omega
/-- No two holes meet. -/
theorem holesTo_pw {sz : Int} {L : List E} (ht : Rt sz L) : ∀ {k : Nat}, k ≤ L.length → (holesTo L k).Pairwise (fun a b => a.1 + a.2.1 < b.1)
  | 0, _ => by simp [holesTo]
  | k + 1, hk => by
    rw [holesTo, List.pairwise_append]
    refine ⟨holesTo_pw ht (by omega), ?_, fun a ha b hb => ?_⟩
    · unfold gapAt; split <;> simp
    · have h1 := holesTo_end ht (k := k) (by omega) a ha
      have h2 := gap_mem hb
      omega
theorem holes_pw {sz : Int} {L : List E} (ht : Rt sz L) : (holes sz L).Pairwise (fun a b => a.1 + a.2.1 < b.1) := by
  rw [holes, List.pairwise_append]
  refine ⟨holesTo_pw ht (Nat.le_refl _), ?_, fun a ha b hb => ?_⟩
  · unfold gapAt; split <;> simp
  · have h1 := holesTo_end ht (Nat.le_refl _) a ha
    have h2 := gap_mem hb
    omega
theorem holes_lt {sz : Int} {L : List E} (ht : Rt sz L) {i j : Nat} (hij : i < j) (hj : j < (holes sz L).length) : ((holes sz L).getD i e0).1 + ((holes sz L).getD i e0).2.1 < ((holes sz L).getD j e0).1 := by
  have := List.pairwise_iff_getElem.1 (holes_pw ht) i j (by omega) hj hij
  rw [getD_mem (by omega), getD_mem hj]; exact this
theorem hole_get {sz : Int} {L : List E} {i : Nat} (hi : i < (holes sz L).length) : HoleAt sz L ((holes sz L).getD i e0) := by
  rw [getD_mem hi]; exact hole_at (List.getElem_mem hi)
theorem sum_take {sz : Int} {L : List E} (ht : Rt sz L) {k : Nat} (hk : k ≤ L.length) : 0 ≤ sumN (L.take k) ∧ sumN (L.take k) ≤ sz := by
  have ok : ∀ j, j < k → OkAt sz L j := fun j hj => ht.2 j (by omega)
  have h1 := (sumN_holesTo ok).resolve_right (by omega)
  have h2 := sumN_nn (holesTo_pos L k)
  have h3 := end_ok ht.1 ok
  refine ⟨sumN_nn fun x hx => ?_, by omega⟩
  obtain ⟨j, hj, rfl⟩ := List.getElem_of_mem (List.mem_of_mem_take hx)
  have := (ht.2 j hj).c
  rwa [getD_mem hj] at this
end Go.Proofs.Ytpbpgkkfpfenhaa
