/- Heaps: what is meant. -/
import Derived.Test.YtpbpgkkfpfenhaaEl
namespace Go.Proofs.Ytpbpgkkfpfenhaa
open Go.Sx Go.RowKit
set_option linter.unusedVariables false
/-- Where the first k spans end. -/
def endAt (L : List E) : Nat → Int
  | 0 => 0
  | k + 1 => (L.getD k e0).1 + (L.getD k e0).2.1
structure OkAt (sz : Int) (L : List E) (k : Nat) : Prop where
  a : endAt L k ≤ (L.getD k e0).1
  b : (L.getD k e0).1 ≤ sz
  c : 1 ≤ (L.getD k e0).2.1
  d : (L.getD k e0).2.1 ≤ sz - (L.getD k e0).1
def Rt (sz : Int) (L : List E) : Prop := 0 ≤ sz ∧ ∀ k, k < L.length → OkAt sz L k
def gapAt (L : List E) (k : Nat) (to : Int) : List E := if endAt L k < to then [(endAt L k, to - endAt L k, 0)] else []
def holesTo (L : List E) : Nat → List E
  | 0 => []
  | k + 1 => holesTo L k ++ gapAt L k (L.getD k e0).1
def holes (sz : Int) (L : List E) : List E := holesTo L L.length ++ gapAt L L.length sz
theorem end_ok {sz : Int} {L : List E} (h0 : 0 ≤ sz) : ∀ {k : Nat}, (∀ j, j < k → OkAt sz L j) → 0 ≤ endAt L k ∧ endAt L k ≤ sz
  | 0, _ => ⟨Int.le_refl _, h0⟩
  | k + 1, h => by
    obtain ⟨h1, h2⟩ := end_ok h0 (k := k) (fun j hj => h j (by omega))
    obtain ⟨a, b, c, d⟩ := h k (by omega)
    simp only [endAt]
    omega
theorem gap_len (L : List E) (k : Nat) (to : Int) : (gapAt L k to).length ≤ 1 := by
  unfold gapAt; split <;> simp
theorem holesTo_len (L : List E) : ∀ k, (holesTo L k).length ≤ k
  | 0 => by simp [holesTo]
  | k + 1 => by
    have := gap_len L k (L.getD k e0).1
    have := holesTo_len L k
    simp only [holesTo, List.length_append]
    omega
theorem holes_len (sz : Int) (L : List E) : (holes sz L).length ≤ L.length + 1 := by
  have := gap_len L L.length sz
  have := holesTo_len L L.length
  simp only [holes, List.length_append]
  omega
theorem gap_yes {L : List E} {k : Nat} {to : Int} (h : endAt L k < to) : gapAt L k to = [(endAt L k, to - endAt L k, 0)] := if_pos h
theorem gap_no {L : List E} {k : Nat} {to : Int} (h : ¬ endAt L k < to) : gapAt L k to = [] := if_neg h
theorem holesTo_yes {L : List E} {k : Nat} (h : endAt L k < (L.getD k e0).1) : holesTo L (k + 1) = holesTo L k ++ [(endAt L k, (L.getD k e0).1 - endAt L k, 0)] := by rw [holesTo, gap_yes h]
theorem holesTo_no {L : List E} {k : Nat} (h : ¬ endAt L k < (L.getD k e0).1) : holesTo L (k + 1) = holesTo L k := by rw [holesTo, gap_no h, List.append_nil]
theorem holes_yes {sz : Int} {L : List E} (h : endAt L L.length < sz) : holes sz L = holesTo L L.length ++ [(endAt L L.length, sz - endAt L L.length, 0)] := by rw [holes, gap_yes h]
theorem holes_no {sz : Int} {L : List E} (h : ¬ endAt L L.length < sz) : holes sz L = holesTo L L.length := by rw [holes, gap_no h, List.append_nil]
theorem holesTo_split (L : List E) (k : Nat) : ∀ m, k ≤ m → ∃ l, holesTo L m = holesTo L k ++ l
  | 0, h => ⟨[], by rw [show k = 0 by omega, List.append_nil]⟩
  | m + 1, h => by
    rcases Nat.lt_or_ge m k with h' | h'
    · exact ⟨[], by rw [show k = m + 1 by omega, List.append_nil]⟩
    · obtain ⟨l, hl⟩ := holesTo_split L k m h'
      exact ⟨l ++ gapAt L m (L.getD m e0).1, by rw [holesTo, hl, List.append_assoc]⟩
/-- The first hole that has as many places. -/
def fits (n : Int) (h : E) : Bool := decide (n ≤ h.2.1)
def fit (n sz : Int) (L : List E) : Option E := (holes sz L).find? (fits n)
theorem fit_at {n sz : Int} {L : List E} {k : Nat} (hk : k < L.length) (hn : ∀ h ∈ holesTo L k, fits n h = false) (hg : endAt L k < (L.getD k e0).1) (hf : n ≤ (L.getD k e0).1 - endAt L k) : fit n sz L = some (endAt L k, (L.getD k e0).1 - endAt L k, 0) := by
  obtain ⟨l, hl⟩ := holesTo_split L (k + 1) L.length hk
  unfold fit holes
  rw [hl, holesTo_yes hg, List.append_assoc, List.append_assoc, List.find?_append, List.find?_eq_none.2 (fun h hh => by simpa using hn h hh), Option.none_or, List.singleton_append, List.find?_cons_of_pos (by simpa only [fits, decide_eq_true_eq] using hf)]
theorem fit_end {n sz : Int} {L : List E} (hn : ∀ h ∈ holesTo L L.length, fits n h = false) (hg : endAt L L.length < sz) (hf : n ≤ sz - endAt L L.length) : fit n sz L = some (endAt L L.length, sz - endAt L L.length, 0) := by
  unfold fit
  rw [holes_yes hg, List.find?_append, List.find?_eq_none.2 (fun h hh => by simpa using hn h hh)]
  simp [fits, hf]
theorem fit_none {n sz : Int} {L : List E} (hn : ∀ h ∈ holesTo L L.length, fits n h = false) (hg : ¬ (endAt L L.length < sz ∧ n ≤ sz - endAt L L.length)) : fit n sz L = none := by
  unfold fit
  rw [List.find?_eq_none]
  intro h hh
  rw [holes] at hh
  rcases List.mem_append.1 hh with hh | hh
  · simpa using hn h hh
  · unfold gapAt at hh
    split at hh
    · rename_i h1
      simp only [List.mem_singleton] at hh
      subst hh
      simp [fits]
      omega
    · cases hh
theorem nofit_yes {n : Int} {L : List E} {k : Nat} (hn : ∀ h ∈ holesTo L k, fits n h = false) (hg : endAt L k < (L.getD k e0).1) (hf : ¬ n ≤ (L.getD k e0).1 - endAt L k) : ∀ h ∈ holesTo L (k + 1), fits n h = false := by
  intro h hh
  rw [holesTo_yes hg] at hh
  rcases List.mem_append.1 hh with hh | hh
  · exact hn h hh
  · simp only [List.mem_singleton] at hh
    subst hh
    simp only [fits, decide_eq_false_iff_not]
    omega
/-- So many places have the first k holes. -/
def sumN (l : List E) : Int := (l.map (·.2.1)).foldr (· + ·) 0
theorem sumN_app (l m : List E) : sumN (l ++ m) = sumN l + sumN m := by
  induction l with
  | nil => simp [sumN]
  | cons x l ih => simp only [sumN, List.cons_append, List.map_cons, List.foldr_cons] at ih ⊢; omega
theorem sumN_take {l : List E} {k : Nat} (hk : k < l.length) : sumN (l.take (k + 1)) = sumN (l.take k) + (l.getD k e0).2.1 := by
  rw [take_snoc (d := e0) hk, sumN_app]; simp [sumN]
theorem sumN_nn {l : List E} (h : ∀ x ∈ l, 1 ≤ x.2.1) : 0 ≤ sumN l := by
  induction l with
  | nil => simp [sumN]
  | cons x l ih =>
    have h1 := h x (by simp)
    have h2 := ih (fun y hy => h y (by simp [hy]))
    simp only [sumN, List.map_cons, List.foldr_cons] at h2 ⊢; omega
theorem sumN_take_le {l : List E} (h : ∀ x ∈ l, 1 ≤ x.2.1) (k : Nat) : sumN (l.take k) ≤ sumN l := by
  have h1 := sumN_app (l.take k) (l.drop k)
  rw [List.take_append_drop] at h1
  have := sumN_nn (l := l.drop k) (fun x hx => h x (List.mem_of_mem_drop hx))
  omega
theorem gap_pos {L : List E} {k : Nat} {to : Int} : ∀ x ∈ gapAt L k to, 1 ≤ x.2.1 := by
  unfold gapAt
  split
  · intro x hx; simp only [List.mem_singleton] at hx; subst hx; show 1 ≤ to - endAt L k; omega
  · intro x hx; cases hx
theorem holesTo_pos (L : List E) : ∀ k, ∀ x ∈ holesTo L k, 1 ≤ x.2.1
  | 0, x, hx => by cases hx
  | k + 1, x, hx => by
    rw [holesTo] at hx
    rcases List.mem_append.1 hx with hx | hx
    · exact holesTo_pos L k x hx
    · exact gap_pos x hx
theorem holes_pos (sz : Int) (L : List E) : ∀ x ∈ holes sz L, 1 ≤ x.2.1 := by
  intro x hx
  rcases List.mem_append.1 hx with hx | hx
  · exact holesTo_pos L _ x hx
  · exact gap_pos x hx
theorem sum_gap {L : List E} {k : Nat} {to : Int} (h : endAt L k ≤ to) : sumN (gapAt L k to) = to - endAt L k := by
  unfold gapAt
  split
  · simp [sumN]
  · simp [sumN]; omega
theorem sumN_holesTo {sz : Int} {L : List E} : ∀ {k : Nat}, (∀ j, j < k → OkAt sz L j) → sumN (holesTo L k) = endAt L k - sumN (L.take k) ∨ L.length < k
  | 0, _ => .inl (by simp [holesTo, sumN, endAt])
  | k + 1, h => by
    by_cases hk : k < L.length
    · left
      rcases sumN_holesTo (k := k) (fun j hj => h j (by omega)) with h1 | h1
      · rw [holesTo, sumN_app, sum_gap (h k (by omega)).a, h1, sumN_take hk, endAt]
        omega
      · omega
    · exact .inr (by omega)
theorem sum_holes {sz : Int} {L : List E} (h : Rt sz L) : sumN (holes sz L) = sz - sumN L := by
  have h1 := (sumN_holesTo (k := L.length) h.2).resolve_right (by omega)
  have h2 := end_ok h.1 (k := L.length) h.2
  rw [holes, sumN_app, sum_gap h2.2, h1, List.take_length]
  omega
theorem sumN_L {sz : Int} {L : List E} (h : Rt sz L) : 0 ≤ sumN L := by
  refine sumN_nn fun x hx => ?_
  obtain ⟨j, hj, rfl⟩ := List.getElem_of_mem hx
  have := (h.2 j hj).c
  simpa [List.getD_eq_getElem?_getD, hj] using this
theorem sum_bound {sz : Int} {L : List E} (h : Rt sz L) (k : Nat) : 0 ≤ sumN ((holes sz L).take k) ∧ sumN ((holes sz L).take k) ≤ sz := by
  have h1 := sum_holes h
  have h2 := sumN_L h
  have h3 := sumN_take_le (holes_pos sz L) k
  have h4 := sumN_nn (l := (holes sz L).take k) (fun x hx => holes_pos sz L x (List.mem_of_mem_take hx))
  omega
/-- The holes of a heap that is right; none, if it isn't. -/
def hol (b : Bool) (sz : Int) (L : List E) : List E := if b then holes sz L else []
theorem hol_len (b : Bool) (sz : Int) (L : List E) : (hol b sz L).length ≤ L.length + 1 := by
  have := holes_len sz L
  unfold hol; split
  · exact this
  · simp
theorem hol_sum {b : Bool} {sz : Int} {L : List E} (hb : b = true ↔ Rt sz L) (hs : sz ≤ 9223372036854775807) (k : Nat) : 0 ≤ sumN ((hol b sz L).take k) ∧ sumN ((hol b sz L).take k) ≤ 9223372036854775807 := by
  cases b with
  | true =>
    have := sum_bound (hb.1 rfl) k
    simp only [hol, if_true]; omega
  | false => simp [hol, sumN]
open Classical in
theorem rt_b (sz : Int) (L : List E) : ∃ b : Bool, (b = true ↔ Rt sz L) := ⟨decide (Rt sz L), by simp⟩
end Go.Proofs.Ytpbpgkkfpfenhaa
