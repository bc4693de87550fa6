/- Alarms: what is true of rows. -/
import Derived.Test.YtjelflknbhklnaaSlE
import Derived.Test.YtjelflknbhklnaaSxR
namespace Go.Proofs.Ytjelflknbhklnaa
open Go.Sx Go.RowKit
set_option linter.unusedVariables false
set_option linter.unusedSimpArgs false
def insE (a : E) (L : List E) : List E := L.take (L.findIdx (beh a)) ++ a :: L.drop (L.findIdx (beh a))
def dueI (n : Int) (L : List E) : List Int := (L.take (L.findIdx (late n))).map (·.2)
def restE (n : Int) (L : List E) : List E := L.drop (L.findIdx (late n))
def goneE (n : Int) (L : List E) : List E := L.filter (fun x => !(x.2 == n))
theorem due_len (n : Int) (L : List E) : (dueI n L).length = L.findIdx (late n) := by
  have := List.findIdx_le_length (p := late n) (xs := L)
  simp [dueI]; omega
theorem rest_len (n : Int) (L : List E) : (restE n L).length = L.length - L.findIdx (late n) := by simp [restE]
theorem due_get {n : Int} {L : List E} {i : Nat} (h : i < L.findIdx (late n)) : (dueI n L).getD i 0 = (L.getD i e0).2 := by
  have := List.findIdx_le_length (p := late n) (xs := L)
  have hi : i < L.length := by omega
  simp [dueI, List.getD_eq_getElem?_getD, h, hi]
theorem rest_get {n : Int} {L : List E} {i : Nat} : (restE n L).getD i e0 = L.getD (L.findIdx (late n) + i) e0 := getD_drop _ _ _ _
theorem late_fore {n : Int} {L : List E} {i : Nat} (h : i < L.findIdx (late n)) : (L.getD i e0).1 ≤ n := by
  have h0 := List.findIdx_le_length (p := late n) (xs := L)
  have := List.not_of_lt_findIdx h
  rw [← getD_mem (by omega)] at this
  simp only [late, decide_eq_true_eq, Bool.not_eq_true, decide_eq_false_iff_not] at this
  omega
theorem late_at {n : Int} {L : List E} (h : L.findIdx (late n) < L.length) : (L.getD (L.findIdx (late n)) e0).1 > n := by
  have : late n L[L.findIdx (late n)] = true := List.findIdx_getElem
  rw [← getD_mem h] at this
  simpa [late] using this
theorem ltE_trans {x y z : E} (h : ltE x y) (k : ltE y z) : ltE x z := by unfold ltE at *; omega
theorem srt_lt {L : List E} (h : Srt L) : ∀ d i, i + d + 1 < L.length → ltE (L.getD i e0) (L.getD (i + d + 1) e0)
  | 0, i, hi => h i hi
  | d + 1, i, hi => ltE_trans (srt_lt h d i (by omega)) (h (i + d + 1) (by omega))
theorem srt_pw {L : List E} : Srt L ↔ L.Pairwise ltE := by
  rw [List.pairwise_iff_getElem]
  constructor
  · intro h i j hi hj hij
    have := srt_lt h (j - i - 1) i (by omega)
    rw [show i + (j - i - 1) + 1 = j by omega, getD_mem hi, getD_mem hj] at this
    exact this
  · intro h n hn
    have := h n (n + 1) (by omega) hn (by omega)
    rwa [← getD_mem, ← getD_mem] at this
theorem late_aft {n : Int} {L : List E} (hs : Srt L) {i : Nat} (h : L.findIdx (late n) ≤ i) (hi : i < L.length) : (L.getD i e0).1 > n := by
  have h1 := late_at (n := n) (L := L) (by omega)
  rcases Nat.lt_or_ge (L.findIdx (late n)) i with h2 | h2
  · have := srt_lt hs (i - L.findIdx (late n) - 1) (L.findIdx (late n)) (by omega)
    rw [show L.findIdx (late n) + (i - L.findIdx (late n) - 1) + 1 = i by omega] at this
    unfold ltE at this; omega
  · rwa [show i = L.findIdx (late n) by omega]
theorem ins_len (a : E) (L : List E) : (insE a L).length = L.length + 1 := by
  have := List.findIdx_le_length (p := beh a) (xs := L)
  simp [insE]; omega
theorem ins_mem (a : E) (L : List E) : a ∈ insE a L := by simp [insE]
theorem gone_ins (a : E) (L : List E) : goneE a.2 (insE a L) = goneE a.2 L := by
  unfold goneE insE
  rw [List.filter_append, List.filter_cons]
  simp only [BEq.rfl, Bool.not_true, Bool.false_eq_true, if_false]
  rw [← List.filter_append, List.take_append_drop]
theorem gone_get {n : Int} {L : List E} {i : Nat} (h : i < (goneE n L).length) : ((goneE n L).getD i e0).2 ≠ n := by
  have hm : (goneE n L).getD i e0 ∈ goneE n L := by rw [getD_mem h]; exact List.getElem_mem h
  generalize (goneE n L).getD i e0 = y at hm ⊢
  unfold goneE at hm
  rw [List.mem_filter] at hm
  simpa using hm.2
theorem ins_srt {a : E} {L : List E} (h : Srt L) (hn : ¬ a ∈ L) : Srt (insE a L) := by
  rw [srt_pw] at h ⊢
  unfold insE
  have h0 := List.findIdx_le_length (p := beh a) (xs := L)
  have hsp : L = L.take (L.findIdx (beh a)) ++ L.drop (L.findIdx (beh a)) := (List.take_append_drop _ _).symm
  have hp := h
  rw [hsp, List.pairwise_append] at hp
  obtain ⟨p1, p2, p3⟩ := hp
  have q1 : ∀ x ∈ L.take (L.findIdx (beh a)), ltE x a := fun x hx => by
    obtain ⟨i, hi, rfl⟩ := List.getElem_of_mem hx
    have hi' : i < L.findIdx (beh a) := by simp at hi; omega
    have hb := List.not_of_lt_findIdx hi'
    rw [List.getElem_take]
    have hne : L[i]'(by omega) ≠ a := fun e => hn (by rw [← e]; exact List.getElem_mem _)
    generalize L[i]'(by omega) = y at *
    simp only [beh, Bool.not_eq_true, Bool.or_eq_false_iff, Bool.and_eq_false_iff, decide_eq_false_iff_not, beq_eq_false_iff_ne] at hb
    have hne' : ¬ (y.1 = a.1 ∧ y.2 = a.2) := fun h => hne (Prod.ext h.1 h.2)
    unfold ltE; omega
  have q2 : ∀ x ∈ L.drop (L.findIdx (beh a)), ltE a x := fun x hx => by
    obtain ⟨i, hi, rfl⟩ := List.getElem_of_mem hx
    have hm : L.findIdx (beh a) < L.length := by simp at hi; omega
    have hb : beh a L[L.findIdx (beh a)] = true := List.findIdx_getElem
    have ha : ltE a L[L.findIdx (beh a)] := by
      generalize L[L.findIdx (beh a)] = y at *
      simp only [beh, Bool.or_eq_true, Bool.and_eq_true, decide_eq_true_eq, beq_iff_eq] at hb
      unfold ltE; omega
    rw [List.getElem_drop]
    rcases Nat.eq_zero_or_pos i with h0 | h0
    · subst h0; simpa using ha
    · rw [List.pairwise_iff_getElem] at h
      exact ltE_trans ha (h _ _ hm (by simp at hi; omega) (by omega))
  rw [List.pairwise_append]
  refine ⟨p1, List.pairwise_cons.2 ⟨q2, p2⟩, fun x hx y hy => ?_⟩
  rcases List.mem_cons.1 hy with rfl | hy
  · exact q1 x hx
  · exact p3 x hx y hy
theorem gone_srt {n : Int} {L : List E} (h : Srt L) : Srt (goneE n L) := by
  rw [srt_pw] at h ⊢
  exact h.filter _
theorem rest_srt {n : Int} {L : List E} (h : Srt L) : Srt (restE n L) := by
  rw [srt_pw] at h ⊢
  unfold restE
  exact h.sublist (List.drop_sublist _ _)
theorem late_two {now later : Int} {L : List E} (h : now ≤ later) : L.findIdx (late later) = L.findIdx (late now) + (restE now L).findIdx (late later) := by
  have h0 := List.findIdx_le_length (p := late now) (xs := L)
  have hsp : L = L.take (L.findIdx (late now)) ++ L.drop (L.findIdx (late now)) := (List.take_append_drop _ _).symm
  have hn : (L.take (L.findIdx (late now))).findIdx (late later) = (L.take (L.findIdx (late now))).length := by
    rw [List.findIdx_eq_length]
    intro x hx
    obtain ⟨i, hi, rfl⟩ := List.getElem_of_mem hx
    have hi' : i < L.findIdx (late now) := by simp at hi; omega
    have := late_fore hi'
    rw [getD_mem (by omega)] at this
    rw [List.getElem_take]
    simp [late]; omega
  have hl : (L.take (L.findIdx (late now))).length = L.findIdx (late now) := by simp; omega
  conv => lhs; rw [hsp]
  rw [List.findIdx_append, hn, if_neg (Nat.lt_irrefl _), hl, Nat.add_comm]
  rfl
theorem due_two {now later : Int} {L : List E} (h : now ≤ later) : dueI later L = dueI now L ++ dueI later (restE now L) := by
  unfold dueI
  rw [late_two h, ← List.map_append]
  congr 1
  rw [List.take_add]
  rfl
theorem rest_two {now later : Int} {L : List E} (h : now ≤ later) : restE later (restE now L) = restE later L := by
  unfold restE
  rw [List.drop_drop, late_two (L := L) h]
  rfl
end Go.Proofs.Ytjelflknbhklnaa
