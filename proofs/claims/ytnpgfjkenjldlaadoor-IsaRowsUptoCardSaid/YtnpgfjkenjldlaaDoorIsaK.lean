/- Programs in memory: what both Bytes and both Back answer, told at once; IsaBytes walked. -/
import Derived.Test.YtnpgfjkenjldlaaDoorIsaH2
import Derived.Test.YtnpgfjkenjldlaaDoorIsaI2
import Derived.Test.YtnpgfjkenjldlaaDoorIsaF2
import Derived.Test.YtnpgfjkenjldlaaDoorIsaG2
import Derived.Test.YtnpgfjkenjldlaaDoorIsaJ
import Derived.Test.YtnpgfjkenjldlaaDoorIsaL5
namespace Go.Proofs.YtnpgfjkenjldlaaDoor
open Go.RowKit
set_option linter.unusedVariables false

abbrev I4 := Int × Int × Int × Int
def progAt (w : World) (v : Value) (L : List I4) : Prop :=
  (∃ p cap, v = .slice p 0 cap ∧ L = []) ∨ ∃ b o cap, v = .slice (some ⟨b, o, none⟩) L.length cap ∧ b < w.heap.size ∧ insAt w b o L
theorem insAt.below {w w' : World} {b o : Nat} {L : List I4} (h : insAt w b o L) (hb : b < w.heap.size) (hw : Below w.heap.size w w') : insAt w' b o L := fun k x hx => by
  obtain ⟨c0, c1, c2, c3⟩ := h k x hx
  exact ⟨(hw.cell hb).trans c0, (hw.cell hb).trans c1, (hw.cell hb).trans c2, (hw.cell hb).trans c3⟩
theorem progAt.below {w w' : World} {v : Value} {L : List I4} (h : progAt w v L) (hw : Below w.heap.size w w') : progAt w' v L := by
  rcases h with h | ⟨b, o, cap, hv, hb, hi⟩
  · exact .inl h
  · exact .inr ⟨b, o, cap, hv, Nat.lt_of_lt_of_le hb hw.size, hi.below hb hw⟩

def flatI : List I4 → List Value
  | [] => []
  | x :: L => [.int .i64 x.1, .int .i64 x.2.1, .int .i64 x.2.2.1, .int .i64 x.2.2.2] ++ flatI L
theorem flatI_append (A B : List I4) : flatI (A ++ B) = flatI A ++ flatI B := by
  induction A with
  | nil => rfl
  | cons x A ih => simp only [List.cons_append, flatI, ih, List.append_assoc]
theorem flatI_get : ∀ (L : List I4) (k : Nat) (x : I4), L[k]? = some x → (flatI L)[k * 4]? = some (.int .i64 x.1) ∧ (flatI L)[k * 4 + 1]? = some (.int .i64 x.2.1) ∧ (flatI L)[k * 4 + 2]? = some (.int .i64 x.2.2.1) ∧ (flatI L)[k * 4 + 3]? = some (.int .i64 x.2.2.2)
  | [], k, x, h => by simp at h
  | y :: L, 0, x, h => by
    simp at h
    subst h
    exact ⟨rfl, rfl, rfl, rfl⟩
  | y :: L, k + 1, x, h => by
    have ih := flatI_get L k x (by simpa using h)
    rw [show (k + 1) * 4 = k * 4 + 4 by omega]
    exact ih
def backT (s : ByteArray) : Nat → List I4
  | 0 => []
  | k + 1 => backT s k ++ [(tO (wV s (4 * k)), tA (wV s (4 * k)), tB (wV s (4 * k)), tI (wV s (4 * k)))]
theorem backT_len (s : ByteArray) : ∀ n, (backT s n).length = n
  | 0 => rfl
  | n + 1 => by simp [backT, backT_len s n]
theorem backC_flat (s : ByteArray) : ∀ n, backC s n = flatI (backT s n)
  | 0 => rfl
  | n + 1 => by
    simp only [backC, backT, flatI_append, backC_flat s n]
    rfl
theorem progAt_of_owns {w : World} {base n : Nat} {v : Value} {L : List I4} (hl : L.length = n) (h : w.ownsRow base 23 4 v n (flatI L)) : progAt w v L := by
  rcases h.2 with ⟨rfl, hn⟩ | ⟨g, cap, cur, hv, hb, hg, h1, h2, h3, h4⟩
  · exact .inl ⟨_, _, rfl, List.eq_nil_of_length_eq_zero (by omega)⟩
  · refine .inr ⟨g, 0, cap, by rw [hv, hl], (Array.getElem?_eq_some_iff.1 hg).1, fun k x hx => ?_⟩
    obtain ⟨g0, g1, g2, g3⟩ := flatI_get L k x hx
    have hc := h.cells (g := g) (by rw [hv]; rfl)
    have a0 := hc _ _ g0
    have a1 := hc _ _ g1
    have a2 := hc _ _ g2
    have a3 := hc _ _ g3
    have hadd : ∀ i, (⟨g, 0, none⟩ : Addr).add i = ⟨g, 0 + i, none⟩ := fun i => by unfold Addr.add; split <;> simp_all
    rw [hadd] at a0 a1 a2 a3
    exact ⟨a0, a1, a2, a3⟩

theorem firstBadL : ∀ (L : List I4), (∀ x ∈ L, okI x = true) ∨ ∃ j, j < L.length ∧ (∀ k x, k < j → L[k]? = some x → okI x = true) ∧ ∀ x, L[j]? = some x → okI x = false
  | [] => .inl fun x hx => by cases hx
  | y :: L => by
    cases hy : okI y with
    | false => exact .inr ⟨0, by simp, fun k x hk => by omega, fun x hx => by simp at hx; subst hx; exact hy⟩
    | true =>
      rcases firstBadL L with h | ⟨j, hj, h1, h2⟩
      · refine .inl fun x hx => ?_
        rcases List.mem_cons.1 hx with rfl | hx
        · exact hy
        · exact h x hx
      · refine .inr ⟨j + 1, by simpa using hj, fun k x hk hx => ?_, fun x hx => h2 x (by simpa using hx)⟩
        cases k with
        | zero => simp at hx; subst hx; exact hy
        | succ k => exact h1 k x (by omega) (by simpa using hx)

def allOk (L : List I4) : Bool := L.all okI
def bytS (L : List I4) : ByteArray := if allOk L then ⟨(bytU L).toArray⟩ else ⟨#[]⟩
def bytE (L : List I4) : Int := if allOk L then 0 else 1
theorem bytes_any (L : List I4) (v : Value) (w : World) (hT : UsesAt w) (hv : progAt w v L) (hs : L.length ≤ 1048576) :
    Calls Tryd.prog 18 #[v] w fun e w' => e = .returned (.tuple #[.string (bytS L), .int .i64 (bytE L)]) ∧ Below w.heap.size w w' := by
  rcases hv with ⟨p, c, rfl, rfl⟩ | ⟨b, o, cap, rfl, hb, hL⟩
  · exact bytes_nil p c w
  · rcases firstBadL L with h | ⟨j, hj, h1, h2⟩
    · have ha : allOk L = true := List.all_eq_true.2 h
      simp only [bytS, bytE, ha]
      exact bytes_ok b o cap L w hT hb hs hL h
    · have ha : allOk L = false := by
        rw [allOk, List.all_eq_false]
        exact ⟨L[j], List.getElem_mem hj, by rw [h2 _ (List.getElem?_eq_getElem hj)]; simp⟩
      simp only [bytS, bytE, ha]
      exact bytes_bad b o cap j L w hT hb hs hL hj h1 h2
theorem rBytes_any (L : List I4) (v : Value) (w : World) (hT : UsesAt w) (hv : progAt w v L) (hs : L.length ≤ 1048576) :
    Calls Tryd.prog 19 #[v] w fun e w' => e = .returned (.tuple #[.string (bytS L), .int .i64 (bytE L)]) ∧ Below w.heap.size w w' := by
  rcases hv with ⟨p, c, rfl, rfl⟩ | ⟨b, o, cap, rfl, hb, hL⟩
  · exact rBytes_nil p c w
  · rcases firstBadL L with h | ⟨j, hj, h1, h2⟩
    · have ha : allOk L = true := List.all_eq_true.2 h
      simp only [bytS, bytE, ha]
      exact rBytes_ok b o cap L w hT hb hs hL h
    · have ha : allOk L = false := by
        rw [allOk, List.all_eq_false]
        exact ⟨L[j], List.getElem_mem hj, by rw [h2 _ (List.getElem?_eq_getElem hj)]; simp⟩
      simp only [bytS, bytE, ha]
      exact rBytes_bad b o cap j L w hT hb hs hL hj h1 h2

/-- What both Back answer: a program, and a number. -/
theorem back_both (s : ByteArray) (hs : s.size ≤ 1048576) : ∃ (L : List I4) (c : Int), (L.length ≤ 1048576 ∧ 0 ≤ c ∧ c ≤ 11) ∧
    (∀ w, UsesAt w → Calls Tryd.prog 20 #[.string s] w fun e w' => (∃ v, e = .returned (.tuple #[v, .int .i64 c]) ∧ progAt w' v L) ∧ Below w.heap.size w w') ∧
    (∀ w, UsesAt w → Calls Tryd.prog 21 #[.string s] w fun e w' => (∃ v, e = .returned (.tuple #[v, .int .i64 c]) ∧ progAt w' v L) ∧ Below w.heap.size w w') := by
  by_cases h4 : s.size % 4 = 0
  · rcases firstBad s (s.size / 4) with h | ⟨j, hj, h1, h2⟩
    · refine ⟨backT s (s.size / 4), 0, ⟨by rw [backT_len]; omega, by omega, by omega⟩, fun w hT => ?_, fun w hT => ?_⟩
      · refine (back_ok s (s.size / 4) w hT (by omega) (by omega) h).mono ?_
        rintro e w' ⟨⟨v, rfl, ho⟩, hb⟩
        exact ⟨⟨v, rfl, progAt_of_owns (backT_len s _) (by rw [← backC_flat]; exact ho)⟩, hb⟩
      · refine (rBack_ok s (s.size / 4) w hT hs (by omega) h).mono ?_
        rintro e w' ⟨⟨v, rfl, ho⟩, hb⟩
        exact ⟨⟨v, rfl, progAt_of_owns (backT_len s _) (by rw [← backC_flat]; exact ho)⟩, hb⟩
    · refine ⟨[], 11, ⟨by simp, by omega, by omega⟩, fun w hT => ?_, fun w hT => ?_⟩
      · refine (back_bad s (s.size / 4) j w hT hs (by omega) hj h1 h2).mono ?_
        rintro e w' ⟨rfl, hb⟩
        exact ⟨⟨_, rfl, .inl ⟨_, _, rfl, rfl⟩⟩, hb⟩
      · refine (rBack_bad s (s.size / 4) j w hT hs (by omega) hj h1 h2).mono ?_
        rintro e w' ⟨rfl, hb⟩
        exact ⟨⟨_, rfl, .inl ⟨_, _, rfl, rfl⟩⟩, hb⟩
  · refine ⟨[], 2, ⟨by simp, by omega, by omega⟩, fun w hT => ?_, fun w hT => ?_⟩
    · refine (back_more s w hs h4).mono ?_
      rintro e w' ⟨rfl, rfl⟩
      exact ⟨⟨_, rfl, .inl ⟨_, _, rfl, rfl⟩⟩, Below.refl _ _⟩
    · refine (rBack_more s w hs h4).mono ?_
      rintro e w' ⟨rfl, rfl⟩
      exact ⟨⟨_, rfl, .inl ⟨_, _, rfl, rfl⟩⟩, Below.refl _ _⟩

theorem same_any (L : List I4) (v v' : Value) (w : World) (h : progAt w v L) (h' : progAt w v' L) (hs : L.length ≤ 1048576) :
    Calls Tryd.prog 22 #[v, v'] w fun e w' => e = .returned (.bool true) ∧ Below w.heap.size w w' := by
  rcases h with ⟨p, c, rfl, rfl⟩ | ⟨b, o, cap, rfl, hb, hL⟩
  · rcases h' with ⟨q, c', rfl, _⟩ | ⟨b', o', cap', rfl, hb', hL'⟩
    · exact same_empty _ _ _ _ w
    · exact same_empty _ _ _ _ w
  · rcases h' with ⟨q, c', rfl, rfl⟩ | ⟨b', o', cap', rfl, hb', hL'⟩
    · exact same_empty _ _ _ _ w
    · exact same_yes b o cap b' o' cap' L w hb hb' hs hL hL'
end Go.Proofs.YtnpgfjkenjldlaaDoor
