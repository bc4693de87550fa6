/- Windows: what the laws rest on. -/
import Derived.Test.YtpnfjkkofdlndaaPlH
namespace Go.Proofs.Ytpnfjkkofdlndaa
open Go.Sx Go.RowKit
set_option linter.unusedVariables false
set_option linter.unusedSimpArgs false
theorem cyN_of {F t q n : Int} (hF : 0 < F) (h : n + F * q = t) (h0 : 0 ≤ n) (h1 : n < F) (ht : 0 ≤ t) : cyN F t = n ∧ t / F = q := by
  have := (Int.ediv_emod_unique hF (a := t) (q := q) (r := n)).2 ⟨h, h0, h1⟩
  exact ⟨by unfold cyN; rw [Int.tmod_eq_emod_of_nonneg ht]; exact this.2, this.1⟩
theorem cyN_ex {F t : Int} (hF : 0 < F) (ht : 0 ≤ t) : ∃ q n, n + F * q = t ∧ 0 ≤ n ∧ n < F ∧ 0 ≤ q ∧ cyN F t = n ∧ t / F = q := by
  have h2 := Int.emod_nonneg t (show F ≠ 0 by omega)
  have h3 := Int.emod_lt_of_pos t hF
  have h4 := Int.ediv_nonneg ht (show 0 ≤ F by omega)
  have h5 := Int.emod_add_mul_ediv t F
  obtain ⟨h6, h7⟩ := cyN_of hF h5 h2 h3 ht
  exact ⟨t / F, t % F, h5, h2, h3, h4, h6, rfl⟩
section
variable {P : List Pa} {F : Int} {S : List RW} {C : List Ch} {i part n t : Int}
theorem There.sc0 (T : There P F S C i) : scanW P.length F 0 (winsOf S i) = 0 := T.sc
theorem There.gr (T : There P F S C i) (hb : thereB P F S C i = true) {q : Int} (hq : 0 ≤ q) (h0 : 0 ≤ n) (h1 : n ≤ F) : grS P F S C i part (n + F * q) = q * sumI part F (winsOf S i) + sumI part n (winsOf S i) := by
  have hF := T.F1
  have hm : 0 ≤ F * q := Int.mul_nonneg (by omega) hq
  unfold grS
  rw [if_pos hb]
  by_cases h : n < F
  · obtain ⟨e1, e2⟩ := cyN_of (t := n + F * q) (by omega) rfl h0 h (by omega)
    rw [e1, e2]
  · have hn : n = F := by omega
    subst hn
    obtain ⟨e1, e2⟩ := cyN_of (F := n) (t := n + n * q) (q := q + 1) (n := 0) (by omega) (by rw [Int.mul_add]; omega) (by omega) (by omega) (by omega)
    rw [e1, e2, sumI_zero (L := winsOf S i) (fun w hw => (T.ws w hw).2.2.1) (Int.le_refl 0), Int.add_mul]
    omega
theorem no_cyc (hb : ¬ thereB P F S C i = true) : cycS P F S C i n = (-1, 0) := by unfold cycS; rw [if_neg hb]
theorem no_gr (hb : ¬ thereB P F S C i = true) : grS P F S C i part t = 0 := by unfold grS; rw [if_neg hb]
theorem no_fr (hb : ¬ thereB P F S C i = true) : frS P F S C i part n = 0 := by unfold frS; rw [if_neg hb]
theorem yes_cyc (hb : thereB P F S C i = true) : cycS P F S C i n = cyc n (winsOf S i) := by unfold cycS; rw [if_pos hb]
theorem yes_fr (hb : thereB P F S C i = true) : frS P F S C i part n = sumI part n (winsOf S i) := by unfold frS; rw [if_pos hb]
/-- A cycle more. -/
theorem gr_step (ht : 0 ≤ t) : grS P F S C i part (t + 1) = grS P F S C i part t + ownB part (cycS P F S C i (cyN F t)) := by
  by_cases hb : thereB P F S C i = true
  · have T := There.of hb
    have hF := T.F1
    obtain ⟨q, n, e, n0, n1, q0, e1, e2⟩ := cyN_ex (F := F) (t := t) (by omega) ht
    rw [e1, yes_cyc hb]
    have g1 := T.gr (part := part) hb q0 n0 (by omega)
    have g2 := T.gr (part := part) (n := n + 1) hb q0 (by omega) (by omega)
    have hs := sumI_step (part := part) n0 T.sc0
    rw [e] at g1
    rw [show n + 1 + F * q = t + 1 by omega] at g2
    rw [g1, g2, hs]; omega
  · rw [no_gr hb, no_gr hb, no_cyc hb]; simp [ownB]
theorem gr_zero : grS P F S C i part 0 = 0 := by
  by_cases hb : thereB P F S C i = true
  · have T := There.of hb
    have hF := T.F1
    have := T.gr (part := part) (n := 0) (q := 0) hb (by omega) (by omega) (by omega)
    simp only [Int.mul_zero, Int.add_zero, Int.zero_mul, Int.zero_add] at this
    rw [this, sumI_zero (L := winsOf S i) (fun w hw => (T.ws w hw).2.2.1) (Int.le_refl 0)]
  · rw [no_gr hb]
theorem gr_frame (hF : 1 ≤ F) (ht : 0 ≤ t) : cyN F (t + F) = cyN F t ∧ grS P F S C i part (t + F) = grS P F S C i part t + frS P F S C i part F := by
  obtain ⟨q, n, e, n0, n1, q0, e1, e2⟩ := cyN_ex (F := F) (t := t) (by omega) ht
  have e3 : n + F * (q + 1) = t + F := by rw [Int.mul_add]; omega
  obtain ⟨f1, f2⟩ := cyN_of (F := F) (t := t + F) (q := q + 1) (n := n) (by omega) e3 n0 n1 (by omega)
  refine ⟨by rw [f1, e1], ?_⟩
  by_cases hb : thereB P F S C i = true
  · have T := There.of hb
    have g1 := T.gr (part := part) hb q0 n0 (by omega)
    have g2 := T.gr (part := part) (n := n) (q := q + 1) hb (by omega) (by omega) (by omega)
    rw [e] at g1
    rw [e3] at g2
    rw [g1, g2, yes_fr hb, Int.add_mul]; omega
  · rw [no_gr hb, no_gr hb, no_fr hb]; rfl
theorem gr_bound (ht : 0 ≤ t ∧ t ≤ 18446744073709551615) : 0 ≤ grS P F S C i part t ∧ grS P F S C i part t ≤ t := by
  by_cases hb : thereB P F S C i = true
  · have T := There.of hb
    obtain ⟨w1, w2, w3⟩ := grS_ok (part := part) T ht
    have q1 := div_ok ⟨T.F1, T.F2⟩ ht
    have := Int.mul_nonneg q1.1 w1.1
    unfold grS
    rw [if_pos hb]
    omega
  · rw [no_gr hb]; omega
theorem fr_bound (h0 : 0 ≤ n) : 0 ≤ frS P F S C i part n ∧ frS P F S C i part n ≤ n := by
  by_cases hb : thereB P F S C i = true
  · have T := There.of hb
    rw [yes_fr hb]
    have := sumI_le (part := part) T.sc0 (Int.le_refl 0) h0
    have := sumI_nn (part := part) (n := n) (L := winsOf S i) (fun w hw => (T.ws w hw).2.2.2.1)
    omega
  · rw [no_fr hb]; omega
end
/-- What a window grants. -/
theorem ownI_far {w : Wn} {a b : Int} (hw : 3 ≤ w.l) (h : (b ≤ w.f) ∨ (w.f + w.l ≤ a)) (hab : a ≤ b) : ownI w b = ownI w a := by
  unfold ownI
  rcases h with h | h
  · rw [if_pos (by omega), if_pos (by omega)]
  · rw [if_neg (by omega), if_neg (by omega), if_neg (by omega), if_neg (by omega)]
theorem sumI_none {part a b : Int} : ∀ {L : List Wn}, (∀ w ∈ L, 3 ≤ w.l ∧ ((b ≤ w.f) ∨ (w.f + w.l ≤ a))) → a ≤ b → sumI part b L = sumI part a L
  | [], _, _ => rfl
  | w :: l, h, hab => by
    have := h w (by simp)
    rw [sumI, sumI, ownI_far this.1 this.2 hab, sumI_none (fun x hx => h x (List.mem_cons_of_mem _ hx)) hab]
theorem sumI_win {np F part : Int} : ∀ {L : List Wn} {e : Int}, scanW np F e L = 0 → ∀ w ∈ L, sumI part (w.f + w.l) L = sumI part w.f L + (if w.p = part then w.l - 2 else 0)
  | [], e, _, w, hw => by cases hw
  | x :: l, e, h, w, hw => by
    have hall := scanW_ok h
    rw [scanW] at h
    split at h
    · have hx := hall x (by simp)
      rcases List.mem_cons.1 hw with rfl | hw
      · have h1 : sumI part (w.f + w.l) l = sumI part w.f l := sumI_none (fun y hy => by have := scanW_ok h y hy; omega) (by omega)
        have h2 : ownI w (w.f + w.l) = w.l - 2 := by unfold ownI; rw [if_neg (by omega), if_neg (by omega)]
        have h3 : ownI w w.f = 0 := by unfold ownI; rw [if_pos (by omega)]
        rw [sumI, sumI, h1, h2, h3]
        split <;> omega
      · have hw' := scanW_ok h w hw
        have h1 := sumI_win (part := part) h w hw
        have h2 : ownI x (w.f + w.l) = ownI x w.f := ownI_far hx.2.2.2.2.1 (.inr (by omega)) (by omega)
        rw [sumI, sumI, h1, h2]; omega
    · rename_i h0; exact absurd h h0
theorem cyc_in {np F n : Int} : ∀ {L : List Wn} {e : Int}, scanW np F e L = 0 → ∀ w ∈ L, w.f ≤ n → n < w.f + w.l → cyc n L = (w.p, if n < w.f + 2 then 1 else 2)
  | [], e, _, w, hw, _, _ => by cases hw
  | x :: l, e, h, w, hw, h1, h2 => by
    have hall := scanW_ok h
    rw [scanW] at h
    split at h
    · rcases List.mem_cons.1 hw with rfl | hw
      · rw [cyc, if_pos ⟨h1, h2⟩]
      · have hw' := scanW_ok h w hw
        rw [cyc, if_neg (by omega)]
        exact cyc_in h w hw h1 h2
    · rename_i h0; exact absurd h h0
theorem cyc_kind {np F n : Int} : ∀ {L : List Wn} {e : Int}, scanW np F e L = 0 → cyc n L = (-1, 0) ∨ (0 ≤ (cyc n L).1 ∧ (cyc n L).1 < np ∧ ((cyc n L).2 = 1 ∨ (cyc n L).2 = 2))
  | [], e, _ => .inl rfl
  | x :: l, e, h => by
    have hall := scanW_ok h
    have hx := hall x (by simp)
    rw [scanW] at h
    split at h
    · rw [cyc]
      split
      · refine .inr ⟨by dsimp only; omega, by dsimp only; omega, ?_⟩
        dsimp only
        split
        · exact .inl rfl
        · exact .inr rfl
      · exact cyc_kind h
    · rename_i h0; exact absurd h h0
theorem cyc_kindS {P : List Pa} {F : Int} {S : List RW} {C : List Ch} {i n : Int} : cycS P F S C i n = (-1, 0) ∨ (0 ≤ (cycS P F S C i n).1 ∧ (cycS P F S C i n).1 < P.length ∧ ((cycS P F S C i n).2 = 1 ∨ (cycS P F S C i n).2 = 2)) := by
  by_cases hb : thereB P F S C i = true
  · rw [yes_cyc hb]; exact cyc_kind (There.of hb).sc0
  · exact .inl (no_cyc hb)
/-- What is counted of all the first k. -/
def sumK (f : Int → Int) : Nat → Int
  | 0 => 0
  | k + 1 => sumK f k + f k
theorem sumK_add {f g : Int → Int} : ∀ k, sumK (fun x => f x + g x) k = sumK f k + sumK g k
  | 0 => rfl
  | k + 1 => by rw [sumK, sumK_add k, sumK, sumK]; omega
theorem sumK_eq {f g : Int → Int} : ∀ {k : Nat}, (∀ x : Nat, x < k → f x = g x) → sumK f k = sumK g k
  | 0, _ => rfl
  | k + 1, h => by rw [sumK, sumK, sumK_eq (fun x hx => h x (by omega)), h k (by omega)]
theorem sumK_zero {f : Int → Int} {k : Nat} (h : ∀ x : Nat, x < k → f x = 0) : sumK f k = 0 := by
  induction k with
  | zero => rfl
  | succ k ih => rw [sumK, ih (fun x hx => h x (by omega)), h k (by omega)]; rfl
theorem sumK_one {x : Int × Int} : ∀ {k : Nat}, sumK (fun p => ownB p x) k = if x.2 = 2 ∧ 0 ≤ x.1 ∧ x.1 < k then 1 else 0
  | 0 => by rw [if_neg (by omega)]; rfl
  | k + 1 => by
    rw [sumK, sumK_one, ownB]
    by_cases h2 : x.2 = 2
    · by_cases hk : x.1 = k
      · rw [if_neg (by omega), if_pos ⟨hk, h2⟩, if_pos (by omega)]; rfl
      · rw [if_neg (show ¬ (x.1 = (k : Int) ∧ x.2 = 2) by omega)]
        by_cases hl : 0 ≤ x.1 ∧ x.1 < k
        · rw [if_pos ⟨h2, hl⟩, if_pos (by omega)]; rfl
        · rw [if_neg (by omega), if_neg (by omega)]; rfl
    · rw [if_neg (by omega), if_neg (by omega), if_neg (by omega)]; rfl
/-- Switches and gaps. -/
def othK (c : Int → Int × Int) : Nat → Int
  | 0 => 0
  | k + 1 => othK c k + (if (c k).2 ≠ 2 then 1 else 0)
theorem oth_le (c : Int → Int × Int) : ∀ k : Nat, 0 ≤ othK c k ∧ othK c k ≤ k
  | 0 => ⟨Int.le_refl 0, Int.le_refl 0⟩
  | k + 1 => by have := oth_le c k; rw [othK]; split <;> omega
theorem fr_step {P : List Pa} {F : Int} {S : List RW} {C : List Ch} {i part : Int} (n : Nat) : frS P F S C i part ((n : Int) + 1) = frS P F S C i part n + ownB part (cycS P F S C i n) := by
  by_cases hb : thereB P F S C i = true
  · rw [yes_fr hb, yes_fr hb, yes_cyc hb]
    exact sumI_step (by omega) (There.of hb).sc0
  · rw [no_fr hb, no_fr hb, no_cyc hb]; simp [ownB]
theorem fr_zero {P : List Pa} {F : Int} {S : List RW} {C : List Ch} {i part : Int} : frS P F S C i part ((0 : Nat) : Int) = 0 := by
  by_cases hb : thereB P F S C i = true
  · rw [yes_fr hb]; exact sumI_zero (fun w hw => ((There.of hb).ws w hw).2.2.1) (by simp)
  · rw [no_fr hb]
theorem fr_all {P : List Pa} {F : Int} {S : List RW} {C : List Ch} {i : Int} : ∀ n : Nat, sumK (fun p => frS P F S C i p n) P.length + othK (cycS P F S C i) n = n
  | 0 => by rw [sumK_zero (fun x _ => fr_zero)]; rfl
  | n + 1 => by
    have h1 := fr_all (P := P) (F := F) (S := S) (C := C) (i := i) n
    have h2 : sumK (fun p => frS P F S C i p ((n + 1 : Nat) : Int)) P.length = sumK (fun p => frS P F S C i p n + ownB p (cycS P F S C i n)) P.length := sumK_eq (fun x _ => by simpa using fr_step (part := x) n)
    rw [h2, sumK_add, sumK_one, othK]
    rcases cyc_kindS (P := P) (F := F) (S := S) (C := C) (i := i) (n := n) with h | ⟨a, b, c⟩
    · rw [h]; simp only []; rw [if_neg (by simp), if_pos (by simp)]; omega
    · rcases c with c | c
      · rw [if_neg (by omega), if_pos (by omega)]; omega
      · rw [if_pos ⟨c, a, b⟩, if_neg (by omega)]; omega
theorem fr_mono {P : List Pa} {F : Int} {S : List RW} {C : List Ch} {i part n : Int} (h : n ≤ F) (h0 : 0 ≤ n) : frS P F S C i part n ≤ frS P F S C i part F := by
  obtain ⟨k, hk⟩ := Int.eq_ofNat_of_zero_le (show 0 ≤ F - n by omega)
  obtain ⟨m, rfl⟩ := Int.eq_ofNat_of_zero_le h0
  have : ∀ k : Nat, frS P F S C i part m ≤ frS P F S C i part ((m : Int) + k) := fun k => by
    induction k with
    | zero => simp
    | succ k ih =>
      have := fr_step (P := P) (F := F) (S := S) (C := C) (i := i) (part := part) (m + k)
      have hb : 0 ≤ ownB part (cycS P F S C i ((m + k : Nat) : Int)) := by unfold ownB; split <;> omega
      rw [show (m : Int) + ((k + 1 : Nat) : Int) = ((m + k : Nat) : Int) + 1 by omega, this]
      rw [show (m : Int) + (k : Int) = ((m + k : Nat) : Int) by omega] at ih
      omega
  have := this k
  rwa [show (m : Int) + k = F by omega] at this
end Go.Proofs.Ytpnfjkkofdlndaa
