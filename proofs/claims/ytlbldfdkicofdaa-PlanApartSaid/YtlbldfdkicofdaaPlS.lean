/- Windows: what the document counts. -/
import Derived.Test.YtlbldfdkicofdaaEl
namespace Go.Proofs.Ytlbldfdkicofdaa
open Go.Sx Go.RowKit
set_option linter.unusedVariables false
set_option linter.unusedSimpArgs false
theorem scanW_ok {np F : Int} : ∀ {L : List Wn} {e : Int}, scanW np F e L = 0 → ∀ w ∈ L, 0 ≤ w.p ∧ w.p < np ∧ e ≤ w.f ∧ 0 ≤ w.f ∧ 3 ≤ w.l ∧ w.f + w.l ≤ F
  | [], e, _, w, hw => by cases hw
  | x :: l, e, h, w, hw => by
    rw [scanW] at h
    split at h
    · rename_i h0
      have hz := winE_zero h0
      rcases List.mem_cons.1 hw with rfl | hw
      · omega
      · have := scanW_ok h w hw
        omega
    · rename_i h0; exact absurd h h0
theorem scanS_ok {np F : Int} : ∀ {S : List RW}, scanS np F S = 0 → ∀ r ∈ S, scanW np F 0 r.L = 0
  | [], _, r, hr => by cases hr
  | x :: l, h, r, hr => by
    rw [scanS] at h
    split at h
    · rename_i h0
      rcases List.mem_cons.1 hr with rfl | hr
      · exact h0
      · exact scanS_ok h r hr
    · rename_i h0; exact absurd h h0
theorem chk_ok {P : List Pa} {F : Int} {S : List RW} {C : List Ch} (h : chk P F S C = 0) : 1 ≤ F ∧ F ≤ 4096 ∧ P.length ≤ 4 ∧ S.length ≤ 3 ∧ (∀ r ∈ S, r.L.length ≤ 8) ∧ scanS P.length F S = 0 := by
  unfold chk at h
  split at h
  · omega
  · rename_i h1
    obtain ⟨a, b, _, d⟩ := too_le (Bool.eq_false_iff.2 h1)
    split at h
    · omega
    · split at h
      · omega
      · split at h
        · omega
        · split at h
          · rename_i h5
            exact ⟨by omega, by omega, a, b, d, h5⟩
          · rename_i h5; exact absurd h h5
/-- Whose a cycle of the frame is, and how. -/
def cyc (n : Int) : List Wn → Int × Int
  | [] => (-1, 0)
  | w :: l => if w.f ≤ n ∧ n < w.f + w.l then (w.p, if n < w.f + 2 then 1 else 2) else cyc n l
/-- Is it one's own? -/
def ownB (part : Int) (x : Int × Int) : Int := if x.1 = part ∧ x.2 = 2 then 1 else 0
def starts (n : Int) (L : List Wn) : Bool := L.any (fun w => n == w.f)
def ownI (w : Wn) (n : Int) : Int := if n ≤ w.f + 2 then 0 else if n < w.f + w.l then n - w.f - 2 else w.l - 2
def sumI (part n : Int) : List Wn → Int
  | [] => 0
  | w :: l => (if w.p = part then ownI w n else 0) + sumI part n l
theorem sumI_far {part n : Int} : ∀ {L : List Wn}, (∀ w ∈ L, n < w.f) → sumI part (n + 1) L = 0 ∧ sumI part n L = 0
  | [], _ => ⟨rfl, rfl⟩
  | w :: l, h => by
    obtain ⟨h1, h2⟩ := sumI_far (part := part) (L := l) (fun x hx => h x (List.mem_cons_of_mem _ hx))
    have := h w (by simp)
    simp only [sumI, h1, h2, ownI]
    rw [if_pos (show n + 1 ≤ w.f + 2 by omega), if_pos (show n ≤ w.f + 2 by omega)]
    simp
theorem sumI_step {np F part : Int} {n : Int} (hn : 0 ≤ n) : ∀ {L : List Wn} {e : Int}, scanW np F e L = 0 → sumI part (n + 1) L = sumI part n L + ownB part (cyc n L)
  | [], e, _ => by simp [sumI, cyc, ownB]
  | w :: l, e, h => by
    have hall := scanW_ok h
    rw [scanW] at h
    split at h
    · have hw := hall w (by simp)
      simp only [sumI, cyc]
      by_cases hin : w.f ≤ n ∧ n < w.f + w.l
      · rw [if_pos hin]
        have hfar := sumI_far (part := part) (n := n) (L := l) (fun x hx => by have := scanW_ok h x hx; omega)
        rw [hfar.1, hfar.2]
        simp only [ownB]
        by_cases hp : w.p = part
        · simp only [hp, if_true, true_and, ownI]
          by_cases h2 : n < w.f + 2
          · rw [if_pos h2, if_pos (by omega), if_pos (by omega)]; simp
          · rw [if_neg h2, if_neg (by omega)]
            by_cases h3 : n ≤ w.f + 2
            · rw [if_pos h3]
              by_cases h4 : n + 1 < w.f + w.l
              · rw [if_pos h4]; simp; omega
              · rw [if_neg h4]; simp; omega
            · rw [if_neg h3, if_pos (show n < w.f + w.l by omega)]
              by_cases h4 : n + 1 < w.f + w.l
              · rw [if_pos h4]; simp; omega
              · rw [if_neg h4]; simp; omega
        · simp [hp]
      · rw [if_neg hin, sumI_step hn h]
        have : ownI w (n + 1) = ownI w n := by
          unfold ownI
          by_cases h1 : n < w.f
          · rw [if_pos (by omega), if_pos (by omega)]
          · rw [if_neg (by omega), if_neg (by omega), if_neg (by omega), if_neg (by omega)]
        rw [this]; omega
    · rename_i h0; exact absurd h h0
theorem sumI_zero {part : Int} : ∀ {L : List Wn}, (∀ w ∈ L, 0 ≤ w.f) → ∀ {n : Int}, n ≤ 0 → sumI part n L = 0
  | [], _, n, _ => rfl
  | w :: l, h, n, hn => by
    have := h w (by simp)
    have h2 : ownI w n = 0 := by unfold ownI; rw [if_pos (by omega)]
    rw [sumI, sumI_zero (fun x hx => h x (List.mem_cons_of_mem _ hx)) hn, h2]
    simp
/-- Behind the frame's end nothing more is granted. -/
theorem sumI_end {part F : Int} : ∀ {L : List Wn}, (∀ w ∈ L, 3 ≤ w.l ∧ w.f + w.l ≤ F) → ∀ {n : Int}, F ≤ n → sumI part n L = sumI part F L
  | [], _, n, _ => rfl
  | w :: l, h, n, hn => by
    have := h w (by simp)
    rw [sumI, sumI, sumI_end (fun x hx => h x (List.mem_cons_of_mem _ hx)) hn]
    have : ownI w n = ownI w F := by
      unfold ownI
      rw [if_neg (by omega), if_neg (by omega), if_neg (by omega), if_neg (by omega)]
    rw [this]
end Go.Proofs.Ytlbldfdkicofdaa
