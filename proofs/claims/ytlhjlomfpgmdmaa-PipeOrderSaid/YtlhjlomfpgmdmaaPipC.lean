/- PipeStays, walked. -/
import Derived.Test.YtlhjlomfpgmdmaaPipB
namespace Go.Proofs.Ytlhjlomfpgmdmaa
open Go.RowKit
set_option linter.unusedVariables false

theorem wD_same {d s : ByteArray} {r : Int} (h : wE d s r ≠ 0) : wD d s r = d ∧ wK d s r = 0 := by
  have hc : s.size = 0 ∨ r ≤ 0 ∨ 8 ≤ d.size := by
    refine Decidable.byContradiction fun hn => h ?_
    unfold wE
    rw [if_neg (by omega), if_neg (by omega), if_neg (by omega)]
  exact ⟨if_pos hc, if_pos hc⟩
theorem rD_same {d : ByteArray} {x n : Int} (h : rE d x n ≠ 0) : rD d n = d ∧ rS d n = ⟨#[]⟩ := by
  by_cases h0 : n ≤ 0
  · exact ⟨if_pos h0, if_pos h0⟩
  · have hc : d.size = 0 := by
      refine Decidable.byContradiction fun hn => h ?_
      unfold rE
      rw [if_neg (by omega), if_neg (by omega), if_neg (by omega)]
    have e := ba_nil hc
    subst e
    unfold rD rS
    rw [if_neg h0, if_neg h0, ba_cut, ba_cut]
    exact ⟨rfl, rfl⟩
theorem wD_size (d s : ByteArray) (r : Int) (h : d.size ≤ 8) : (wD d s r).size ≤ 8 := by
  unfold wD
  split
  · exact h
  · rw [ByteArray.size_append, ByteArray.size_extract]; omega
theorem wD_max (d s : ByteArray) (r : Int) (h : d.size ≤ 9223372036854775807) : (wD d s r).size ≤ 9223372036854775807 := by
  unfold wD
  split
  · exact h
  · rw [ByteArray.size_append, ByteArray.size_extract]; omega
theorem rD_size (d : ByteArray) (n : Int) : (rD d n).size ≤ d.size := by
  unfold rD
  split
  · exact Nat.le_refl _
  · rw [ByteArray.size_extract]; omega

set_option maxHeartbeats 2000000 in
theorem stays_core (d s : ByteArray) (r x n : Int) (D : ByteArray) (K : Nat) (E : Int) (D' S : ByteArray) (F : Int) (R : Bool) (w : World) (hd : d.size ≤ 9223372036854775807) (hD : D.size ≤ 9223372036854775807) (hD' : D'.size ≤ 9223372036854775807)
    (H1 : Hid (∀ W, Calls Try.prog 12 #[pipV d r x, .string s] W fun e w' => e = .returned (.tuple #[pipV D r x, .int .i64 K, .int .i64 E]) ∧ Below W.heap.size W w'))
    (H2 : Hid (∀ W, Calls Try.prog 14 #[pipV d r x, .int .i64 n] W fun e w' => e = .returned (.tuple #[pipV D' r x, .string S, .int .i64 F]) ∧ Below W.heap.size W w'))
    (hE : (E = 0) ∨ ((E != 0) = true ∧ D = d ∧ K = 0)) (hF : (F = 0) ∨ ((F != 0) = true ∧ D' = d ∧ S = ⟨#[]⟩))
    (hR : rightB d r x = R) (hR1 : R = true → rightB D r x = true) (hR2 : R = true → rightB D' r x = true) :
    Calls Try.prog 6 #[pipV d r x, .string s, .int .i64 n] w fun e w' => e = .returned (.bool true) ∧ Below w.heap.size w w' := by
  have hne := @neq_pip
  have hself := @pipEq_self
  have HR := Lib.hid hR
  have HR1 := Lib.hid hR1
  have HR2 := Lib.hid hR2
  clear hR hR1 hR2
  have G0 : Hid (∀ W, Calls Try.prog 16 #[pipV d r x] W fun e w' => e = .returned (.bool R) ∧ Below W.heap.size W w') := fun W => HR.out ▸ right_any d r x W hd
  have G1 : Hid (R = true → ∀ W, Calls Try.prog 16 #[pipV D r x] W fun e w' => e = .returned (.bool true) ∧ Below W.heap.size W w') := fun h W => HR1.out h ▸ right_any D r x W hD
  have G2 : Hid (R = true → ∀ W, Calls Try.prog 16 #[pipV D' r x] W fun e w' => e = .returned (.bool true) ∧ Below W.heap.size W w') := fun h W => HR2.out h ▸ right_any D' r x W hD'
  clear HR HR1 HR2 hD hD'
  cases R with
  | false =>
    rcases hE with rfl | ⟨hE, rfl, rfl⟩
    all_goals rcases hF with rfl | ⟨hF, rfl, rfl⟩
    all_goals
      go_enter Try.func6, Try.ntmps6
      go_wp2_with fail
      refine (shown_any _).mono ?_
      rintro e w1 ⟨rfl, hb1⟩
      obtain ⟨hc1, hf1⟩ := bcell hb1
      have s1 := hb1.size
      try simp at s1
      try have hd1 := fun b o (h : b < w.heap.size) => hc1 b o (by first | omega | (simp; omega) | simp)
      try have he1 := fun b o (h : b < w.heap.size) => hf1 b o (by first | omega | (simp; omega) | simp)
      try have z1_0 : w.heap.size < w1.heap.size := by omega
      try have z1_1 : w.heap.size + 1 < w1.heap.size := by omega
      try have z1_2 : w.heap.size + 1 + 1 < w1.heap.size := by omega
      try have z1_3 : w.heap.size + 1 + 1 + 1 < w1.heap.size := by omega
      go_wp2_with fail
      refine (H1.out _).mono ?_
      rintro e w2 ⟨rfl, hb2⟩
      obtain ⟨hc2, hf2⟩ := bcell hb2
      have s2 := hb2.size
      try simp at s2
      try have hd2 := fun b o (h : b < w1.heap.size) => hc2 b o (by first | omega | (simp; omega) | simp)
      try have he2 := fun b o (h : b < w1.heap.size) => hf2 b o (by first | omega | (simp; omega) | simp)
      try have z2_0 : w.heap.size < w2.heap.size := by omega
      try have z2_1 : w.heap.size + 1 < w2.heap.size := by omega
      try have z2_2 : w.heap.size + 1 + 1 < w2.heap.size := by omega
      try have z2_3 : w.heap.size + 1 + 1 + 1 < w2.heap.size := by omega
      try have z2_4 : w1.heap.size < w2.heap.size := by omega
      try have z2_5 : w1.heap.size + 1 < w2.heap.size := by omega
      go_wp2_with fail
      refine (H2.out _).mono ?_
      rintro e w3 ⟨rfl, hb3⟩
      obtain ⟨hc3, hf3⟩ := bcell hb3
      have s3 := hb3.size
      try simp at s3
      try have hd3 := fun b o (h : b < w2.heap.size) => hc3 b o (by first | omega | (simp; omega) | simp)
      try have he3 := fun b o (h : b < w2.heap.size) => hf3 b o (by first | omega | (simp; omega) | simp)
      try have z3_0 : w.heap.size < w3.heap.size := by omega
      try have z3_1 : w.heap.size + 1 < w3.heap.size := by omega
      try have z3_2 : w.heap.size + 1 + 1 < w3.heap.size := by omega
      try have z3_3 : w.heap.size + 1 + 1 + 1 < w3.heap.size := by omega
      try have z3_4 : w1.heap.size < w3.heap.size := by omega
      try have z3_5 : w2.heap.size < w3.heap.size := by omega
      try have z3_6 : w1.heap.size + 1 < w3.heap.size := by omega
      try have z3_7 : w2.heap.size + 1 < w3.heap.size := by omega
      go_wp2_with fail
      refine (G0.out _).mono ?_
      rintro e w4 ⟨rfl, hb4⟩
      obtain ⟨hc4, hf4⟩ := bcell hb4
      have s4 := hb4.size
      try simp at s4
      try have hd4 := fun b o (h : b < w3.heap.size) => hc4 b o (by first | omega | (simp; omega) | simp)
      try have he4 := fun b o (h : b < w3.heap.size) => hf4 b o (by first | omega | (simp; omega) | simp)
      try have z4_0 : w.heap.size < w4.heap.size := by omega
      try have z4_1 : w.heap.size + 1 < w4.heap.size := by omega
      try have z4_2 : w.heap.size + 1 + 1 < w4.heap.size := by omega
      try have z4_3 : w.heap.size + 1 + 1 + 1 < w4.heap.size := by omega
      try have z4_4 : w1.heap.size < w4.heap.size := by omega
      try have z4_5 : w2.heap.size < w4.heap.size := by omega
      try have z4_6 : w3.heap.size < w4.heap.size := by omega
      try have z4_7 : w1.heap.size + 1 < w4.heap.size := by omega
      try have z4_8 : w2.heap.size + 1 < w4.heap.size := by omega
      try have z4_9 : w3.heap.size + 1 < w4.heap.size := by omega
      go_wp2
      go_ret
      refine ⟨rfl, ?_⟩
      repeat (first
        | exact Below.refl _ _
        | exact hb1
        | exact hb2
        | exact hb3
        | exact hb4
        | refine Below.drew ?_
        | refine below_drewN ?_ _
        | refine below_drewN ?_ _
        | refine Below.alloc ?_ (by first | omega | (simp; omega) | simp) _
        | refine Below.setCell ?_ (by first | omega | (simp; omega) | simp) _
        | refine Below.trans ?_ (hb4.mono (by first | omega | (simp; omega) | simp))
        | refine Below.trans ?_ (hb3.mono (by first | omega | (simp; omega) | simp))
        | refine Below.trans ?_ (hb2.mono (by first | omega | (simp; omega) | simp))
        | refine Below.trans ?_ (hb1.mono (by first | omega | (simp; omega) | simp)))
  | true =>
    rcases hE with rfl | ⟨hE, rfl, rfl⟩
    all_goals rcases hF with rfl | ⟨hF, rfl, rfl⟩
    all_goals
      go_enter Try.func6, Try.ntmps6
      go_wp2_with fail
      refine (shown_any _).mono ?_
      rintro e w1 ⟨rfl, hb1⟩
      obtain ⟨hc1, hf1⟩ := bcell hb1
      have s1 := hb1.size
      try simp at s1
      try have hd1 := fun b o (h : b < w.heap.size) => hc1 b o (by first | omega | (simp; omega) | simp)
      try have he1 := fun b o (h : b < w.heap.size) => hf1 b o (by first | omega | (simp; omega) | simp)
      try have z1_0 : w.heap.size < w1.heap.size := by omega
      try have z1_1 : w.heap.size + 1 < w1.heap.size := by omega
      try have z1_2 : w.heap.size + 1 + 1 < w1.heap.size := by omega
      try have z1_3 : w.heap.size + 1 + 1 + 1 < w1.heap.size := by omega
      go_wp2_with fail
      refine (H1.out _).mono ?_
      rintro e w2 ⟨rfl, hb2⟩
      obtain ⟨hc2, hf2⟩ := bcell hb2
      have s2 := hb2.size
      try simp at s2
      try have hd2 := fun b o (h : b < w1.heap.size) => hc2 b o (by first | omega | (simp; omega) | simp)
      try have he2 := fun b o (h : b < w1.heap.size) => hf2 b o (by first | omega | (simp; omega) | simp)
      try have z2_0 : w.heap.size < w2.heap.size := by omega
      try have z2_1 : w.heap.size + 1 < w2.heap.size := by omega
      try have z2_2 : w.heap.size + 1 + 1 < w2.heap.size := by omega
      try have z2_3 : w.heap.size + 1 + 1 + 1 < w2.heap.size := by omega
      try have z2_4 : w1.heap.size < w2.heap.size := by omega
      try have z2_5 : w1.heap.size + 1 < w2.heap.size := by omega
      go_wp2_with fail
      refine (H2.out _).mono ?_
      rintro e w3 ⟨rfl, hb3⟩
      obtain ⟨hc3, hf3⟩ := bcell hb3
      have s3 := hb3.size
      try simp at s3
      try have hd3 := fun b o (h : b < w2.heap.size) => hc3 b o (by first | omega | (simp; omega) | simp)
      try have he3 := fun b o (h : b < w2.heap.size) => hf3 b o (by first | omega | (simp; omega) | simp)
      try have z3_0 : w.heap.size < w3.heap.size := by omega
      try have z3_1 : w.heap.size + 1 < w3.heap.size := by omega
      try have z3_2 : w.heap.size + 1 + 1 < w3.heap.size := by omega
      try have z3_3 : w.heap.size + 1 + 1 + 1 < w3.heap.size := by omega
      try have z3_4 : w1.heap.size < w3.heap.size := by omega
      try have z3_5 : w2.heap.size < w3.heap.size := by omega
      try have z3_6 : w1.heap.size + 1 < w3.heap.size := by omega
      try have z3_7 : w2.heap.size + 1 < w3.heap.size := by omega
      go_wp2_with fail
      refine (G0.out _).mono ?_
      rintro e w4 ⟨rfl, hb4⟩
      obtain ⟨hc4, hf4⟩ := bcell hb4
      have s4 := hb4.size
      try simp at s4
      try have hd4 := fun b o (h : b < w3.heap.size) => hc4 b o (by first | omega | (simp; omega) | simp)
      try have he4 := fun b o (h : b < w3.heap.size) => hf4 b o (by first | omega | (simp; omega) | simp)
      try have z4_0 : w.heap.size < w4.heap.size := by omega
      try have z4_1 : w.heap.size + 1 < w4.heap.size := by omega
      try have z4_2 : w.heap.size + 1 + 1 < w4.heap.size := by omega
      try have z4_3 : w.heap.size + 1 + 1 + 1 < w4.heap.size := by omega
      try have z4_4 : w1.heap.size < w4.heap.size := by omega
      try have z4_5 : w2.heap.size < w4.heap.size := by omega
      try have z4_6 : w3.heap.size < w4.heap.size := by omega
      try have z4_7 : w1.heap.size + 1 < w4.heap.size := by omega
      try have z4_8 : w2.heap.size + 1 < w4.heap.size := by omega
      try have z4_9 : w3.heap.size + 1 < w4.heap.size := by omega
      go_wp2_with fail
      refine (G1.out (by simp) _).mono ?_
      rintro e w5 ⟨rfl, hb5⟩
      obtain ⟨hc5, hf5⟩ := bcell hb5
      have s5 := hb5.size
      try simp at s5
      try have hd5 := fun b o (h : b < w4.heap.size) => hc5 b o (by first | omega | (simp; omega) | simp)
      try have he5 := fun b o (h : b < w4.heap.size) => hf5 b o (by first | omega | (simp; omega) | simp)
      try have z5_0 : w.heap.size < w5.heap.size := by omega
      try have z5_1 : w.heap.size + 1 < w5.heap.size := by omega
      try have z5_2 : w.heap.size + 1 + 1 < w5.heap.size := by omega
      try have z5_3 : w.heap.size + 1 + 1 + 1 < w5.heap.size := by omega
      try have z5_4 : w1.heap.size < w5.heap.size := by omega
      try have z5_5 : w2.heap.size < w5.heap.size := by omega
      try have z5_6 : w3.heap.size < w5.heap.size := by omega
      try have z5_7 : w4.heap.size < w5.heap.size := by omega
      try have z5_8 : w1.heap.size + 1 < w5.heap.size := by omega
      try have z5_9 : w2.heap.size + 1 < w5.heap.size := by omega
      try have z5_10 : w3.heap.size + 1 < w5.heap.size := by omega
      try have z5_11 : w4.heap.size + 1 < w5.heap.size := by omega
      go_wp2_with fail
      refine (G2.out (by simp) _).mono ?_
      rintro e w6 ⟨rfl, hb6⟩
      obtain ⟨hc6, hf6⟩ := bcell hb6
      have s6 := hb6.size
      try simp at s6
      try have hd6 := fun b o (h : b < w5.heap.size) => hc6 b o (by first | omega | (simp; omega) | simp)
      try have he6 := fun b o (h : b < w5.heap.size) => hf6 b o (by first | omega | (simp; omega) | simp)
      try have z6_0 : w.heap.size < w6.heap.size := by omega
      try have z6_1 : w.heap.size + 1 < w6.heap.size := by omega
      try have z6_2 : w.heap.size + 1 + 1 < w6.heap.size := by omega
      try have z6_3 : w.heap.size + 1 + 1 + 1 < w6.heap.size := by omega
      try have z6_4 : w1.heap.size < w6.heap.size := by omega
      try have z6_5 : w2.heap.size < w6.heap.size := by omega
      try have z6_6 : w3.heap.size < w6.heap.size := by omega
      try have z6_7 : w4.heap.size < w6.heap.size := by omega
      try have z6_8 : w5.heap.size < w6.heap.size := by omega
      try have z6_9 : w1.heap.size + 1 < w6.heap.size := by omega
      try have z6_10 : w2.heap.size + 1 < w6.heap.size := by omega
      try have z6_11 : w3.heap.size + 1 < w6.heap.size := by omega
      try have z6_12 : w4.heap.size + 1 < w6.heap.size := by omega
      try have z6_13 : w5.heap.size + 1 < w6.heap.size := by omega
      go_wp2
      go_ret
      refine ⟨rfl, ?_⟩
      repeat (first
        | exact Below.refl _ _
        | exact hb1
        | exact hb2
        | exact hb3
        | exact hb4
        | exact hb5
        | exact hb6
        | refine Below.drew ?_
        | refine below_drewN ?_ _
        | refine below_drewN ?_ _
        | refine Below.alloc ?_ (by first | omega | (simp; omega) | simp) _
        | refine Below.setCell ?_ (by first | omega | (simp; omega) | simp) _
        | refine Below.trans ?_ (hb6.mono (by first | omega | (simp; omega) | simp))
        | refine Below.trans ?_ (hb5.mono (by first | omega | (simp; omega) | simp))
        | refine Below.trans ?_ (hb4.mono (by first | omega | (simp; omega) | simp))
        | refine Below.trans ?_ (hb3.mono (by first | omega | (simp; omega) | simp))
        | refine Below.trans ?_ (hb2.mono (by first | omega | (simp; omega) | simp))
        | refine Below.trans ?_ (hb1.mono (by first | omega | (simp; omega) | simp)))

theorem stays_walk (d : ByteArray) (r x : Int) (s : ByteArray) (n : Int) (w : World) (hd : d.size ≤ 9223372036854775807) :
    Calls Try.prog 6 #[pipV d r x, .string s, .int .i64 n] w fun e w' => e = .returned (.bool true) ∧ Below w.heap.size w w' := by
  refine stays_core d s r x n (wD d s r) (wK d s r) (wE d s r) (rD d n) (rS d n) (rE d x n) (rightB d r x) w hd (wD_max d s r hd) (Nat.le_trans (rD_size d n) hd)
    (fun W => write_any d s r x W) (fun W => read_any d r x n W hd) ?_ ?_ rfl ?_ ?_
  · by_cases h : wE d s r = 0
    · exact .inl h
    · exact .inr ⟨by simpa using h, (wD_same h).1, (wD_same h).2⟩
  · by_cases h : rE d x n = 0
    · exact .inl h
    · exact .inr ⟨by simpa using h, (rD_same h).1, (rD_same h).2⟩
  · intro h
    simp only [rightB, decide_eq_true_eq] at h ⊢
    exact ⟨wD_size d s r h.1, h.2⟩
  · intro h
    simp only [rightB, decide_eq_true_eq] at h ⊢
    exact ⟨Nat.le_trans (rD_size d n) h.1, h.2⟩
end Go.Proofs.Ytlhjlomfpgmdmaa
