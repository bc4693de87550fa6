/- PipeActs, walked. -/
import Derived.Test.YtlhjlomfpgmdmaaPipC
import Derived.Test.YtlhjlomfpgmdmaaPipD
namespace Go.Proofs.Ytlhjlomfpgmdmaa
open Go.RowKit
set_option linter.unusedVariables false

set_option maxHeartbeats 2000000 in
theorem acts_core (d s : ByteArray) (r x n : Int) (D : ByteArray) (K : Nat) (E : Int) (D' S : ByteArray) (F : Int) (w : World) (hd : d.size ≤ 9223372036854775807) (hE : -9223372036854775808 ≤ E ∧ E ≤ 9223372036854775807) (hF : -9223372036854775808 ≤ F ∧ F ≤ 9223372036854775807)
    (H1 : Hid (∀ W, Calls Try.prog 12 #[pipV d r x, .string s] W fun e w' => e = .returned (.tuple #[pipV D r x, .int .i64 K, .int .i64 E]) ∧ Below W.heap.size W w'))
    (H2 : Hid (∀ W, Calls Try.prog 14 #[pipV d r x, .int .i64 n] W fun e w' => e = .returned (.tuple #[pipV D' r x, .string S, .int .i64 F]) ∧ Below W.heap.size W w'))
    (H3 : Hid (∀ W, Calls Try.prog 13 #[pipV d r x, .string s] W fun e w' => e = .returned (.tuple #[pipV D r x, .int .i64 K, .int .i64 E]) ∧ Below W.heap.size W w'))
    (H4 : Hid (∀ W, Calls Try.prog 15 #[pipV d r x, .int .i64 n] W fun e w' => e = .returned (.tuple #[pipV D' r x, .string S, .int .i64 F]) ∧ Below W.heap.size W w')) :
    Calls Try.prog 3 #[pipV d r x, .string s, .int .i64 n] w fun e w' => e = .returned (.bool true) ∧ Below w.heap.size w w' := by
  have heq := @eql_pip
  have hself := @pipEq_self
  obtain ⟨hE1, hE2⟩ := hE
  obtain ⟨hF1, hF2⟩ := hF
  have hd' : (d.size : Int) ≤ 9223372036854775807 := by omega
  by_cases c1 : (d.size : Int) ≤ 8
  · by_cases c2 : 0 ≤ r
    · have tok : True := trivial
      have hR : rightB d r x = decide (0 ≤ x) := by rw [Bool.eq_iff_iff]; simp [rightB]; omega
      have HR : Hid (∀ W, Calls Try.prog 16 #[pipV d r x] W fun e w' => e = .returned (.bool (decide (0 ≤ x))) ∧ Below W.heap.size W w') := fun W => hR ▸ right_any d r x W hd
      clear hR
      go_enter Try.func3, Try.ntmps3
      go_wp2_with fail
      refine (shown_any _).mono ?_
      rintro e w1 ⟨rfl, hb1⟩
      obtain ⟨hc1, hf1⟩ := bcell hb1
      have s1 := hb1.size
      try simp at s1
      try have z1_0 : w.heap.size < w1.heap.size := by omega
      try have z1_1 : w.heap.size + 1 < w1.heap.size := by omega
      try have z1_2 : w.heap.size + 2 < w1.heap.size := by omega
      go_wp2_with fail
      refine (H1.out _).mono ?_
      rintro e w2 ⟨rfl, hb2⟩
      obtain ⟨hc2, hf2⟩ := bcell hb2
      have s2 := hb2.size
      try simp at s2
      try have z2_0 : w.heap.size < w2.heap.size := by omega
      try have z2_1 : w.heap.size + 1 < w2.heap.size := by omega
      try have z2_2 : w.heap.size + 2 < w2.heap.size := by omega
      try have z2_3 : w1.heap.size < w2.heap.size := by omega
      try have z2_4 : w1.heap.size + 1 < w2.heap.size := by omega
      go_wp2_with fail
      refine (H3.out _).mono ?_
      rintro e w3 ⟨rfl, hb3⟩
      obtain ⟨hc3, hf3⟩ := bcell hb3
      have s3 := hb3.size
      try simp at s3
      try have z3_0 : w.heap.size < w3.heap.size := by omega
      try have z3_1 : w.heap.size + 1 < w3.heap.size := by omega
      try have z3_2 : w.heap.size + 2 < w3.heap.size := by omega
      try have z3_3 : w1.heap.size < w3.heap.size := by omega
      try have z3_4 : w2.heap.size < w3.heap.size := by omega
      try have z3_5 : w1.heap.size + 1 < w3.heap.size := by omega
      try have z3_6 : w2.heap.size + 1 < w3.heap.size := by omega
      go_wp2_with fail
      refine (H2.out _).mono ?_
      rintro e w4 ⟨rfl, hb4⟩
      obtain ⟨hc4, hf4⟩ := bcell hb4
      have s4 := hb4.size
      try simp at s4
      try have z4_0 : w.heap.size < w4.heap.size := by omega
      try have z4_1 : w.heap.size + 1 < w4.heap.size := by omega
      try have z4_2 : w.heap.size + 2 < w4.heap.size := by omega
      try have z4_3 : w1.heap.size < w4.heap.size := by omega
      try have z4_4 : w2.heap.size < w4.heap.size := by omega
      try have z4_5 : w3.heap.size < w4.heap.size := by omega
      try have z4_6 : w1.heap.size + 1 < w4.heap.size := by omega
      try have z4_7 : w2.heap.size + 1 < w4.heap.size := by omega
      try have z4_8 : w3.heap.size + 1 < w4.heap.size := by omega
      go_wp2_with fail
      refine (H4.out _).mono ?_
      rintro e w5 ⟨rfl, hb5⟩
      obtain ⟨hc5, hf5⟩ := bcell hb5
      have s5 := hb5.size
      try simp at s5
      try have z5_0 : w.heap.size < w5.heap.size := by omega
      try have z5_1 : w.heap.size + 1 < w5.heap.size := by omega
      try have z5_2 : w.heap.size + 2 < w5.heap.size := by omega
      try have z5_3 : w1.heap.size < w5.heap.size := by omega
      try have z5_4 : w2.heap.size < w5.heap.size := by omega
      try have z5_5 : w3.heap.size < w5.heap.size := by omega
      try have z5_6 : w4.heap.size < w5.heap.size := by omega
      try have z5_7 : w1.heap.size + 1 < w5.heap.size := by omega
      try have z5_8 : w2.heap.size + 1 < w5.heap.size := by omega
      try have z5_9 : w3.heap.size + 1 < w5.heap.size := by omega
      try have z5_10 : w4.heap.size + 1 < w5.heap.size := by omega
      have p0 : w5.cell? ⟨w.heap.size, 0, none⟩ = some (.string d) := by go_simp
      have p1 : w5.cell? ⟨w.heap.size, 1, none⟩ = some (.int .i64 r) := by go_simp
      have p2 : w5.cell? ⟨w.heap.size, 2, none⟩ = some (.int .i64 x) := by go_simp
      go_wp2_with fail
      first
        | (go_region_held3 (fun W => Below (w5.alloc (.cells #[.string D', .int .i64 r, .int .i64 x] 23)).heap.size (w5.alloc (.cells #[.string D', .int .i64 r, .int .i64 x] 23)) W ∧ W.cell? ⟨w.heap.size, 0, none⟩ = some (.string d) ∧ W.cell? ⟨w.heap.size, 1, none⟩ = some (.int .i64 r) ∧ W.cell? ⟨w.heap.size, 2, none⟩ = some (.int .i64 x))
          ((refine ⟨?_, ?_, ?_, ?_⟩ <;> first | (go_keep; done) | exact Below.drew (Below.refl _ _) | exact k1.trans (hb.mono k1.size) | exact (hb.cell (by have := k1.size; simp at this; simp; omega)).trans (by assumption)))
          ((first | (go_at_call 16; obtain ⟨k1, k2, k3, k4⟩ : Below (w5.alloc (.cells #[.string D', .int .i64 r, .int .i64 x] 23)).heap.size (w5.alloc (.cells #[.string D', .int .i64 r, .int .i64 x] 23)) _ ∧ _ := (by assumption); refine (HR.out _).mono ?_; rintro e w' ⟨rfl, hb⟩))))
        | fail
      rename_i w6 hw6
      obtain ⟨hb6, q6⟩ := hw6
      clear q6
      obtain ⟨hc6, hf6⟩ := bcell hb6
      have s6 := hb6.size
      simp at s6
      go_wp2
      all_goals go_ret
      refine ⟨rfl, ?_⟩
      repeat (first
        | exact Below.refl _ _
        | exact hb1
        | exact hb2
        | exact hb3
        | exact hb4
        | exact hb5
        | exact hb6
        | refine Below.drew ?_
        | refine below_drewN ?_ _
        | refine below_drewN ?_ _
        | refine Below.alloc ?_ (by first | omega | (simp; omega) | simp) _
        | refine Below.setCell ?_ (by first | omega | (simp; omega) | simp) _
        | refine Below.trans ?_ (hb6.mono (by first | omega | (simp; omega) | simp))
        | refine Below.trans ?_ (hb5.mono (by first | omega | (simp; omega) | simp))
        | refine Below.trans ?_ (hb4.mono (by first | omega | (simp; omega) | simp))
        | refine Below.trans ?_ (hb3.mono (by first | omega | (simp; omega) | simp))
        | refine Below.trans ?_ (hb2.mono (by first | omega | (simp; omega) | simp))
        | refine Below.trans ?_ (hb1.mono (by first | omega | (simp; omega) | simp)))
    · have c3 : r < 0 := by omega
      have g2 : decide (0 ≤ r) = false := by simpa using c2
      have hR : rightB d r x = false := by rw [Bool.eq_iff_iff]; simp [rightB]; omega
      have HR : Hid (∀ W, Calls Try.prog 16 #[pipV d r x] W fun e w' => e = .returned (.bool false) ∧ Below W.heap.size W w') := fun W => hR ▸ right_any d r x W hd
      clear hR
      go_enter Try.func3, Try.ntmps3
      go_wp2_with fail
      refine (shown_any _).mono ?_
      rintro e w1 ⟨rfl, hb1⟩
      obtain ⟨hc1, hf1⟩ := bcell hb1
      have s1 := hb1.size
      try simp at s1
      try have z1_0 : w.heap.size < w1.heap.size := by omega
      try have z1_1 : w.heap.size + 1 < w1.heap.size := by omega
      try have z1_2 : w.heap.size + 2 < w1.heap.size := by omega
      go_wp2_with fail
      refine (H1.out _).mono ?_
      rintro e w2 ⟨rfl, hb2⟩
      obtain ⟨hc2, hf2⟩ := bcell hb2
      have s2 := hb2.size
      try simp at s2
      try have z2_0 : w.heap.size < w2.heap.size := by omega
      try have z2_1 : w.heap.size + 1 < w2.heap.size := by omega
      try have z2_2 : w.heap.size + 2 < w2.heap.size := by omega
      try have z2_3 : w1.heap.size < w2.heap.size := by omega
      try have z2_4 : w1.heap.size + 1 < w2.heap.size := by omega
      go_wp2_with fail
      refine (H3.out _).mono ?_
      rintro e w3 ⟨rfl, hb3⟩
      obtain ⟨hc3, hf3⟩ := bcell hb3
      have s3 := hb3.size
      try simp at s3
      try have z3_0 : w.heap.size < w3.heap.size := by omega
      try have z3_1 : w.heap.size + 1 < w3.heap.size := by omega
      try have z3_2 : w.heap.size + 2 < w3.heap.size := by omega
      try have z3_3 : w1.heap.size < w3.heap.size := by omega
      try have z3_4 : w2.heap.size < w3.heap.size := by omega
      try have z3_5 : w1.heap.size + 1 < w3.heap.size := by omega
      try have z3_6 : w2.heap.size + 1 < w3.heap.size := by omega
      go_wp2_with fail
      refine (H2.out _).mono ?_
      rintro e w4 ⟨rfl, hb4⟩
      obtain ⟨hc4, hf4⟩ := bcell hb4
      have s4 := hb4.size
      try simp at s4
      try have z4_0 : w.heap.size < w4.heap.size := by omega
      try have z4_1 : w.heap.size + 1 < w4.heap.size := by omega
      try have z4_2 : w.heap.size + 2 < w4.heap.size := by omega
      try have z4_3 : w1.heap.size < w4.heap.size := by omega
      try have z4_4 : w2.heap.size < w4.heap.size := by omega
      try have z4_5 : w3.heap.size < w4.heap.size := by omega
      try have z4_6 : w1.heap.size + 1 < w4.heap.size := by omega
      try have z4_7 : w2.heap.size + 1 < w4.heap.size := by omega
      try have z4_8 : w3.heap.size + 1 < w4.heap.size := by omega
      go_wp2_with fail
      refine (H4.out _).mono ?_
      rintro e w5 ⟨rfl, hb5⟩
      obtain ⟨hc5, hf5⟩ := bcell hb5
      have s5 := hb5.size
      try simp at s5
      try have z5_0 : w.heap.size < w5.heap.size := by omega
      try have z5_1 : w.heap.size + 1 < w5.heap.size := by omega
      try have z5_2 : w.heap.size + 2 < w5.heap.size := by omega
      try have z5_3 : w1.heap.size < w5.heap.size := by omega
      try have z5_4 : w2.heap.size < w5.heap.size := by omega
      try have z5_5 : w3.heap.size < w5.heap.size := by omega
      try have z5_6 : w4.heap.size < w5.heap.size := by omega
      try have z5_7 : w1.heap.size + 1 < w5.heap.size := by omega
      try have z5_8 : w2.heap.size + 1 < w5.heap.size := by omega
      try have z5_9 : w3.heap.size + 1 < w5.heap.size := by omega
      try have z5_10 : w4.heap.size + 1 < w5.heap.size := by omega
      have p0 : w5.cell? ⟨w.heap.size, 0, none⟩ = some (.string d) := by go_simp
      have p1 : w5.cell? ⟨w.heap.size, 1, none⟩ = some (.int .i64 r) := by go_simp
      have p2 : w5.cell? ⟨w.heap.size, 2, none⟩ = some (.int .i64 x) := by go_simp
      go_wp2_with fail
      first
        | (go_region_with ((go_at_call 16; refine (HR.out _).mono ?_; rintro e w6 ⟨rfl, hb6⟩; obtain ⟨hc6, hf6⟩ := bcell hb6; have s6 := hb6.size; simp at s6)))
        | fail
      all_goals go_wp2
      all_goals go_ret
      all_goals refine ⟨rfl, ?_⟩
      all_goals
        repeat (first
          | exact Below.refl _ _
          | exact hb1
          | exact hb2
          | exact hb3
          | exact hb4
          | exact hb5
          | exact hb6
          | refine Below.drew ?_
          | refine below_drewN ?_ _
          | refine below_drewN ?_ _
          | refine Below.alloc ?_ (by first | omega | (simp; omega) | simp) _
          | refine Below.setCell ?_ (by first | omega | (simp; omega) | simp) _
          | refine Below.trans ?_ (hb6.mono (by first | omega | (simp; omega) | simp))
          | refine Below.trans ?_ (hb5.mono (by first | omega | (simp; omega) | simp))
          | refine Below.trans ?_ (hb4.mono (by first | omega | (simp; omega) | simp))
          | refine Below.trans ?_ (hb3.mono (by first | omega | (simp; omega) | simp))
          | refine Below.trans ?_ (hb2.mono (by first | omega | (simp; omega) | simp))
          | refine Below.trans ?_ (hb1.mono (by first | omega | (simp; omega) | simp)))
  · have c3 : (8 : Int) < (d.size : Int) := by omega
    have g1 : decide ((d.size : Int) ≤ 8) = false := by simpa using c1
    have hR : rightB d r x = false := by rw [Bool.eq_iff_iff]; simp [rightB]; omega
    have HR : Hid (∀ W, Calls Try.prog 16 #[pipV d r x] W fun e w' => e = .returned (.bool false) ∧ Below W.heap.size W w') := fun W => hR ▸ right_any d r x W hd
    clear hR
    go_enter Try.func3, Try.ntmps3
    go_wp2_with fail
    refine (shown_any _).mono ?_
    rintro e w1 ⟨rfl, hb1⟩
    obtain ⟨hc1, hf1⟩ := bcell hb1
    have s1 := hb1.size
    try simp at s1
    try have z1_0 : w.heap.size < w1.heap.size := by omega
    try have z1_1 : w.heap.size + 1 < w1.heap.size := by omega
    try have z1_2 : w.heap.size + 2 < w1.heap.size := by omega
    go_wp2_with fail
    refine (H1.out _).mono ?_
    rintro e w2 ⟨rfl, hb2⟩
    obtain ⟨hc2, hf2⟩ := bcell hb2
    have s2 := hb2.size
    try simp at s2
    try have z2_0 : w.heap.size < w2.heap.size := by omega
    try have z2_1 : w.heap.size + 1 < w2.heap.size := by omega
    try have z2_2 : w.heap.size + 2 < w2.heap.size := by omega
    try have z2_3 : w1.heap.size < w2.heap.size := by omega
    try have z2_4 : w1.heap.size + 1 < w2.heap.size := by omega
    go_wp2_with fail
    refine (H3.out _).mono ?_
    rintro e w3 ⟨rfl, hb3⟩
    obtain ⟨hc3, hf3⟩ := bcell hb3
    have s3 := hb3.size
    try simp at s3
    try have z3_0 : w.heap.size < w3.heap.size := by omega
    try have z3_1 : w.heap.size + 1 < w3.heap.size := by omega
    try have z3_2 : w.heap.size + 2 < w3.heap.size := by omega
    try have z3_3 : w1.heap.size < w3.heap.size := by omega
    try have z3_4 : w2.heap.size < w3.heap.size := by omega
    try have z3_5 : w1.heap.size + 1 < w3.heap.size := by omega
    try have z3_6 : w2.heap.size + 1 < w3.heap.size := by omega
    go_wp2_with fail
    refine (H2.out _).mono ?_
    rintro e w4 ⟨rfl, hb4⟩
    obtain ⟨hc4, hf4⟩ := bcell hb4
    have s4 := hb4.size
    try simp at s4
    try have z4_0 : w.heap.size < w4.heap.size := by omega
    try have z4_1 : w.heap.size + 1 < w4.heap.size := by omega
    try have z4_2 : w.heap.size + 2 < w4.heap.size := by omega
    try have z4_3 : w1.heap.size < w4.heap.size := by omega
    try have z4_4 : w2.heap.size < w4.heap.size := by omega
    try have z4_5 : w3.heap.size < w4.heap.size := by omega
    try have z4_6 : w1.heap.size + 1 < w4.heap.size := by omega
    try have z4_7 : w2.heap.size + 1 < w4.heap.size := by omega
    try have z4_8 : w3.heap.size + 1 < w4.heap.size := by omega
    go_wp2_with fail
    refine (H4.out _).mono ?_
    rintro e w5 ⟨rfl, hb5⟩
    obtain ⟨hc5, hf5⟩ := bcell hb5
    have s5 := hb5.size
    try simp at s5
    try have z5_0 : w.heap.size < w5.heap.size := by omega
    try have z5_1 : w.heap.size + 1 < w5.heap.size := by omega
    try have z5_2 : w.heap.size + 2 < w5.heap.size := by omega
    try have z5_3 : w1.heap.size < w5.heap.size := by omega
    try have z5_4 : w2.heap.size < w5.heap.size := by omega
    try have z5_5 : w3.heap.size < w5.heap.size := by omega
    try have z5_6 : w4.heap.size < w5.heap.size := by omega
    try have z5_7 : w1.heap.size + 1 < w5.heap.size := by omega
    try have z5_8 : w2.heap.size + 1 < w5.heap.size := by omega
    try have z5_9 : w3.heap.size + 1 < w5.heap.size := by omega
    try have z5_10 : w4.heap.size + 1 < w5.heap.size := by omega
    have p0 : w5.cell? ⟨w.heap.size, 0, none⟩ = some (.string d) := by go_simp
    have p1 : w5.cell? ⟨w.heap.size, 1, none⟩ = some (.int .i64 r) := by go_simp
    have p2 : w5.cell? ⟨w.heap.size, 2, none⟩ = some (.int .i64 x) := by go_simp
    go_wp2_with fail
    first
      | (go_region_with ((go_at_call 16; refine (HR.out _).mono ?_; rintro e w6 ⟨rfl, hb6⟩; obtain ⟨hc6, hf6⟩ := bcell hb6; have s6 := hb6.size; simp at s6)))
      | fail
    all_goals go_wp2
    all_goals go_ret
    all_goals refine ⟨rfl, ?_⟩
    all_goals
      repeat (first
        | exact Below.refl _ _
        | exact hb1
        | exact hb2
        | exact hb3
        | exact hb4
        | exact hb5
        | exact hb6
        | refine Below.drew ?_
        | refine below_drewN ?_ _
        | refine below_drewN ?_ _
        | refine Below.alloc ?_ (by first | omega | (simp; omega) | simp) _
        | refine Below.setCell ?_ (by first | omega | (simp; omega) | simp) _
        | refine Below.trans ?_ (hb6.mono (by first | omega | (simp; omega) | simp))
        | refine Below.trans ?_ (hb5.mono (by first | omega | (simp; omega) | simp))
        | refine Below.trans ?_ (hb4.mono (by first | omega | (simp; omega) | simp))
        | refine Below.trans ?_ (hb3.mono (by first | omega | (simp; omega) | simp))
        | refine Below.trans ?_ (hb2.mono (by first | omega | (simp; omega) | simp))
        | refine Below.trans ?_ (hb1.mono (by first | omega | (simp; omega) | simp)))

theorem wE_range (d s : ByteArray) (r : Int) : -9223372036854775808 ≤ wE d s r ∧ wE d s r ≤ 9223372036854775807 := by
  unfold wE
  split
  · omega
  · split
    · omega
    · split <;> omega
theorem rE_range (d : ByteArray) (x n : Int) : -9223372036854775808 ≤ rE d x n ∧ rE d x n ≤ 9223372036854775807 := by
  unfold rE
  split
  · omega
  · split
    · omega
    · split <;> omega
theorem acts_walk (d : ByteArray) (r x : Int) (s : ByteArray) (n : Int) (w : World) (hd : d.size ≤ 9223372036854775807) (hs : s.size ≤ 9223372036854775807) :
    Calls Try.prog 3 #[pipV d r x, .string s, .int .i64 n] w fun e w' => e = .returned (.bool true) ∧ Below w.heap.size w w' :=
  acts_core d s r x n (wD d s r) (wK d s r) (wE d s r) (rD d n) (rS d n) (rE d x n) w hd (wE_range d s r) (rE_range d x n) (fun W => write_any d s r x W) (fun W => read_any d r x n W hd) (fun W => rWrite_any d s r x W hs) (fun W => rRead_any d r x n W hd)
end Go.Proofs.Ytlhjlomfpgmdmaa
