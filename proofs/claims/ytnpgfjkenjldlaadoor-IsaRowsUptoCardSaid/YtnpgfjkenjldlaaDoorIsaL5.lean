/- IsaCuts, walked. -/
import Derived.Test.YtnpgfjkenjldlaaDoorIsaF2
import Derived.Test.YtnpgfjkenjldlaaDoorIsaL
namespace Go.Proofs.YtnpgfjkenjldlaaDoor
open Go.RowKit
set_option linter.unusedVariables false

theorem firstBad (s : ByteArray) : ∀ n, (∀ k, k < n → tMay (wV s (4 * k)) = true) ∨ ∃ j, j < n ∧ (∀ k, k < j → tMay (wV s (4 * k)) = true) ∧ tMay (wV s (4 * j)) = false
  | 0 => .inl fun k hk => by omega
  | n + 1 => by
    rcases firstBad s n with h | ⟨j, hj, h1, h2⟩
    · cases ht : tMay (wV s (4 * n)) with
      | false => exact .inr ⟨n, by omega, h, ht⟩
      | true =>
        refine .inl fun k hk => ?_
        by_cases hkn : k < n
        · exact h k hkn
        · obtain rfl : k = n := by omega
          exact ht
    · exact .inr ⟨j, by omega, h1, h2⟩

/-- What isa.Back answers, told at once. -/
theorem back_any (s : ByteArray) (w : World) (hT : UsesAt w) (hs : s.size ≤ 1048576) :
    Calls Tryd.prog 20 #[.string s] w fun e w' => (∃ (v : Value) (c : Int), e = .returned (.tuple #[v, .int .i64 c]) ∧ (decide (c = 2) = decide (s.size % 4 ≠ 0))) ∧ Below w.heap.size w w' := by
  by_cases h4 : s.size % 4 = 0
  · have hd : decide ((2 : Int) = 2) = true := rfl
    rcases firstBad s (s.size / 4) with h | ⟨j, hj, h1, h2⟩
    · refine (back_ok s (s.size / 4) w hT (by omega) (by omega) h).mono ?_
      rintro e w' ⟨⟨v, rfl, _⟩, hb⟩
      exact ⟨⟨v, 0, rfl, by simp [h4]⟩, hb⟩
    · refine (back_bad s (s.size / 4) j w hT hs (by omega) hj h1 h2).mono ?_
      rintro e w' ⟨rfl, hb⟩
      exact ⟨⟨_, 11, rfl, by simp [h4]⟩, hb⟩
  · refine (back_more s w hs h4).mono ?_
    rintro e w' ⟨rfl, rfl⟩
    exact ⟨⟨_, 2, rfl, by simp [h4]⟩, Below.refl _ _⟩

set_option maxHeartbeats 400000 in
theorem cuts_walk (s : ByteArray) (w : World) (hT : UsesAt w) (hs : s.size ≤ 1048576) :
    Calls Tryd.prog 8 #[.string s] w fun e w' => e = .returned (.bool true) ∧ Below w.heap.size w w' := by
  have HT := Lib.hid hT
  have HS := Lib.hid hs
  clear hT
  go_enter Tryd.func8, Tryd.ntmps8
  go_wp2_with fail
  refine (shown_any _ HT.out).mono ?_
  rintro e w1 ⟨rfl, hb1⟩
  go_wp2_with fail
  refine (back_any s _ (HT.out.below hb1) HS.out).mono ?_
  rintro e w2 ⟨⟨v, c, rfl, hc⟩, hb2⟩
  have HB : Hid (Below w.heap.size w w2) := hb1.trans (hb2.mono hb1.size)
  clear hb1 hb2
  have hz : (s.size : Int) % 4 = ((s.size % 4 : Nat) : Int) := by omega
  cases hq : decide (s.size % 4 ≠ 0) with
  | true =>
    rw [hq] at hc
    obtain rfl : c = 2 := by simpa using hc
    have hm : decide (s.size % 4 = 0) = false := by simpa using hq
    have hm2 : decide ((s.size : Int) % 4 = 0) = false := by simp at hq ⊢; omega
    have hm3 : ((s.size : Int) % 4 != 0) = true := by simp at hq ⊢; omega
    clear hc hq hz
    go_wp2
    all_goals go_ret
    all_goals exact ⟨by simp, HB.out⟩
  | false =>
    rw [hq] at hc
    have hm : decide (s.size % 4 = 0) = true := by simpa using hq
    have hm2 : decide ((s.size : Int) % 4 = 0) = true := by simp at hq ⊢; omega
    have hm3 : ((s.size : Int) % 4 != 0) = false := by simp at hq ⊢; omega
    have hc2 : (c == 2) = false := by simpa using hc
    clear hq hz
    go_wp2
    all_goals go_ret
    all_goals exact ⟨by simp, HB.out⟩
end Go.Proofs.YtnpgfjkenjldlaaDoor
