/- The document's Back: bytes with a word that is no instruction's. -/
import Derived.Test.YtnpgfjkenjldlaaDoorIsaG
namespace Go.Proofs.YtnpgfjkenjldlaaDoor
open Go.RowKit
set_option linter.unusedVariables false

set_option maxHeartbeats 400000 in
theorem rBack_bad (s : ByteArray) (n j : Nat) (w : World) (hT : UsesAt w) (hs : s.size ≤ 1048576) (h4 : s.size = 4 * n) (hj : j < n) (hM : ∀ k, k < j → tMay (wV s (4 * k)) = true) (hN : tMay (wV s (4 * j)) = false) :
    Calls Tryd.prog 21 #[.string s] w fun e w' => e = .returned (.tuple #[.slice none 0 0, .int .i64 11]) ∧ Below w.heap.size w w' := by
  have HT := Lib.hid hT
  have HM := Lib.hid hM
  have HN := Lib.hid hN
  have HJ := Lib.hid hj
  have H4 := Lib.hid h4
  have hq : (s.size : Int) % 4 = 0 := by omega
  clear hT hM h4 hN hj
  obtain ⟨i0, hi, hzz⟩ := Option.map_eq_some_iff.1 infoIns
  simp only [Prod.mk.injEq] at hzz
  obtain ⟨hz0, hz1, hz2⟩ := hzz
  have HI := Lib.hid (And.intro hi (And.intro hz0 (And.intro hz1 hz2)))
  clear hi hz0 hz1 hz2
  go_enter Tryd.func21, Tryd.ntmps21
  go_wp2
  clear hq
  go_loopw [4, 5] (fun l at_ wr => ∃ k p : Nat, Hid (p = 4 * k) ∧ Hid (k ≤ j) ∧ at_ = .int .i64 p ∧ Hid (wr.ownsRow w.heap.size 23 4 l k (backC s k)) ∧ Hid (Below w.heap.size w wr)) (fun _ at_ _ => 4 * n - (intOf at_).toNat)
  case atStart => exact ⟨0, 0, rfl, Nat.zero_le _, rfl, ⟨rfl, .inl ⟨rfl, rfl⟩⟩, Below.refl _ _⟩
  case round =>
    obtain ⟨k, p, HP, HK, rfl, HOW, HB⟩ := hrel
    have hlt : p < s.size := by have := HP.out; have := HK.out; have := HJ.out; have := H4.out; omega
    by_cases hkj : k < j
    · have h4' := H4.out
      have hp := HP.out
      have hd : decide ((p : Int) + 3 < (s.size : Int)) = true := by simp; omega
      have g0 : (p : Int) < (s.size : Int) := by omega
      have g1 : (p : Int) + 1 < (s.size : Int) := by omega
      have g2 : (p : Int) + 2 < (s.size : Int) := by omega
      have g3 : (p : Int) + 3 < (s.size : Int) := by omega
      have e1 : (0 : Int) ≤ (p : Int) + 1 := by omega
      have e2 : (0 : Int) ≤ (p : Int) + 2 := by omega
      have e3 : (0 : Int) ≤ (p : Int) + 3 := by omega
      clear h4' hp hlt
      go_wp2_with fail
      go_region
      have EW := wV_sum s p (by omega)
      simp only [EW]
      clear EW
      have hk : k < j := hkj
      have HK1 := Lib.hid hk
      have hwb := wV_bounds s p
      have HW := Lib.hid hwb
      have HTM : Hid (tMay (wV s p) = true) := by have := HM.out k hk; rw [← HP.out] at this; exact this
      have HU : Hid (UsesAt wr.drew) := (HT.out.below HB.out).below (Below.refl _ _).drew
      clear hk hwb
      go_wp2_with fail
      refine (rTake_yes _ _ HW.out.1 HW.out.2 HTM.out).mono ?_
      rintro e w2 ⟨rfl, hb2⟩
      have hb3 : Below wr.heap.size wr w2 := (Below.refl _ wr).drew.trans hb2
      have HO2 := Lib.hid (ownsRow_below HOW.out hb3)
      have HB2 : Hid (Below w.heap.size w w2) := HB.out.trans (hb3.mono HB.out.size)
      clear hb2 hb3
      have HL : Hid (4 * k + 4 ≤ 4 * n) := by have := HK1.out; have := HJ.out; exact (by omega : 4 * k + 4 ≤ 4 * n)
      go_wp2_with (at_builtin; refine wpList_append_own _ rfl _ _ 37 rfl w.heap.size 23 i0 _ 4 32 Tryd.underlying37 HI.out.1 HI.out.2.1 HI.out.2.2.1 HI.out.2.2.2 rfl (by decide) _ k (backC s k) rfl (ownsRow_below HO2.out ?_) ⟨w2.heap.size + 1, 0, none⟩ 1 1 (insL (wV s p)) rfl rfl ?_ ?_ ?_ ?_ ?_ ?_)
      · exact ((Below.refl _ _).alloc (Nat.le_refl _) _).alloc (by simp) _
      · intro j u hu
        rcases j with _ | _ | _ | _ | j
        all_goals simp [insL] at hu
        all_goals subst hu
        all_goals simp [Addr.add]
      · intro u hu
        simp only [insL, List.mem_cons, List.not_mem_nil, or_false] at hu
        rcases hu with rfl | rfl | rfl | rfl <;> rfl
      · have := HK1.out; have := HJ.out; have := H4.out; unfold maxLen; omega
      · have := HK1.out; have := HJ.out; have := H4.out; omega
      · have := HB2.out.size; simp; omega
      · intro v' w3 ho3 hg3 _
        have HO3 := Lib.hid ho3
        have HB3 : Hid (Below w.heap.size w w3) := ((HB2.out.alloc HB2.out.size _).alloc (by have := HB2.out.size; simp; omega) _).grown hg3 (by have := HB2.out.size; simp; omega) (ownsRow_block HOW.out)
        clear ho3 hg3
        go_wp2_with fail
        case roundEnd =>
          have hp := HP.out
          refine ⟨⟨k + 1, p + 4, (by omega : p + 4 = 4 * (k + 1)), HK1.out, by push_cast; rfl, ?_, HB3.out⟩, ?_⟩
          · have ho := HO3.out
            rw [hp] at ho
            exact ho
          · have := HL.out
            simp only [intOf]
            omega
    · have h4' := H4.out
      have hp := HP.out
      have hd : decide ((p : Int) + 3 < (s.size : Int)) = true := by simp; omega
      have g0 : (p : Int) < (s.size : Int) := by omega
      have g1 : (p : Int) + 1 < (s.size : Int) := by omega
      have g2 : (p : Int) + 2 < (s.size : Int) := by omega
      have g3 : (p : Int) + 3 < (s.size : Int) := by omega
      have e1 : (0 : Int) ≤ (p : Int) + 1 := by omega
      have e2 : (0 : Int) ≤ (p : Int) + 2 := by omega
      have e3 : (0 : Int) ≤ (p : Int) + 3 := by omega
      clear h4' hp hlt
      go_wp2_with fail
      go_region
      have EW := wV_sum s p (by omega)
      simp only [EW]
      clear EW
      have hk : k = j := by have := HK.out; omega
      have hwb := wV_bounds s p
      have HW := Lib.hid hwb
      have HTM : Hid (tMay (wV s p) = false) := by have := HN.out; rw [← hk, ← HP.out] at this; exact this
      have HU : Hid (UsesAt wr.drew) := (HT.out.below HB.out).below (Below.refl _ _).drew
      clear hk hwb
      go_wp2_with fail
      refine (rTake_no _ _ HW.out.1 HW.out.2 HTM.out).mono ?_
      rintro e w2 ⟨rfl, hb2⟩
      have hb3 : Below wr.heap.size wr w2 := (Below.refl _ wr).drew.trans hb2
      have HB2 : Hid (Below w.heap.size w w2) := HB.out.trans (hb3.mono HB.out.size)
      clear hb2 hb3
      go_wp2_with fail
      all_goals go_ret2
      all_goals exact ⟨rfl, HB2.out.alloc HB2.out.size _⟩
end Go.Proofs.YtnpgfjkenjldlaaDoor
