/- IsaRows, walked. -/
import Derived.Test.YtnpgfjkenjldlaaDoorIsaQ
namespace Go.Proofs.YtnpgfjkenjldlaaDoor
open Go.RowKit
set_option linter.unusedVariables false

set_option maxHeartbeats 400000 in
theorem rows_no (A B : List I4) (va vb : Value) (w : World) (hT : UsesAt w) (hva : progAt w va A) (hvb : progAt w vb B) (hl : A.length + B.length ≤ 1048576) (hA : allOk A = false) :
    Calls Tryd.prog 7 #[va, vb] w fun e w' => e = .returned (.bool true) ∧ Below w.heap.size w w' := by
  have HT := Lib.hid hT
  have HA := Lib.hid hva
  have HB := Lib.hid hvb
  have HL := Lib.hid hl
  have A1 := Lib.hid (fun W hT hv hs => bytes_any A va W hT hv hs)
  have B1 := Lib.hid (fun W hT hv hs => bytes_any B vb W hT hv hs)
  have hE : bytE A = 1 := by unfold bytE; rw [hA]; rfl
  rw [hE] at A1
  have he : 0 ≤ bytE B ∧ bytE B ≤ 1 := by unfold bytE; split <;> omega
  generalize bytE B = F at B1 he
  obtain ⟨he0, he1⟩ := he
  clear hT hva hvb hl hE
  go_enter Tryd.func7, Tryd.ntmps7
  go_wp2_with fail
  refine (shown_any _ HT.out).mono ?_
  rintro e w1 ⟨rfl, hb1⟩
  have HB1 := Lib.hid hb1
  clear hb1
  go_wp2_with fail
  refine (A1.out _ (HT.out.below HB1.out) (HA.out.below HB1.out) (by have := HL.out; omega)).mono ?_
  rintro e w2 ⟨rfl, hb2⟩
  have HB2 := Lib.hid (HB1.out.trans (hb2.mono HB1.out.size))
  clear hb2
  go_wp2_with fail
  refine (B1.out _ (HT.out.below HB2.out) (HB.out.below HB2.out) (by have := HL.out; omega)).mono ?_
  rintro e w3 ⟨rfl, hb3⟩
  have HB3 := Lib.hid (HB2.out.trans (hb3.mono HB2.out.size))
  clear hb3
  go_wp2
  all_goals go_ret
  all_goals exact ⟨rfl, HB3.out⟩

set_option maxHeartbeats 400000 in
theorem rows_no2 (A B : List I4) (va vb : Value) (w : World) (hT : UsesAt w) (hva : progAt w va A) (hvb : progAt w vb B) (hl : A.length + B.length ≤ 1048576) (hA : allOk A = true) (hB : allOk B = false) :
    Calls Tryd.prog 7 #[va, vb] w fun e w' => e = .returned (.bool true) ∧ Below w.heap.size w w' := by
  have HT := Lib.hid hT
  have HA := Lib.hid hva
  have HB := Lib.hid hvb
  have HL := Lib.hid hl
  have A1 := Lib.hid (fun W hT hv hs => bytes_any A va W hT hv hs)
  have B1 := Lib.hid (fun W hT hv hs => bytes_any B vb W hT hv hs)
  have hE : bytE A = 0 := by unfold bytE; rw [hA]; rfl
  have hF : bytE B = 1 := by unfold bytE; rw [hB]; rfl
  rw [hE] at A1
  rw [hF] at B1
  clear hT hva hvb hl hE hF
  go_enter Tryd.func7, Tryd.ntmps7
  go_wp2_with fail
  refine (shown_any _ HT.out).mono ?_
  rintro e w1 ⟨rfl, hb1⟩
  have HB1 := Lib.hid hb1
  clear hb1
  go_wp2_with fail
  refine (A1.out _ (HT.out.below HB1.out) (HA.out.below HB1.out) (by have := HL.out; omega)).mono ?_
  rintro e w2 ⟨rfl, hb2⟩
  have HB2 := Lib.hid (HB1.out.trans (hb2.mono HB1.out.size))
  clear hb2
  go_wp2_with fail
  refine (B1.out _ (HT.out.below HB2.out) (HB.out.below HB2.out) (by have := HL.out; omega)).mono ?_
  rintro e w3 ⟨rfl, hb3⟩
  have HB3 := Lib.hid (HB2.out.trans (hb3.mono HB2.out.size))
  clear hb3
  go_wp2
  all_goals go_ret
  all_goals exact ⟨rfl, HB3.out⟩
end Go.Proofs.YtnpgfjkenjldlaaDoor
