/- IsaBytes, walked. -/
import Derived.Test.YtnpgfjkenjldlaaDoorIsaK
namespace Go.Proofs.YtnpgfjkenjldlaaDoor
open Go.RowKit
set_option linter.unusedVariables false

set_option maxHeartbeats 400000 in
theorem bytes_walk (L : List I4) (v : Value) (s : ByteArray) (w : World) (hT : UsesAt w) (hv : progAt w v L) (hl : L.length ≤ 1048576) (hs : s.size ≤ 1048576) :
    Calls Tryd.prog 4 #[v, .string s] w fun e w' => e = .returned (.bool true) ∧ Below w.heap.size w w' := by
  obtain ⟨M, c, ⟨hm, hc0, hc1⟩, hb1, hb2⟩ := back_both s hs
  have HT := Lib.hid hT
  have HV := Lib.hid hv
  have HL := Lib.hid hl
  have HM := Lib.hid hm
  have H1 := Lib.hid hb1
  have H2 := Lib.hid hb2
  have he : 0 ≤ bytE L ∧ bytE L ≤ 1 := by unfold bytE; split <;> omega
  have A1 := Lib.hid (fun W hT hv hs => bytes_any L v W hT hv hs)
  have A2 := Lib.hid (fun W hT hv hs => rBytes_any L v W hT hv hs)
  generalize bytS L = S at A1 A2
  generalize bytE L = E at A1 A2 he
  obtain ⟨he0, he1⟩ := he
  clear hT hv hl hm hb1 hb2 hs
  go_enter Tryd.func4, Tryd.ntmps4
  go_wp2_with fail
  refine (shown_any _ HT.out).mono ?_
  rintro e w1 ⟨rfl, hb1⟩
  have HB1 := Lib.hid hb1
  clear hb1
  go_wp2_with fail
  refine (A1.out _ (HT.out.below HB1.out) (HV.out.below HB1.out) HL.out).mono ?_
  rintro e w2 ⟨rfl, hb2⟩
  have HB2 := Lib.hid (HB1.out.trans (hb2.mono HB1.out.size))
  clear hb2
  go_wp2_with fail
  refine (A2.out _ (HT.out.below HB2.out) (HV.out.below HB2.out) HL.out).mono ?_
  rintro e w3 ⟨rfl, hb3⟩
  have HB3 := Lib.hid (HB2.out.trans (hb3.mono HB2.out.size))
  clear hb3
  go_wp2_with fail
  refine (H1.out _ (HT.out.below HB3.out)).mono ?_
  rintro e w4 ⟨⟨x, rfl, hx⟩, hb4⟩
  have HX := Lib.hid hx
  have HB4 := Lib.hid (HB3.out.trans (hb4.mono HB3.out.size))
  clear hb4 hx
  go_wp2_with fail
  refine (H2.out _ (HT.out.below HB4.out)).mono ?_
  rintro e w5 ⟨⟨y, rfl, hy⟩, hb5⟩
  have HY := Lib.hid hy
  have HX5 := Lib.hid (HX.out.below hb5)
  have HB5 := Lib.hid (HB4.out.trans (hb5.mono HB4.out.size))
  clear hb5 hy
  go_wp2_with fail
  refine (same_any M x y _ HX5.out HY.out HM.out).mono ?_
  rintro e w6 ⟨rfl, hb6⟩
  have HB6 := Lib.hid (HB5.out.trans (hb6.mono HB5.out.size))
  clear hb6
  go_wp2
  all_goals go_ret
  all_goals exact ⟨by simp, HB6.out⟩
end Go.Proofs.YtnpgfjkenjldlaaDoor
