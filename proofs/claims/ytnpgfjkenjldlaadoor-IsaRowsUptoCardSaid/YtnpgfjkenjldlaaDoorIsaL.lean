/- The document's example; the laws IsaRegs, IsaFields, IsaApart, IsaBack, walked. -/
import Derived.Test.YtnpgfjkenjldlaaDoorIsaE
import Derived.Test.YtnpgfjkenjldlaaDoorIsaD
namespace Go.Proofs.YtnpgfjkenjldlaaDoor
open Go.RowKit
set_option linter.unusedVariables false

theorem UsesAt.alloc {w : World} (h : UsesAt w) (o : Obj) : UsesAt (w.alloc o) := h.below ((Below.refl _ _).alloc (Nat.le_refl _) _)
theorem UsesAt.drew {w : World} (h : UsesAt w) : UsesAt w.drew := h.below (Below.refl _ _).drew

set_option maxHeartbeats 400000 in
theorem shown_any (w : World) (hT : UsesAt w) :
    Calls Tryd.prog 11 #[] w fun e w' => e = .returned (.bool true) ∧ Below w.heap.size w w' := by
  have HT := Lib.hid hT
  clear hT
  go_enter Tryd.func11, Tryd.ntmps11
  go_wp2_with fail
  refine (word_yes _ _ _ _ _ (by repeat (first | exact HT.out | apply UsesAt.alloc)) (by decide)).mono ?_
  rintro e w' ⟨rfl, hb⟩
  rw [show wordN 1 1 0 (-1) = 17891327 by decide]
  go_wp2
  go_ret
  exact ⟨rfl, hb⟩

set_option maxHeartbeats 400000 in
theorem regs_walk (n : Int) (w : World) (hT : UsesAt w) (h0 : 0 ≤ n) (h1 : n < 4294967296) :
    Calls Tryd.prog 10 #[.int .u32 n] w fun e w' => e = .returned (.bool true) ∧ Below w.heap.size w w' := by
  have HT := Lib.hid hT
  clear hT
  cases hm : tMay n with
  | false =>
    have HM := Lib.hid hm
    clear hm
    go_enter Tryd.func10, Tryd.ntmps10
    go_wp2_with fail
    refine (shown_any _ HT.out).mono ?_
    rintro e w1 ⟨rfl, hb1⟩
    go_wp2_with fail
    refine (take_no _ _ (HT.out.below hb1) h0 h1 HM.out).mono ?_
    rintro e w2 ⟨rfl, hb2⟩
    have HB : Hid (Below w.heap.size w w2) := hb1.trans (hb2.mono hb1.size)
    clear hb1 hb2
    go_wp2
    all_goals go_ret
    all_goals exact ⟨rfl, HB.out.alloc (HB.out.size) _⟩
  | true =>
    obtain ⟨r1, r2, r3, r4, r5, r6, r7, r8⟩ := may_range hm
    unfold tO at r1 r2
    unfold tA at r3 r4
    unfold tB at r5 r6
    clear r7 r8
    have HM := Lib.hid hm
    clear hm
    go_enter Tryd.func10, Tryd.ntmps10
    go_wp2_with fail
    refine (shown_any _ HT.out).mono ?_
    rintro e w1 ⟨rfl, hb1⟩
    go_wp2_with fail
    refine (take_yes _ _ (HT.out.below hb1) h0 h1 HM.out).mono ?_
    rintro e w2 ⟨rfl, hb2⟩
    have HB : Hid (Below w.heap.size w w2) := hb1.trans (hb2.mono hb1.size)
    clear hb1 hb2
    go_wp2
    all_goals go_ret
    all_goals exact ⟨rfl, HB.out.alloc (HB.out.size) _⟩

end Go.Proofs.YtnpgfjkenjldlaaDoor
