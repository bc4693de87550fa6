/- IsaRows, walked: both programs may be. -/
import Derived.Test.YtnpgfjkenjldlaaDoorIsaL7
namespace Go.Proofs.YtnpgfjkenjldlaaDoor
open Go.RowKit
set_option linter.unusedVariables false

set_option maxHeartbeats 1600000 in
theorem rows_yes (A B : List I4) (va vb : Value) (w : World) (hT : UsesAt w) (hva : progAt w va A) (hvb : progAt w vb B) (gva : progArg w va A) (gvb : progArg w vb B) (hl : A.length + B.length ≤ 1048576) (hA : allOk A = true) (hB : allOk B = true) :
    Calls Tryd.prog 7 #[va, vb] w fun e w' => e = .returned (.bool true) ∧ Below w.heap.size w w' := by
  obtain ⟨pa, ca, rfl⟩ : ∃ p c, va = .slice p A.length c := by
    rcases gva with ⟨rfl, rfl⟩ | ⟨ad, c, rfl, _⟩
    · exact ⟨none, 0, rfl⟩
    · exact ⟨some ad, c, rfl⟩
  have C1 : Hid (∀ (v : Value) (W : World), UsesAt W → progAt W v (A ++ B) → Calls Tryd.prog 18 #[v] W fun e w' => e = .returned (.tuple #[.string (bytS A ++ bytS B), .int .i64 0]) ∧ Below W.heap.size W w') := fun v W hu hp => by
    have h := bytes_any (A ++ B) v W hu hp (by simp; omega)
    rw [bytS_append A B hA hB, show bytE (A ++ B) = 0 by unfold bytE; rw [allOk_append, hA, hB]; rfl] at h
    exact h
  have D1 : Hid (∀ (W : World), UsesAt W → Calls Tryd.prog 20 #[.string (bytS A)] W fun e w' => (∃ v, e = .returned (.tuple #[v, .int .i64 0]) ∧ progAt w' v A) ∧ Below W.heap.size W w') := fun W hu => backOf A hA (by omega) W hu
  have hla : A.length ≤ 1048576 := by omega
  have hS := bytS_size A hA
  have hT2 : (bytS B).size ≤ 4194304 := by rw [bytS_size B hB]; omega
  have HT := Lib.hid hT
  have HA := Lib.hid hva
  have HB := Lib.hid hvb
  have GA := Lib.hid gva
  have GB := Lib.hid gvb
  have HL := Lib.hid hl
  have A1 := Lib.hid (fun W hT hv hs => bytes_any A (.slice pa A.length ca) W hT hv hs)
  have B1 := Lib.hid (fun W hT hv hs => bytes_any B vb W hT hv hs)
  have hE : bytE A = 0 := by unfold bytE; rw [hA]; rfl
  have hF : bytE B = 0 := by unfold bytE; rw [hB]; rfl
  rw [hE] at A1
  rw [hF] at B1
  clear hT hva hvb gva gvb hl hE hF hA hB
  generalize bytS A = S at A1 C1 D1 hS
  generalize bytS B = T at B1 C1 hT2
  have ha1 := fun W => run_string_add_sum (P := Tryd.prog) W S T (by omega)
  have hS2 : (S.size : Int) = 4 * (A.length : Int) := by omega
  clear hS hT2
  go_enter Tryd.func7, Tryd.ntmps7
  go_wp2_with fail
  refine (shown_any _ HT.out).mono ?_
  rintro e w1 ⟨rfl, hb1⟩
  have HB1 := Lib.hid hb1
  clear hb1
  go_wp2_with fail
  refine (A1.out _ (HT.out.below HB1.out) (HA.out.below HB1.out) (by have := HL.out; omega)).mono ?_
  rintro e w2 ⟨rfl, hb2⟩
  have HB2 := Lib.hid (HB1.out.trans (hb2.mono HB1.out.size))
  clear hb2
  go_wp2_with fail
  refine (B1.out _ (HT.out.below HB2.out) (HB.out.below HB2.out) (by have := HL.out; omega)).mono ?_
  rintro e w3 ⟨rfl, hb3⟩
  have HB3 := Lib.hid (HB2.out.trans (hb3.mono HB2.out.size))
  clear hb3
  go_wp2_with (at_builtin; refine wpList_append_prog rfl _ _ rfl w.heap.size _ 0 [] rfl ?own _ A rfl ?arg ?len ?base ?_)
  case own => exact ⟨rfl, .inr ⟨w3.heap.size, 0, #[], rfl, HB3.out.size, heap_alloc_new w3 _, Nat.le_refl _, by unfold maxLen; omega, rfl, rfl⟩⟩
  case arg => exact GA.out.below (HB3.out.alloc HB3.out.size _)
  case len => omega
  case base => have := HB3.out.size; simp; omega
  intro v4 w4 ho4 hg4
  have HB4 : Hid (Below w.heap.size w w4) := (HB3.out.alloc HB3.out.size _).grown hg4 (by have := HB3.out.size; simp; omega) (fun k hk => by
    have : w3.heap.size = k := by simpa [Value.ownBlock, Act.eval] using hk
    have := HB3.out.size
    omega)
  have HO4 := Lib.hid ho4
  clear ho4 hg4
  go_wp2_with (at_builtin; refine wpList_append_prog rfl _ _ rfl w.heap.size v4 A.length (flatI A) rfl HO4.out _ B rfl ?arg ?len ?base ?_)
  case arg => exact GB.out.below HB4.out
  case len => have := HL.out; omega
  case base => exact HB4.out.size
  intro v5 w5 ho5 hg5
  have HB5 : Hid (Below w.heap.size w w5) := HB4.out.grown hg5 HB4.out.size (ownsRow_block HO4.out)
  have HP5 : Hid (progAt w5 v5 (A ++ B)) := progAt_of_owns (base := w.heap.size) (n := A.length + B.length) (by simp) (by rw [flatI_append]; exact ho5)
  clear ho5 hg5
  go_wp2_with fail
  refine (C1.out v5 _ (HT.out.below HB5.out) HP5.out).mono ?_
  rintro e w6 ⟨rfl, hb6⟩
  have HB6 := Lib.hid (HB5.out.trans (hb6.mono HB5.out.size))
  clear hb6
  go_wp2_with fail
  refine (D1.out _ (HT.out.below HB6.out)).mono ?_
  rintro e w7 ⟨⟨x, rfl, hx⟩, hb7⟩
  have HX := Lib.hid hx
  have HB7 := Lib.hid (HB6.out.trans (hb7.mono HB6.out.size))
  clear hb7 hx
  go_wp2_with fail
  refine (same_any A x _ _ HX.out (HA.out.below HB7.out) hla).mono ?_
  rintro e w8 ⟨rfl, hb8⟩
  have HB8 := Lib.hid (HB7.out.trans (hb8.mono HB7.out.size))
  clear hb8
  go_wp2
  all_goals go_ret
  all_goals exact ⟨by simp, HB8.out⟩
end Go.Proofs.YtnpgfjkenjldlaaDoor
