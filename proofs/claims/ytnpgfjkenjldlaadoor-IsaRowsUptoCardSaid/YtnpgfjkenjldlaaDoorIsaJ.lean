/- The document's Same: two programs compared. -/
import Derived.Test.YtnpgfjkenjldlaaDoorIsaH
namespace Go.Proofs.YtnpgfjkenjldlaaDoor
open Go.RowKit
set_option linter.unusedVariables false

set_option maxHeartbeats 400000 in
theorem same_yes (b o cap b' o' cap' : Nat) (L : List (Int × Int × Int × Int)) (w : World) (hb : b < w.heap.size) (hb' : b' < w.heap.size) (hs : L.length ≤ 1048576) (hL : insAt w b o L) (hL' : insAt w b' o' L) :
    Calls Tryd.prog 22 #[.slice (some ⟨b, o, none⟩) L.length cap, .slice (some ⟨b', o', none⟩) L.length cap'] w fun e w' => e = .returned (.bool true) ∧ Below w.heap.size w w' := by
  have HLc := Lib.hid hL
  have HLd := Lib.hid hL'
  have Hb := Lib.hid hb
  have Hb' := Lib.hid hb'
  clear hL hL' hb hb'
  go_enter Tryd.func22, Tryd.ntmps22
  go_wp2
  go_loopw [5] (fun at_ wr => ∃ k : Nat, at_ = .int .i64 k ∧ Hid (k ≤ L.length) ∧ Hid (Below w.heap.size w wr)) (fun at_ _ => L.length - (intOf at_).toNat)
  case atStart => exact ⟨0, rfl, Nat.zero_le _, Below.refl _ _⟩
  case round =>
    obtain ⟨k, rfl, HK, HB⟩ := hrel
    by_cases hlt : k < L.length
    · have hd : decide ((k : Int) < (L.length : Int)) = true := by simpa using hlt
      obtain ⟨x, hx⟩ : ∃ x, L[k]? = some x := ⟨_, List.getElem?_eq_getElem hlt⟩
      obtain ⟨c0, c1, c2, c3⟩ := HLc.out k _ hx
      obtain ⟨f0, f1, f2, f3⟩ := HLd.out k _ hx
      obtain ⟨x0, x1, x2, x3⟩ := x
      have d0 : wr.cell? ⟨b, o + k * 4, none⟩ = some (.int .i64 x0) := (HB.out.cell Hb.out).trans c0
      have d1 : wr.cell? ⟨b, o + k * 4 + 1, none⟩ = some (.int .i64 x1) := (HB.out.cell Hb.out).trans c1
      have d2 : wr.cell? ⟨b, o + k * 4 + 2, none⟩ = some (.int .i64 x2) := (HB.out.cell Hb.out).trans c2
      have d3 : wr.cell? ⟨b, o + k * 4 + 3, none⟩ = some (.int .i64 x3) := (HB.out.cell Hb.out).trans c3
      have e0 : wr.cell? ⟨b', o' + k * 4, none⟩ = some (.int .i64 x0) := (HB.out.cell Hb'.out).trans f0
      have e1 : wr.cell? ⟨b', o' + k * 4 + 1, none⟩ = some (.int .i64 x1) := (HB.out.cell Hb'.out).trans f1
      have e2 : wr.cell? ⟨b', o' + k * 4 + 2, none⟩ = some (.int .i64 x2) := (HB.out.cell Hb'.out).trans f2
      have e3 : wr.cell? ⟨b', o' + k * 4 + 3, none⟩ = some (.int .i64 x3) := (HB.out.cell Hb'.out).trans f3
      clear c0 c1 c2 c3 f0 f1 f2 f3 hx
      go_wp2_with fail
      go_region
      go_wp2_with fail
      case roundEnd => exact ⟨⟨k + 1, by push_cast; rfl, hlt, HB.out.drew⟩, by simp only [intOf]; omega⟩
    · have hd : decide ((k : Int) < (L.length : Int)) = false := by simpa using hlt
      have hd2 : decide (k < L.length) = false := by simpa using hlt
      clear hlt
      go_wp2_with fail
      all_goals go_ret
      all_goals exact ⟨rfl, HB.out⟩

set_option maxHeartbeats 400000 in
theorem same_empty (p q : Option Addr) (cap cap' : Nat) (w : World) :
    Calls Tryd.prog 22 #[.slice p 0 cap, .slice q 0 cap'] w fun e w' => e = .returned (.bool true) ∧ Below w.heap.size w w' := by
  go_enter Tryd.func22, Tryd.ntmps22
  go_wp2
  go_loopw [5] (fun at_ wr => at_ = .int .i64 0 ∧ Hid (Below w.heap.size w wr)) (fun at_ _ => 0)
  case atStart => exact ⟨rfl, Below.refl _ _⟩
  case round =>
    obtain ⟨rfl, HB⟩ := hrel
    go_wp2_with fail
    all_goals go_ret
    all_goals exact ⟨rfl, HB.out⟩
end Go.Proofs.YtnpgfjkenjldlaaDoor
