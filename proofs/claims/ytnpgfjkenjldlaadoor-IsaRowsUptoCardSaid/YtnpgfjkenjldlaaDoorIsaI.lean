/- The document's Bytes. -/
import Derived.Test.YtnpgfjkenjldlaaDoorIsaH
import Derived.Test.YtnpgfjkenjldlaaDoorIsaD
namespace Go.Proofs.YtnpgfjkenjldlaaDoor
open Go.RowKit
set_option linter.unusedVariables false

set_option maxHeartbeats 400000 in
theorem rBytes_ok (b o cap : Nat) (L : List (Int × Int × Int × Int)) (w : World) (hT : UsesAt w) (hb : b < w.heap.size) (hs : L.length ≤ 1048576) (hL : insAt w b o L) (hM : ∀ x ∈ L, okI x = true) :
    Calls Tryd.prog 19 #[.slice (some ⟨b, o, none⟩) L.length cap] w fun e w' => e = .returned (.tuple #[.string ⟨(bytU L).toArray⟩, .int .i64 0]) ∧ Below w.heap.size w w' := by
  have HT := Lib.hid hT
  have HM := Lib.hid hM
  have HLc := Lib.hid hL
  have Hb := Lib.hid hb
  clear hT hM hL hb
  obtain ⟨i0, hi, hzz⟩ := Option.map_eq_some_iff.1 infoByte
  simp only [Prod.mk.injEq] at hzz
  obtain ⟨hz0, hz1, hz2⟩ := hzz
  have HI := Lib.hid (And.intro hi (And.intro hz0 (And.intro hz1 hz2)))
  clear hi hz0 hz1 hz2
  go_enter Tryd.func19, Tryd.ntmps19
  go_wp2
  go_loopw [4, 5] (fun bs at_ wr => ∃ k : Nat, at_ = .int .i64 k ∧ Hid (k ≤ L.length) ∧ Hid (wr.ownsRow w.heap.size 5 1 bs (4 * k) (bytC (L.take k))) ∧ Hid (Below w.heap.size w wr)) (fun _ at_ _ => L.length - (intOf at_).toNat)
  case atStart => exact ⟨0, rfl, Nat.zero_le _, ⟨rfl, .inl ⟨rfl, rfl⟩⟩, Below.refl _ _⟩
  case round =>
    obtain ⟨k, rfl, HK, HOW, HB⟩ := hrel
    by_cases hlt : k < L.length
    · have hd : decide ((k : Int) < (L.length : Int)) = true := by simpa using hlt
      obtain ⟨x, hx⟩ : ∃ x, L[k]? = some x := ⟨_, List.getElem?_eq_getElem hlt⟩
      have HX := Lib.hid hx
      have HR : Hid (okI x = true) := HM.out x (List.mem_of_getElem? hx)
      obtain ⟨c0, c1, c2, c3⟩ := HLc.out k _ hx
      obtain ⟨x0, x1, x2, x3⟩ := x
      have d0 : wr.cell? ⟨b, o + k * 4, none⟩ = some (.int .i64 x0) := (HB.out.cell Hb.out).trans c0
      have d1 : wr.cell? ⟨b, o + k * 4 + 1, none⟩ = some (.int .i64 x1) := (HB.out.cell Hb.out).trans c1
      have d2 : wr.cell? ⟨b, o + k * 4 + 2, none⟩ = some (.int .i64 x2) := (HB.out.cell Hb.out).trans c2
      have d3 : wr.cell? ⟨b, o + k * 4 + 3, none⟩ = some (.int .i64 x3) := (HB.out.cell Hb.out).trans c3
      clear c0 c1 c2 c3 hx
      have hbl : b < wr.heap.size := Nat.lt_of_lt_of_le Hb.out HB.out.size
      have HL : Hid (4 * k + 4 ≤ 4 * L.length) := (by omega : 4 * k + 4 ≤ 4 * L.length)
      have hr := may_range (show rMay x0 x1 x2 x3 = true from HR.out)
      have hw0 : 0 ≤ wordN x0 x1 x2 x3 ∧ wordN x0 x1 x2 x3 < 4294967296 := by unfold wordN; omega
      have HW := Lib.hid hw0
      clear hr hw0
      go_wp2_with fail
      refine (rWord_yes _ _ _ _ _ (show rMay x0 x1 x2 x3 = true from HR.out)).mono ?_
      rintro e w2 ⟨rfl, hb2⟩
      have hb3 : Below wr.heap.size wr w2 := hb2
      have HO2 := Lib.hid (ownsRow_below HOW.out hb3)
      have HB2 : Hid (Below w.heap.size w w2) := HB.out.trans (hb3.mono HB.out.size)
      clear hb2 hb3
      obtain ⟨hw1, hw2⟩ := HW.out
      go_wp2_with (at_builtin; refine wpList_append_own _ rfl _ _ 55 rfl w.heap.size 5 i0 _ 1 1 Tryd.underlying55 HI.out.1 HI.out.2.1 HI.out.2.2.1 HI.out.2.2.2 rfl (by decide) _ (4 * k) _ rfl (ownsRow_below HO2.out ?_) ⟨w2.heap.size, 0, none⟩ 4 4 (byL (wordN x0 x1 x2 x3)) rfl rfl ?_ ?_ ?_ ?_ ?_ ?_)
      · exact (Below.refl _ _).alloc (Nat.le_refl _) _
      · intro j u hu
        rcases j with _ | _ | _ | _ | j
        all_goals simp [byL] at hu
        all_goals subst hu
        all_goals simp [Addr.add]
      · intro u hu
        simp only [byL, List.mem_cons, List.not_mem_nil, or_false] at hu
        rcases hu with rfl | rfl | rfl | rfl <;> rfl
      · have := HL.out; unfold maxLen; omega
      · have := HL.out; omega
      · have := HB2.out.size; simp; omega
      · intro v' w3 ho3 hg3 _
        have HO3 := Lib.hid ho3
        have HB3 : Hid (Below w.heap.size w w3) := (HB2.out.alloc HB2.out.size _).grown hg3 (by have := HB2.out.size; simp; omega) (ownsRow_block HOW.out)
        clear ho3 hg3
        go_wp2_with fail
        case roundEnd =>
          refine ⟨⟨k + 1, by push_cast; rfl, hlt, ?_, HB3.out⟩, ?_⟩
          · rw [bytC_take HX.out]
            exact HO3.out
          · simp only [intOf]
            omega
    · have hd : decide ((k : Int) < (L.length : Int)) = false := by simpa using hlt
      have hd2 : decide (k < L.length) = false := by simpa using hlt
      have hkn : k = L.length := by have := HK.out; omega
      subst hkn
      have how := HOW.out
      rw [List.take_length, bytC_U L HM.out] at how
      have hconv := own_string (bytU L) how
      clear hlt how
      go_wp2_with fail
      all_goals go_ret2
      all_goals exact ⟨rfl, HB.out⟩
end Go.Proofs.YtnpgfjkenjldlaaDoor
