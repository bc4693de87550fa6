/- Take, a case. -/
import Derived.Test.YtecpnblhhjndgaaPorD0
namespace Go.Proofs.Ytecpnblhhjndgaa
open Go.RowKit
set_option linter.unusedVariables false

set_option maxHeartbeats 2000000 in
theorem take_queue_more (k f t s d l : Int) (v : Value) (x : Msg) (L : List Msg) (w : World) (h : RowM w v L) (hm : L.length ≤ 5864062014805) (hx : L[0]? = some x) (hk : (k == 1) = false) (b o cap : Nat) (hv : v = .slice (some ⟨b, o, none⟩) L.length cap) (hc : cap ≠ 1) (hnc : L.length ≤ cap) :
    Calls Try.prog 13 #[chanV k f t s d, boxV v l] w (RetTake L.tail l x 0 w.heap.size w) := by
  have hl0 : 0 < L.length := (List.getElem?_eq_some_iff.1 hx).1
  have hl1 : (1 : Int) ≤ (L.length : Int) := by omega
  subst hv
  have H := Lib.hid h
  clear h
  have hlt := List.length_tail (l := L)
  have HLT := Lib.hid hlt
  clear hlt
  have HX := Lib.hid hx
  clear hx
  go_enter Try.func13, Try.ntmps13
  go_wp2_with fail
  refine (peek_some _ _ _ _ _ _ _ _ _ _ (H.out.below (((((Below.refl _ _).alloc (Nat.le_refl _) _).alloc (by simp) _).alloc (by simp; omega) _).alloc (by simp; omega) _)) hm HX.out).mono ?_
  rintro e w1 ⟨rfl, hb1⟩
  obtain ⟨hc1, hf1⟩ := bcell hb1
  have s1 := hb1.size
  try simp at s1
  try have hd1 := fun b o (h : b < w.heap.size) => hc1 b o (by first | omega | (simp; omega) | simp)
  try have he1 := fun b o (h : b < w.heap.size) => hf1 b o (by first | omega | (simp; omega) | simp)
  try have z1_0 : w.heap.size < w1.heap.size := by omega
  try have z1_1 : w.heap.size + 1 < w1.heap.size := by omega
  try have z1_2 : w.heap.size + 1 + 1 < w1.heap.size := by omega
  try have z1_3 : w.heap.size + 1 + 1 + 1 < w1.heap.size := by omega
  go_wp2_with fail
  have c0 : w1.cell? ⟨w.heap.size + 1, 0, none⟩ = some (.slice (some ⟨b, o, none⟩) L.length cap) := by go_simp
  have c1 : w1.cell? ⟨w.heap.size + 1, 1, none⟩ = some (.int .i64 l) := by go_simp
  have hsl : RowM w1 (.slice (some ⟨b, o, none⟩) L.length cap) L := (H.out.below (((((Below.refl _ _).alloc (Nat.le_refl _) _).alloc (by simp) _).alloc (by simp; omega) _).alloc (by simp; omega) _)).below hb1
  have HT := Lib.hid (show RowM w1 (.slice (some ⟨b, o + 2, none⟩) (L.length - 1) (cap - 1)) L.tail by simpa [hc] using RowM.tail hsl hl0)
  clear hsl
  (go_region_with ((go_at_call 19; refine (own_any _ _ L.tail l _ (HT.out.below (((Below.refl _ _).alloc (Nat.le_refl _) _).drew)) (by rw [List.length_tail]; omega)).mono ?_; rintro e w2 ⟨A2, cap2, rfl, hr2, hb2⟩; have HR := Lib.hid hr2; clear hr2; obtain ⟨hc2, hf2⟩ := bcell hb2; have s2 := hb2.size; simp at s2; have q0 : w.heap.size < w2.heap.size := (by omega); have q1 : w.heap.size + 1 < w2.heap.size := (by omega); have q2 : w.heap.size + 1 + 1 < w2.heap.size := (by omega); have q3 : w.heap.size + 1 + 1 + 1 < w2.heap.size := (by omega); have q4 : w1.heap.size < w2.heap.size := (by omega))))
  all_goals go_wp2
  all_goals refine bodyPost_ret (v := .tuple #[boxV (.slice A2 L.tail.length cap2) l, msgV x.1 x.2, .int .i64 0]) (by simp [results, Try.results13, go_sem, *]) rfl ⟨A2, cap2, rfl, ?_, ?_⟩
  all_goals first
    | (refine World.ownsRow.mono (base := w1.heap.size + 1) ?_ (by omega)
       have HR2 := World.ownsRow.mono (base' := w1.heap.size + 1) HR.out (by simp)
       repeat (first
         | with_reducible exact HR2
         | refine ownsRow_setCell_below ?_ (by first | omega | (simp; omega) | simp) _
         | refine World.ownsRow.alloc ?_ _))
    | (repeat (first
         | exact Below.refl _ _
         | exact hb1
         | exact hb2
         | refine Below.drew ?_
         | refine below_drewN ?_ _
         | refine below_drewN ?_ _
         | refine Below.alloc ?_ (by first | omega | (simp; omega) | simp) _
         | refine Below.setCell ?_ (by first | omega | (simp; omega) | simp) _
         | refine Below.trans ?_ (hb2.mono (by first | omega | (simp; omega) | simp))
         | refine Below.trans ?_ (hb1.mono (by first | omega | (simp; omega) | simp))))
end Go.Proofs.Ytecpnblhhjndgaa
