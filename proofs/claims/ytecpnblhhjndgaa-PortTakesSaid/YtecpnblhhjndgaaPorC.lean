/- Send. -/
import Derived.Test.YtecpnblhhjndgaaPorB
namespace Go.Proofs.Ytecpnblhhjndgaa
open Go.RowKit
set_option linter.unusedVariables false

/-- The result is a box with a row of these messages, and a number. -/
def RetSend (L : List Msg) (l n : Int) (B : Nat) (w : World) (e : Ending) (w' : World) : Prop := ∃ A cap, e = .returned (.tuple #[boxV (.slice A L.length cap) l, .int .i64 n]) ∧ OwnM w' B (.slice A L.length cap) L ∧ Below B w w'

set_option maxHeartbeats 1000000 in
theorem send_big (k f t s d l now : Int) (v : Value) (L : List Msg) (body : ByteArray) (w : World) (h : RowM w v L) (hm : L.length ≤ 5864062014805) (hb : s < (body.size : Int)) (hbs : body.size ≤ 9223372036854775807) :
    Calls Try.prog 11 #[chanV k f t s d, boxV v l, .int .u64 now, .string body] w (RetSend L l 4 w.heap.size w) := by
  obtain ⟨A, cap, rfl, _, _⟩ := Sl.slice h
  have H := Lib.hid h
  clear h
  go_enter Try.func11, Try.ntmps11
  go_wp2_with fail
  refine (own_any _ _ L l _ (H.out.below ((((Below.refl _ _).alloc (Nat.le_refl _) _).alloc (by simp) _).alloc (by simp; omega) _)) hm).mono ?_
  rintro e w1 ⟨A1, cap1, rfl, hr1, hb1⟩
  have HR := Lib.hid hr1
  clear hr1
  obtain ⟨hc1, hf1⟩ := bcell hb1
  have s1 := hb1.size
  simp at s1
  go_wp2
  refine bodyPost_ret (v := .tuple #[boxV (.slice A1 L.length cap1) l, .int .i64 4]) (by simp [results, Try.results11, go_sem, *]) rfl ⟨A1, cap1, rfl, ?_, ?_⟩
  · refine World.ownsRow.mono (base := w.heap.size + 1 + 1 + 1) ?_ (by omega)
    have HR2 := HR.out
    unfold OwnM at HR2
    simp only [size_alloc] at HR2
    repeat (first
      | with_reducible exact HR2
      | refine ownsRow_setCell_below ?_ (by first | omega | (simp; omega) | simp) _
      | refine World.ownsRow.alloc ?_ _)
  · repeat (first
      | exact Below.refl _ _
      | exact hb1
      | refine Below.drew ?_
      | refine below_drewN ?_ _
      | refine below_drewN ?_ _
      | refine Below.alloc ?_ (by first | omega | (simp; omega) | simp) _
      | refine Below.setCell ?_ (by first | omega | (simp; omega) | simp) _
      | refine Below.trans ?_ (hb1.mono (by first | omega | (simp; omega) | simp)))
set_option maxHeartbeats 1000000 in
theorem send_queue (k f t s d l now : Int) (v : Value) (L : List Msg) (body : ByteArray) (w : World) (h : RowM w v L) (hm : L.length ≤ 5864062014700) (hb : (body.size : Int) ≤ s) (hbs : body.size ≤ 9223372036854775807) (hk : (k == 1) = false) (hd : (L.length : Int) < d) :
    Calls Try.prog 11 #[chanV k f t s d, boxV v l, .int .u64 now, .string body] w (RetSend (L ++ [(now, body)]) l 0 w.heap.size w) := by
  obtain ⟨A, cap, rfl, hnc, hcm⟩ := Sl.slice h
  have H := Lib.hid h
  clear h
  go_enter Try.func11, Try.ntmps11
  obtain ⟨i0, hi, hzz⟩ := Option.map_eq_some_iff.1 infoMsg
  simp only [Prod.mk.injEq] at hzz
  obtain ⟨hz0, hz1, hz2⟩ := hzz
  have HI := Lib.hid (And.intro hi (And.intro hz0 (And.intro hz1 hz2)))
  clear hi hz0 hz1 hz2
  have hmx : L.length + 1 ≤ maxLen := by unfold maxLen; omega
  go_wp2_with (at_builtin; refine wpList_app_tight _ rfl _ _ 24 rfl 37 i0 _ 2 24 Try.underlying24 HI.out.1 HI.out.2.1 HI.out.2.2.1 HI.out.2.2.2 rfl (by decide) A L.length (L.flatMap msgC) rfl ?c1 (.slice (some ⟨w.heap.size + 1 + 1 + 1, 0, none⟩) 1 1) 1 (msgC (now, body)) rfl ?c2 ?c3 (by decide) ?c4 ?c5 ?_)
  case c1 => exact H.out.tight.below (((((Below.refl _ _).alloc (Nat.le_refl _) _).alloc (by simp) _).alloc (by simp; omega) _).alloc (by simp; omega) _)
  case c2 => exact sl_new (by simp) rfl
  case c3 => exact fun u hu => msgC_one [(now, body)] u (by simpa using hu)
  case c4 => exact hmx
  case c5 => omega
  intro v1 w1 hown hb1
  obtain ⟨A1, cap1, rfl, _, _⟩ := (Sl.of_own hown).slice
  have HO := Lib.hid hown
  clear hown
  obtain ⟨hc1, hf1⟩ := bcell hb1
  have s1 := hb1.size
  simp at s1
  go_wp2
  refine bodyPost_ret (v := .tuple #[boxV (.slice A1 (L.length + 1) cap1) l, .int .i64 0]) (by simp [results, Try.results11, go_sem, *]) rfl ⟨A1, cap1, by simp, ?_, ?_⟩
  · refine own_mono (base := w.heap.size + 1 + 1 + 1 + 1) (v := .slice A1 (L.length + 1) cap1) (n := L.length + 1) (xs := L.flatMap msgC ++ msgC (now, body)) ?_ (by omega) (by simp) (by simp) (by simp)
    have HR2 := HO.out
    repeat (first
      | with_reducible exact HR2
      | refine ownsRow_setCell_below ?_ (by first | omega | (simp; omega) | simp) _
      | refine World.ownsRow.alloc ?_ _)
  · repeat (first
      | exact Below.refl _ _
      | exact hb1
      | refine Below.drew ?_
      | refine below_drewN ?_ _
      | refine below_drewN ?_ _
      | refine Below.alloc ?_ (by first | omega | (simp; omega) | simp) _
      | refine Below.setCell ?_ (by first | omega | (simp; omega) | simp) _
      | refine Below.trans ?_ (hb1.mono (by first | omega | (simp; omega) | simp)))
set_option maxHeartbeats 1000000 in
theorem send_sample (k f t s d l now : Int) (v : Value) (L : List Msg) (body : ByteArray) (w : World) (h : RowM w v L) (hm : L.length ≤ 5864062014700) (hb : (body.size : Int) ≤ s) (hbs : body.size ≤ 9223372036854775807) (hk : (k == 1) = true) :
    Calls Try.prog 11 #[chanV k f t s d, boxV v l, .int .u64 now, .string body] w (RetSend [(now, body)] l 0 w.heap.size w) := by
  obtain ⟨A, cap, rfl, hnc, hcm⟩ := Sl.slice h
  have H := Lib.hid h
  clear h
  go_enter Try.func11, Try.ntmps11
  obtain ⟨i0, hi, hzz⟩ := Option.map_eq_some_iff.1 infoMsg
  simp only [Prod.mk.injEq] at hzz
  obtain ⟨hz0, hz1, hz2⟩ := hzz
  have HI := Lib.hid (And.intro hi (And.intro hz0 (And.intro hz1 hz2)))
  clear hi hz0 hz1 hz2
  go_wp2_with (at_builtin; refine wpList_app_tight _ rfl _ _ 24 rfl 37 i0 _ 2 24 Try.underlying24 HI.out.1 HI.out.2.1 HI.out.2.2.1 HI.out.2.2.2 rfl (by decide) none 0 [] rfl ?c1 (.slice (some ⟨w.heap.size + 1 + 1 + 1, 0, none⟩) 1 1) 1 (msgC (now, body)) rfl ?c2 ?c3 (by decide) ?c4 ?c5 ?_)
  case c1 => exact Sl.nil _ _
  case c2 => exact sl_new (by simp) rfl
  case c3 => exact fun u hu => msgC_one [(now, body)] u (by simpa using hu)
  case c4 => unfold maxLen; omega
  case c5 => omega
  intro v1 w1 hown hb1
  obtain ⟨A1, cap1, rfl, _, _⟩ := (Sl.of_own hown).slice
  have HO := Lib.hid hown
  clear hown
  obtain ⟨hc1, hf1⟩ := bcell hb1
  have s1 := hb1.size
  simp at s1
  go_wp2
  refine bodyPost_ret (v := .tuple #[boxV (.slice A1 1 cap1) l, .int .i64 0]) (by simp [results, Try.results11, go_sem, *]) rfl ⟨A1, cap1, by simp, ?_, ?_⟩
  · refine own_mono (base := w.heap.size + 1 + 1 + 1 + 1) (v := .slice A1 1 cap1) (n := 1) (xs := msgC (now, body)) ?_ (by omega) (by simp) (by simp) (by simp)
    have HR2 := HO.out
    repeat (first
      | with_reducible exact HR2
      | refine ownsRow_setCell_below ?_ (by first | omega | (simp; omega) | simp) _
      | refine World.ownsRow.alloc ?_ _)
  · repeat (first
      | exact Below.refl _ _
      | exact hb1
      | refine Below.drew ?_
      | refine below_drewN ?_ _
      | refine below_drewN ?_ _
      | refine Below.alloc ?_ (by first | omega | (simp; omega) | simp) _
      | refine Below.setCell ?_ (by first | omega | (simp; omega) | simp) _
      | refine Below.trans ?_ (hb1.mono (by first | omega | (simp; omega) | simp)))
set_option maxHeartbeats 1000000 in
theorem send_full (k f t s d l now : Int) (v : Value) (L : List Msg) (body : ByteArray) (w : World) (h : RowM w v L) (hm : L.length ≤ 5864062014805) (hb : (body.size : Int) ≤ s) (hbs : body.size ≤ 9223372036854775807) (hk : (k == 1) = false) (hd : d ≤ (L.length : Int)) :
    Calls Try.prog 11 #[chanV k f t s d, boxV v l, .int .u64 now, .string body] w (RetSend L (wrap64 (l + 1)) 0 w.heap.size w) := by
  obtain ⟨A, cap, rfl, _, _⟩ := Sl.slice h
  have H := Lib.hid h
  clear h
  go_enter Try.func11, Try.ntmps11
  go_wp2_with fail
  refine (own_any _ _ L l _ (H.out.below ((((Below.refl _ _).alloc (Nat.le_refl _) _).alloc (by simp) _).alloc (by simp; omega) _)) hm).mono ?_
  rintro e w1 ⟨A1, cap1, rfl, hr1, hb1⟩
  have HR := Lib.hid hr1
  clear hr1
  obtain ⟨hc1, hf1⟩ := bcell hb1
  have s1 := hb1.size
  simp at s1
  have t1 : w1.cell? ⟨w.heap.size + 1, 1, none⟩ = some (.int .i64 l) := by go_simp
  have t2 : ((w1.setCell ⟨w.heap.size + 1, 0, none⟩ (.slice A1 L.length cap1)).setCell ⟨w.heap.size + 1, 1, none⟩ (.int .i64 l)).cell? ⟨w.heap.size + 1, 1, none⟩ = some (.int .i64 l) := by go_simp
  have t3 := World.cell?_setCell_same _ _ (.int .i64 (wrap64 (l + 1))) t2
  go_wp2
  refine bodyPost_ret (v := .tuple #[boxV (.slice A1 L.length cap1) (wrap64 (l + 1)), .int .i64 0]) (by simp [results, Try.results11, go_sem, *]) rfl ⟨A1, cap1, rfl, ?_, ?_⟩
  · refine World.ownsRow.mono (base := w.heap.size + 1 + 1 + 1) ?_ (by omega)
    have HR2 := HR.out
    unfold OwnM at HR2
    simp only [size_alloc] at HR2
    repeat (first
      | with_reducible exact HR2
      | refine ownsRow_setCell_below ?_ (by first | omega | (simp; omega) | simp) _
      | refine World.ownsRow.alloc ?_ _)
  · repeat (first
      | exact Below.refl _ _
      | exact hb1
      | refine Below.drew ?_
      | refine below_drewN ?_ _
      | refine below_drewN ?_ _
      | refine Below.alloc ?_ (by first | omega | (simp; omega) | simp) _
      | refine Below.setCell ?_ (by first | omega | (simp; omega) | simp) _
      | refine Below.trans ?_ (hb1.mono (by first | omega | (simp; omega) | simp)))
end Go.Proofs.Ytecpnblhhjndgaa
