/- What Send answers, whatever the box; PortBlind, PortFull: walked. -/
import Derived.Test.YtecpnblhhjndgaaPorE
namespace Go.Proofs.Ytecpnblhhjndgaa
open Go.RowKit
set_option linter.unusedVariables false

/-- The result is some box, and this number. -/
def RetSome (n : Int) (B : Nat) (w : World) (e : Ending) (w' : World) : Prop := ∃ L A cap l, e = .returned (.tuple #[boxV (.slice A (List.length (α := Msg) L) cap) l, .int .i64 n]) ∧ OwnM w' B (.slice A L.length cap) L ∧ Below B w w'
theorem some_of {L : List Msg} {l n : Int} {B : Nat} {w : World} {e : Ending} {w' : World} (h : RetSend L l n B w e w') : RetSome n B w e w' := by
  obtain ⟨A, cap, h1, h2, h3⟩ := h
  exact ⟨L, A, cap, l, h1, h2, h3⟩
theorem send_some (k f t s d l now : Int) (v : Value) (L : List Msg) (body : ByteArray) (w : World) (h : RowM w v L) (hm : L.length ≤ 5864062014700) (hbs : body.size ≤ 9223372036854775807) (n : Int) (hn : n = if s < (body.size : Int) then 4 else 0) :
    Calls Try.prog 11 #[chanV k f t s d, boxV v l, .int .u64 now, .string body] w (RetSome n w.heap.size w) := by
  subst hn
  by_cases hb : s < (body.size : Int)
  · rw [if_pos hb]
    exact (send_big k f t s d l now v L body w h (by omega) hb hbs).mono fun e w' h => some_of h
  · rw [if_neg hb]
    by_cases hk : k = 1
    · exact (send_sample k f t s d l now v L body w h hm (by omega) hbs (by simpa using hk)).mono fun e w' h => some_of h
    · by_cases hd : (L.length : Int) < d
      · exact (send_queue k f t s d l now v L body w h hm (by omega) hbs (by simpa using hk) hd).mono fun e w' h => some_of h
      · exact (send_full k f t s d l now v L body w h (by omega) (by omega) hbs (by simpa using hk) (by omega)).mono fun e w' h => some_of h

abbrev blindV (k f t s d : Int) (v : Value) (l : Int) (v' : Value) (l' now then_ : Int) (body : ByteArray) : Value := .agg #[.int .i64 k, .int .i64 f, .int .i64 t, .int .i64 s, .int .i64 d, v, .int .i64 l, v', .int .i64 l', .int .u64 now, .int .u64 then_, .string body]
set_option maxHeartbeats 2000000 in
theorem blind_walk (k f t s d : Int) (v : Value) (l : Int) (v' : Value) (l' now then_ : Int) (body : ByteArray) (L L' : List Msg) (w : World) (h : RowM w v L) (h' : RowM w v' L') (hm : L.length ≤ 5864062014700) (hm' : L'.length ≤ 5864062014700) (hbs : body.size ≤ 9223372036854775807) :
    Calls Try.prog 4 #[blindV k f t s d v l v' l' now then_ body] w fun e w' => e = .returned (.bool true) ∧ Below w.heap.size w w' := by
  obtain ⟨A, cap, rfl, _, _⟩ := Sl.slice h
  obtain ⟨A', cap', rfl, _, _⟩ := Sl.slice h'
  have H := Lib.hid (SlI.of_sl h)
  have H' := Lib.hid (SlI.of_sl h')
  clear h h'
  by_cases hc : s < (body.size : Int)
  · have hn : Hid ((4 : Int) = if s < (body.size : Int) then 4 else 0) := (if_pos hc).symm
    have hd : decide ((body.size : Int) ≤ s) = false := by simpa using hc
    clear hc
    go_enter Try.func4, Try.ntmps4
    go_wp2_with fail
    refine (shown_any _).mono ?_
    rintro e w1 ⟨rfl, hb1⟩
    obtain ⟨hc1, hf1⟩ := bcell hb1
    have s1 := hb1.size
    try simp at s1
    try have hd1 := fun b o (h : b < w.heap.size) => hc1 b o (by first | omega | (simp; omega) | simp)
    try have he1 := fun b o (h : b < w.heap.size) => hf1 b o (by first | omega | (simp; omega) | simp)
    try have z1_0 : w.heap.size < w1.heap.size := by omega
    try have z1_1 : w.heap.size + 1 < w1.heap.size := by omega
    try have z1_2 : w.heap.size + 1 + 1 < w1.heap.size := by omega
    try have z1_3 : w.heap.size + 1 + 1 + 1 < w1.heap.size := by omega
    go_wp2_with fail
    have e1 : w1.cell? ⟨w.heap.size + 1, 0, none⟩ = some (.int .i64 k) := by go_simp
    have e2 : w1.cell? ⟨w.heap.size + 1, 1, none⟩ = some (.int .i64 f) := by go_simp
    have e3 : w1.cell? ⟨w.heap.size + 1, 2, none⟩ = some (.int .i64 t) := by go_simp
    have e4 : w1.cell? ⟨w.heap.size + 1, 3, none⟩ = some (.int .i64 s) := by go_simp
    have e5 : w1.cell? ⟨w.heap.size + 1, 4, none⟩ = some (.int .i64 d) := by go_simp
    have e6 : w1.cell? ⟨w.heap.size + 1 + 1 + 1, 0, none⟩ = some (.slice A' L'.length cap') := by go_simp
    have e7 : w1.cell? ⟨w.heap.size + 1 + 1 + 1, 1, none⟩ = some (.int .i64 l') := by go_simp
    refine (send_some k f t s d l now _ L body _ (by refine SlI.ex ⟨?lo1, ?hi1, ?main1⟩; case main1 => ((repeat (first | with_reducible exact H.out | with_reducible refine SlI.setCell ?_ ?_ _ | with_reducible refine SlI.alloc ?_ _ | with_reducible refine SlI.drew ?_ | with_reducible refine SlI.drewN ?_ _ | with_reducible refine SlI.below ?_ hb1 ?_ | exact H.out)); all_goals first | omega | (simp; omega) | simp)) hm hbs 4 hn.out).mono ?_
    rintro e w2 ⟨L2, A2, cap2, l2, rfl, hr2, hb2⟩
    have s2 := hb2.size
    try simp at s2
    obtain ⟨hc2, hf2⟩ := bcell hb2
    have z2 : w.heap.size + 1 + 1 + 1 < w2.heap.size := by omega
    have z3 : w.heap.size + 1 < w2.heap.size := by omega
    have e8 : w2.cell? ⟨w.heap.size + 1, 3, none⟩ = some (.int .i64 s) := by go_simp
    go_wp2_with fail
    refine (send_some k f t s d l' then_ _ L' body _ (by refine SlI.ex ⟨?lo2, ?hi2, ?main2⟩; case main2 => ((repeat (first | with_reducible exact H'.out | with_reducible refine SlI.setCell ?_ ?_ _ | with_reducible refine SlI.alloc ?_ _ | with_reducible refine SlI.drew ?_ | with_reducible refine SlI.drewN ?_ _ | with_reducible refine SlI.below ?_ hb2 ?_ | with_reducible refine SlI.below ?_ hb1 ?_ | exact H'.out)); all_goals first | omega | (simp; omega) | simp)) hm' hbs 4 hn.out).mono ?_
    rintro e w3 ⟨L3, A3, cap3, l3, rfl, hr3, hb3⟩
    have s3 := hb3.size
    try simp at s3
    obtain ⟨hc3, hf3⟩ := bcell hb3
    have z4 : w.heap.size + 1 < w3.heap.size := by omega
    have z5 : w.heap.size + 1 < w2.heap.size + 1 := by omega
    have z6 : w.heap.size + 1 < w2.heap.size + 1 + 1 := by omega
    have e9 : w3.cell? ⟨w.heap.size + 1, 3, none⟩ = some (.int .i64 s) := by go_simp
    go_wp2
    all_goals go_ret
    all_goals refine ⟨rfl, ?_⟩
    all_goals
      repeat (first
        | exact Below.refl _ _
        | exact hb1
        | exact hb2
        | exact hb3
        | refine Below.drew ?_
        | refine below_drewN ?_ _
        | refine below_drewN ?_ _
        | refine Below.alloc ?_ (by first | omega | (simp; omega) | simp) _
        | refine Below.setCell ?_ (by first | omega | (simp; omega) | simp) _
        | refine Below.trans ?_ (hb3.mono (by first | omega | (simp; omega) | simp))
        | refine Below.trans ?_ (hb2.mono (by first | omega | (simp; omega) | simp))
        | refine Below.trans ?_ (hb1.mono (by first | omega | (simp; omega) | simp)))
  · have hn : Hid ((0 : Int) = if s < (body.size : Int) then 4 else 0) := (if_neg hc).symm
    have hd : decide ((body.size : Int) ≤ s) = true := by simpa using hc
    clear hc
    go_enter Try.func4, Try.ntmps4
    go_wp2_with fail
    refine (shown_any _).mono ?_
    rintro e w1 ⟨rfl, hb1⟩
    obtain ⟨hc1, hf1⟩ := bcell hb1
    have s1 := hb1.size
    try simp at s1
    try have hd1 := fun b o (h : b < w.heap.size) => hc1 b o (by first | omega | (simp; omega) | simp)
    try have he1 := fun b o (h : b < w.heap.size) => hf1 b o (by first | omega | (simp; omega) | simp)
    try have z1_0 : w.heap.size < w1.heap.size := by omega
    try have z1_1 : w.heap.size + 1 < w1.heap.size := by omega
    try have z1_2 : w.heap.size + 1 + 1 < w1.heap.size := by omega
    try have z1_3 : w.heap.size + 1 + 1 + 1 < w1.heap.size := by omega
    go_wp2_with fail
    have e1 : w1.cell? ⟨w.heap.size + 1, 0, none⟩ = some (.int .i64 k) := by go_simp
    have e2 : w1.cell? ⟨w.heap.size + 1, 1, none⟩ = some (.int .i64 f) := by go_simp
    have e3 : w1.cell? ⟨w.heap.size + 1, 2, none⟩ = some (.int .i64 t) := by go_simp
    have e4 : w1.cell? ⟨w.heap.size + 1, 3, none⟩ = some (.int .i64 s) := by go_simp
    have e5 : w1.cell? ⟨w.heap.size + 1, 4, none⟩ = some (.int .i64 d) := by go_simp
    have e6 : w1.cell? ⟨w.heap.size + 1 + 1 + 1, 0, none⟩ = some (.slice A' L'.length cap') := by go_simp
    have e7 : w1.cell? ⟨w.heap.size + 1 + 1 + 1, 1, none⟩ = some (.int .i64 l') := by go_simp
    refine (send_some k f t s d l now _ L body _ (by refine SlI.ex ⟨?lo3, ?hi3, ?main3⟩; case main3 => ((repeat (first | with_reducible exact H.out | with_reducible refine SlI.setCell ?_ ?_ _ | with_reducible refine SlI.alloc ?_ _ | with_reducible refine SlI.drew ?_ | with_reducible refine SlI.drewN ?_ _ | with_reducible refine SlI.below ?_ hb1 ?_ | exact H.out)); all_goals first | omega | (simp; omega) | simp)) hm hbs 0 hn.out).mono ?_
    rintro e w2 ⟨L2, A2, cap2, l2, rfl, hr2, hb2⟩
    have s2 := hb2.size
    try simp at s2
    obtain ⟨hc2, hf2⟩ := bcell hb2
    have z2 : w.heap.size + 1 + 1 + 1 < w2.heap.size := by omega
    have z3 : w.heap.size + 1 < w2.heap.size := by omega
    have e8 : w2.cell? ⟨w.heap.size + 1, 3, none⟩ = some (.int .i64 s) := by go_simp
    go_wp2_with fail
    refine (send_some k f t s d l' then_ _ L' body _ (by refine SlI.ex ⟨?lo4, ?hi4, ?main4⟩; case main4 => ((repeat (first | with_reducible exact H'.out | with_reducible refine SlI.setCell ?_ ?_ _ | with_reducible refine SlI.alloc ?_ _ | with_reducible refine SlI.drew ?_ | with_reducible refine SlI.drewN ?_ _ | with_reducible refine SlI.below ?_ hb2 ?_ | with_reducible refine SlI.below ?_ hb1 ?_ | exact H'.out)); all_goals first | omega | (simp; omega) | simp)) hm' hbs 0 hn.out).mono ?_
    rintro e w3 ⟨L3, A3, cap3, l3, rfl, hr3, hb3⟩
    have s3 := hb3.size
    try simp at s3
    obtain ⟨hc3, hf3⟩ := bcell hb3
    have z4 : w.heap.size + 1 < w3.heap.size := by omega
    have z5 : w.heap.size + 1 < w2.heap.size + 1 := by omega
    have z6 : w.heap.size + 1 < w2.heap.size + 1 + 1 := by omega
    have e9 : w3.cell? ⟨w.heap.size + 1, 3, none⟩ = some (.int .i64 s) := by go_simp
    go_wp2
    all_goals go_ret
    all_goals refine ⟨rfl, ?_⟩
    all_goals
      repeat (first
        | exact Below.refl _ _
        | exact hb1
        | exact hb2
        | exact hb3
        | refine Below.drew ?_
        | refine below_drewN ?_ _
        | refine below_drewN ?_ _
        | refine Below.alloc ?_ (by first | omega | (simp; omega) | simp) _
        | refine Below.setCell ?_ (by first | omega | (simp; omega) | simp) _
        | refine Below.trans ?_ (hb3.mono (by first | omega | (simp; omega) | simp))
        | refine Below.trans ?_ (hb2.mono (by first | omega | (simp; omega) | simp))
        | refine Below.trans ?_ (hb1.mono (by first | omega | (simp; omega) | simp)))
end Go.Proofs.Ytecpnblhhjndgaa
