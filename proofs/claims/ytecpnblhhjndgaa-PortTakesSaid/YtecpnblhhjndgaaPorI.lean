/- PortTakes, walked. -/
import Derived.Test.YtecpnblhhjndgaaPorH
namespace Go.Proofs.Ytecpnblhhjndgaa
open Go.RowKit
set_option linter.unusedVariables false

set_option maxHeartbeats 4000000 in
theorem takes_none (k f t s d : Int) (v : Value) (l : Int) (w : World) (h : RowM w v [])  :
    Calls Try.prog 8 #[chanV k f t s d, boxV v l] w fun e w' => e = .returned (.bool true) ∧ Below w.heap.size w w' := by
  obtain ⟨A, cap, rfl, hnc, _⟩ := Sl.slice h
  have H := Lib.hid (SlI.of_sl h)
  clear h
  have heq := @eql_msg
  have hself := @msgEq_self
  go_enter Try.func8, Try.ntmps8
  go_wp2_with fail
  refine (shown_any _).mono ?_
  rintro e w1 ⟨rfl, hb1⟩
  obtain ⟨hc1, hf1⟩ := bcell hb1
  have s1 := hb1.size
  try simp at s1
  try have hd1 := fun b o (h : b < w.heap.size) => hc1 b o (by first | omega | (simp; omega) | simp)
  try have he1 := fun b o (h : b < w.heap.size) => hf1 b o (by first | omega | (simp; omega) | simp)
  try have z1_0 : w.heap.size < w1.heap.size := by omega
  try have z1_1 : w.heap.size + 1 < w1.heap.size := by omega
  try have z1_2 : w.heap.size + 1 + 1 < w1.heap.size := by omega
  try have z1_3 : w.heap.size + 1 + 1 + 1 < w1.heap.size := by omega
  have c1_wheapsize_0 : w1.cell? ⟨w.heap.size, 0, none⟩ = some (.int .i64 k) := by go_simp
  have f1_wheapsize_0 : w1.frozen? ⟨w.heap.size, 0, none⟩ = false := by go_simp
  have c1_wheapsize_1 : w1.cell? ⟨w.heap.size, 1, none⟩ = some (.int .i64 f) := by go_simp
  have f1_wheapsize_1 : w1.frozen? ⟨w.heap.size, 1, none⟩ = false := by go_simp
  have c1_wheapsize_2 : w1.cell? ⟨w.heap.size, 2, none⟩ = some (.int .i64 t) := by go_simp
  have f1_wheapsize_2 : w1.frozen? ⟨w.heap.size, 2, none⟩ = false := by go_simp
  have c1_wheapsize_3 : w1.cell? ⟨w.heap.size, 3, none⟩ = some (.int .i64 s) := by go_simp
  have f1_wheapsize_3 : w1.frozen? ⟨w.heap.size, 3, none⟩ = false := by go_simp
  have c1_wheapsize_4 : w1.cell? ⟨w.heap.size, 4, none⟩ = some (.int .i64 d) := by go_simp
  have f1_wheapsize_4 : w1.frozen? ⟨w.heap.size, 4, none⟩ = false := by go_simp
  have c1_wheapsize1_0 : w1.cell? ⟨w.heap.size + 1, 0, none⟩ = some (.slice A 0 cap) := by go_simp
  have f1_wheapsize1_0 : w1.frozen? ⟨w.heap.size + 1, 0, none⟩ = false := by go_simp
  have c1_wheapsize1_1 : w1.cell? ⟨w.heap.size + 1, 1, none⟩ = some (.int .i64 l) := by go_simp
  have f1_wheapsize1_1 : w1.frozen? ⟨w.heap.size + 1, 1, none⟩ = false := by go_simp
  clear hc1 hf1
  try clear hd1 he1
  go_wp2_with fail
  refine (peek_none k f t s d l _ _ (by refine SlI.ex ⟨?lo1, ?hi1, ?main1⟩; case main1 => ((repeat (first | with_reducible exact H.out | with_reducible refine SlI.setCell ?_ ?_ _ | with_reducible refine SlI.alloc ?_ _ | with_reducible refine SlI.drew ?_ | with_reducible refine SlI.drewN ?_ _ | with_reducible refine SlI.below ?_ hb1 ?_ | exact H.out)); all_goals first | omega | (simp; omega) | simp))).mono ?_
  rintro e w2 ⟨rfl, hb2⟩
  obtain ⟨hc2, hf2⟩ := bcell hb2
  have s2 := hb2.size
  try simp at s2
  try have hd2 := fun b o (h : b < w1.heap.size) => hc2 b o (by first | omega | (simp; omega) | simp)
  try have he2 := fun b o (h : b < w1.heap.size) => hf2 b o (by first | omega | (simp; omega) | simp)
  try have z2_0 : w.heap.size < w2.heap.size := by omega
  try have z2_1 : w.heap.size + 1 < w2.heap.size := by omega
  try have z2_2 : w.heap.size + 1 + 1 < w2.heap.size := by omega
  try have z2_3 : w.heap.size + 1 + 1 + 1 < w2.heap.size := by omega
  try have z2_4 : w1.heap.size < w2.heap.size := by omega
  try have z2_5 : w1.heap.size + 1 < w2.heap.size := by omega
  have c2_wheapsize_0 : w2.cell? ⟨w.heap.size, 0, none⟩ = some (.int .i64 k) := by go_simp
  have f2_wheapsize_0 : w2.frozen? ⟨w.heap.size, 0, none⟩ = false := by go_simp
  have c2_wheapsize_1 : w2.cell? ⟨w.heap.size, 1, none⟩ = some (.int .i64 f) := by go_simp
  have f2_wheapsize_1 : w2.frozen? ⟨w.heap.size, 1, none⟩ = false := by go_simp
  have c2_wheapsize_2 : w2.cell? ⟨w.heap.size, 2, none⟩ = some (.int .i64 t) := by go_simp
  have f2_wheapsize_2 : w2.frozen? ⟨w.heap.size, 2, none⟩ = false := by go_simp
  have c2_wheapsize_3 : w2.cell? ⟨w.heap.size, 3, none⟩ = some (.int .i64 s) := by go_simp
  have f2_wheapsize_3 : w2.frozen? ⟨w.heap.size, 3, none⟩ = false := by go_simp
  have c2_wheapsize_4 : w2.cell? ⟨w.heap.size, 4, none⟩ = some (.int .i64 d) := by go_simp
  have f2_wheapsize_4 : w2.frozen? ⟨w.heap.size, 4, none⟩ = false := by go_simp
  have c2_wheapsize1_0 : w2.cell? ⟨w.heap.size + 1, 0, none⟩ = some (.slice A 0 cap) := by go_simp
  have f2_wheapsize1_0 : w2.frozen? ⟨w.heap.size + 1, 0, none⟩ = false := by go_simp
  have c2_wheapsize1_1 : w2.cell? ⟨w.heap.size + 1, 1, none⟩ = some (.int .i64 l) := by go_simp
  have f2_wheapsize1_1 : w2.frozen? ⟨w.heap.size + 1, 1, none⟩ = false := by go_simp
  clear hc2 hf2
  try clear hd2 he2
  go_wp2_with fail
  refine (take_none k f t s d l _ _ (by refine SlI.ex ⟨?lo2, ?hi2, ?main2⟩; case main2 => ((repeat (first | with_reducible exact H.out | with_reducible refine SlI.setCell ?_ ?_ _ | with_reducible refine SlI.alloc ?_ _ | with_reducible refine SlI.drew ?_ | with_reducible refine SlI.drewN ?_ _ | with_reducible refine SlI.below ?_ hb2 ?_ | with_reducible refine SlI.below ?_ hb1 ?_ | exact H.out)); all_goals first | omega | (simp; omega) | simp))).mono ?_
  rintro e w3 ⟨A3, cap3, rfl, hr3, hb3⟩
  have HR3 := Lib.hid (SlI.of_own (OwnM.own hr3))
  clear hr3
  obtain ⟨hc3, hf3⟩ := bcell hb3
  have s3 := hb3.size
  try simp at s3
  try have hd3 := fun b o (h : b < w2.heap.size) => hc3 b o (by first | omega | (simp; omega) | simp)
  try have he3 := fun b o (h : b < w2.heap.size) => hf3 b o (by first | omega | (simp; omega) | simp)
  try have z3_0 : w.heap.size < w3.heap.size := by omega
  try have z3_1 : w.heap.size + 1 < w3.heap.size := by omega
  try have z3_2 : w.heap.size + 1 + 1 < w3.heap.size := by omega
  try have z3_3 : w.heap.size + 1 + 1 + 1 < w3.heap.size := by omega
  try have z3_4 : w1.heap.size < w3.heap.size := by omega
  try have z3_5 : w2.heap.size < w3.heap.size := by omega
  try have z3_6 : w1.heap.size + 1 < w3.heap.size := by omega
  try have z3_7 : w2.heap.size + 1 < w3.heap.size := by omega
  try have n3_1 : ¬ w3.heap.size = w1.heap.size := by omega
  try have n3_2 : ¬ w3.heap.size = w2.heap.size := by omega
  try have m3_1 : ¬ w1.heap.size = w3.heap.size := by omega
  try have m3_2 : ¬ w2.heap.size = w3.heap.size := by omega
  have c3_wheapsize_0 : w3.cell? ⟨w.heap.size, 0, none⟩ = some (.int .i64 k) := by go_simp
  have f3_wheapsize_0 : w3.frozen? ⟨w.heap.size, 0, none⟩ = false := by go_simp
  have c3_wheapsize_1 : w3.cell? ⟨w.heap.size, 1, none⟩ = some (.int .i64 f) := by go_simp
  have f3_wheapsize_1 : w3.frozen? ⟨w.heap.size, 1, none⟩ = false := by go_simp
  have c3_wheapsize_2 : w3.cell? ⟨w.heap.size, 2, none⟩ = some (.int .i64 t) := by go_simp
  have f3_wheapsize_2 : w3.frozen? ⟨w.heap.size, 2, none⟩ = false := by go_simp
  have c3_wheapsize_3 : w3.cell? ⟨w.heap.size, 3, none⟩ = some (.int .i64 s) := by go_simp
  have f3_wheapsize_3 : w3.frozen? ⟨w.heap.size, 3, none⟩ = false := by go_simp
  have c3_wheapsize_4 : w3.cell? ⟨w.heap.size, 4, none⟩ = some (.int .i64 d) := by go_simp
  have f3_wheapsize_4 : w3.frozen? ⟨w.heap.size, 4, none⟩ = false := by go_simp
  have c3_wheapsize1_0 : w3.cell? ⟨w.heap.size + 1, 0, none⟩ = some (.slice A 0 cap) := by go_simp
  have f3_wheapsize1_0 : w3.frozen? ⟨w.heap.size + 1, 0, none⟩ = false := by go_simp
  have c3_wheapsize1_1 : w3.cell? ⟨w.heap.size + 1, 1, none⟩ = some (.int .i64 l) := by go_simp
  have f3_wheapsize1_1 : w3.frozen? ⟨w.heap.size + 1, 1, none⟩ = false := by go_simp
  have c3_w2heapsize_0 : w3.cell? ⟨w2.heap.size, 0, none⟩ = some (.int .u64 0) := by go_simp
  have f3_w2heapsize_0 : w3.frozen? ⟨w2.heap.size, 0, none⟩ = false := by go_simp
  have c3_w2heapsize_1 : w3.cell? ⟨w2.heap.size, 1, none⟩ = some (.string ⟨#[]⟩) := by go_simp
  have f3_w2heapsize_1 : w3.frozen? ⟨w2.heap.size, 1, none⟩ = false := by go_simp
  clear hc3 hf3
  try clear hd3 he3
  go_wp2_with fail
  refine (same_any _ _ l l [] [] _ (by refine SlI.ex ⟨?lo3, ?hi3, ?main3⟩; case main3 => ((repeat (first | with_reducible exact HR3.out | with_reducible refine SlI.setCell ?_ ?_ _ | with_reducible refine SlI.alloc ?_ _ | with_reducible refine SlI.drew ?_ | with_reducible refine SlI.drewN ?_ _ | exact HR3.out)); all_goals first | omega | (simp; omega) | simp)) (by refine SlI.ex ⟨?lo4, ?hi4, ?main4⟩; case main4 => ((repeat (first | with_reducible exact H.out | with_reducible refine SlI.setCell ?_ ?_ _ | with_reducible refine SlI.alloc ?_ _ | with_reducible refine SlI.drew ?_ | with_reducible refine SlI.drewN ?_ _ | with_reducible refine SlI.below ?_ hb3 ?_ | with_reducible refine SlI.below ?_ hb2 ?_ | with_reducible refine SlI.below ?_ hb1 ?_ | exact H.out)); all_goals first | omega | (simp; omega) | simp)) (by decide) (by decide)).mono ?_
  rintro e w4 ⟨rfl, hb4⟩
  obtain ⟨hc4, hf4⟩ := bcell hb4
  have s4 := hb4.size
  try simp at s4
  try have hd4 := fun b o (h : b < w3.heap.size) => hc4 b o (by first | omega | (simp; omega) | simp)
  try have he4 := fun b o (h : b < w3.heap.size) => hf4 b o (by first | omega | (simp; omega) | simp)
  try have z4_0 : w.heap.size < w4.heap.size := by omega
  try have z4_1 : w.heap.size + 1 < w4.heap.size := by omega
  try have z4_2 : w.heap.size + 1 + 1 < w4.heap.size := by omega
  try have z4_3 : w.heap.size + 1 + 1 + 1 < w4.heap.size := by omega
  try have z4_4 : w1.heap.size < w4.heap.size := by omega
  try have z4_5 : w2.heap.size < w4.heap.size := by omega
  try have z4_6 : w3.heap.size < w4.heap.size := by omega
  try have z4_7 : w1.heap.size + 1 < w4.heap.size := by omega
  try have z4_8 : w2.heap.size + 1 < w4.heap.size := by omega
  try have z4_9 : w3.heap.size + 1 < w4.heap.size := by omega
  have c4_w3heapsize1_0 : w4.cell? ⟨w3.heap.size + 1, 0, none⟩ = some (.int .u64 0) := by go_simp
  have f4_w3heapsize1_0 : w4.frozen? ⟨w3.heap.size + 1, 0, none⟩ = false := by go_simp
  have c4_w3heapsize1_1 : w4.cell? ⟨w3.heap.size + 1, 1, none⟩ = some (.string ⟨#[]⟩) := by go_simp
  have f4_w3heapsize1_1 : w4.frozen? ⟨w3.heap.size + 1, 1, none⟩ = false := by go_simp
  clear hc4 hf4
  try clear hd4 he4
  go_wp2
  go_ret
  refine ⟨ret_bool (by simp), ?_⟩
  repeat (first
    | exact Below.refl _ _
    | exact hb1
    | exact hb2
    | exact hb3
    | exact hb4
    | refine Below.drew ?_
    | refine below_drewN ?_ _
    | refine below_drewN ?_ _
    | refine Below.alloc ?_ (by first | omega | (simp; omega) | simp) _
    | refine Below.setCell ?_ (by first | omega | (simp; omega) | simp) _
    | refine Below.trans ?_ (hb4.mono (by first | omega | (simp; omega) | simp))
    | refine Below.trans ?_ (hb3.mono (by first | omega | (simp; omega) | simp))
    | refine Below.trans ?_ (hb2.mono (by first | omega | (simp; omega) | simp))
    | refine Below.trans ?_ (hb1.mono (by first | omega | (simp; omega) | simp)))

set_option maxHeartbeats 4000000 in
theorem takes_sample (k f t s d : Int) (v : Value) (l : Int) (L : List Msg) (w : World) (h : RowM w v L) (hm : L.length ≤ 5864062014700) (x : Msg) (hx : L[0]? = some x) (hk : (k == 1) = true) :
    Calls Try.prog 8 #[chanV k f t s d, boxV v l] w fun e w' => e = .returned (.bool true) ∧ Below w.heap.size w w' := by
  obtain ⟨A, cap, rfl, hnc, _⟩ := Sl.slice h
  have H := Lib.hid (SlI.of_sl h)
  clear h
  have HX := Lib.hid hx
  clear hx
  have heq := @eql_msg
  have hne := @neq_msg
  have hself := @msgEq_self
  go_enter Try.func8, Try.ntmps8
  go_wp2_with fail
  refine (shown_any _).mono ?_
  rintro e w1 ⟨rfl, hb1⟩
  obtain ⟨hc1, hf1⟩ := bcell hb1
  have s1 := hb1.size
  try simp at s1
  try have hd1 := fun b o (h : b < w.heap.size) => hc1 b o (by first | omega | (simp; omega) | simp)
  try have he1 := fun b o (h : b < w.heap.size) => hf1 b o (by first | omega | (simp; omega) | simp)
  try have z1_0 : w.heap.size < w1.heap.size := by omega
  try have z1_1 : w.heap.size + 1 < w1.heap.size := by omega
  try have z1_2 : w.heap.size + 1 + 1 < w1.heap.size := by omega
  try have z1_3 : w.heap.size + 1 + 1 + 1 < w1.heap.size := by omega
  have c1_wheapsize_0 : w1.cell? ⟨w.heap.size, 0, none⟩ = some (.int .i64 k) := by go_simp
  have f1_wheapsize_0 : w1.frozen? ⟨w.heap.size, 0, none⟩ = false := by go_simp
  have c1_wheapsize_1 : w1.cell? ⟨w.heap.size, 1, none⟩ = some (.int .i64 f) := by go_simp
  have f1_wheapsize_1 : w1.frozen? ⟨w.heap.size, 1, none⟩ = false := by go_simp
  have c1_wheapsize_2 : w1.cell? ⟨w.heap.size, 2, none⟩ = some (.int .i64 t) := by go_simp
  have f1_wheapsize_2 : w1.frozen? ⟨w.heap.size, 2, none⟩ = false := by go_simp
  have c1_wheapsize_3 : w1.cell? ⟨w.heap.size, 3, none⟩ = some (.int .i64 s) := by go_simp
  have f1_wheapsize_3 : w1.frozen? ⟨w.heap.size, 3, none⟩ = false := by go_simp
  have c1_wheapsize_4 : w1.cell? ⟨w.heap.size, 4, none⟩ = some (.int .i64 d) := by go_simp
  have f1_wheapsize_4 : w1.frozen? ⟨w.heap.size, 4, none⟩ = false := by go_simp
  have c1_wheapsize1_0 : w1.cell? ⟨w.heap.size + 1, 0, none⟩ = some (.slice A L.length cap) := by go_simp
  have f1_wheapsize1_0 : w1.frozen? ⟨w.heap.size + 1, 0, none⟩ = false := by go_simp
  have c1_wheapsize1_1 : w1.cell? ⟨w.heap.size + 1, 1, none⟩ = some (.int .i64 l) := by go_simp
  have f1_wheapsize1_1 : w1.frozen? ⟨w.heap.size + 1, 1, none⟩ = false := by go_simp
  clear hc1 hf1
  try clear hd1 he1
  go_wp2_with fail
  refine (peek_some k f t s d l _ x L _ (by refine SlI.ex ⟨?lo5, ?hi5, ?main5⟩; case main5 => ((repeat (first | with_reducible exact H.out | with_reducible refine SlI.setCell ?_ ?_ _ | with_reducible refine SlI.alloc ?_ _ | with_reducible refine SlI.drew ?_ | with_reducible refine SlI.drewN ?_ _ | with_reducible refine SlI.below ?_ hb1 ?_ | exact H.out)); all_goals first | omega | (simp; omega) | simp)) (by omega) HX.out).mono ?_
  rintro e w2 ⟨rfl, hb2⟩
  obtain ⟨hc2, hf2⟩ := bcell hb2
  have s2 := hb2.size
  try simp at s2
  try have hd2 := fun b o (h : b < w1.heap.size) => hc2 b o (by first | omega | (simp; omega) | simp)
  try have he2 := fun b o (h : b < w1.heap.size) => hf2 b o (by first | omega | (simp; omega) | simp)
  try have z2_0 : w.heap.size < w2.heap.size := by omega
  try have z2_1 : w.heap.size + 1 < w2.heap.size := by omega
  try have z2_2 : w.heap.size + 1 + 1 < w2.heap.size := by omega
  try have z2_3 : w.heap.size + 1 + 1 + 1 < w2.heap.size := by omega
  try have z2_4 : w1.heap.size < w2.heap.size := by omega
  try have z2_5 : w1.heap.size + 1 < w2.heap.size := by omega
  have c2_wheapsize_0 : w2.cell? ⟨w.heap.size, 0, none⟩ = some (.int .i64 k) := by go_simp
  have f2_wheapsize_0 : w2.frozen? ⟨w.heap.size, 0, none⟩ = false := by go_simp
  have c2_wheapsize_1 : w2.cell? ⟨w.heap.size, 1, none⟩ = some (.int .i64 f) := by go_simp
  have f2_wheapsize_1 : w2.frozen? ⟨w.heap.size, 1, none⟩ = false := by go_simp
  have c2_wheapsize_2 : w2.cell? ⟨w.heap.size, 2, none⟩ = some (.int .i64 t) := by go_simp
  have f2_wheapsize_2 : w2.frozen? ⟨w.heap.size, 2, none⟩ = false := by go_simp
  have c2_wheapsize_3 : w2.cell? ⟨w.heap.size, 3, none⟩ = some (.int .i64 s) := by go_simp
  have f2_wheapsize_3 : w2.frozen? ⟨w.heap.size, 3, none⟩ = false := by go_simp
  have c2_wheapsize_4 : w2.cell? ⟨w.heap.size, 4, none⟩ = some (.int .i64 d) := by go_simp
  have f2_wheapsize_4 : w2.frozen? ⟨w.heap.size, 4, none⟩ = false := by go_simp
  have c2_wheapsize1_0 : w2.cell? ⟨w.heap.size + 1, 0, none⟩ = some (.slice A L.length cap) := by go_simp
  have f2_wheapsize1_0 : w2.frozen? ⟨w.heap.size + 1, 0, none⟩ = false := by go_simp
  have c2_wheapsize1_1 : w2.cell? ⟨w.heap.size + 1, 1, none⟩ = some (.int .i64 l) := by go_simp
  have f2_wheapsize1_1 : w2.frozen? ⟨w.heap.size + 1, 1, none⟩ = false := by go_simp
  clear hc2 hf2
  try clear hd2 he2
  go_wp2_with fail
  refine (take_sample k f t s d l _ x L _ (by refine SlI.ex ⟨?lo6, ?hi6, ?main6⟩; case main6 => ((repeat (first | with_reducible exact H.out | with_reducible refine SlI.setCell ?_ ?_ _ | with_reducible refine SlI.alloc ?_ _ | with_reducible refine SlI.drew ?_ | with_reducible refine SlI.drewN ?_ _ | with_reducible refine SlI.below ?_ hb2 ?_ | with_reducible refine SlI.below ?_ hb1 ?_ | exact H.out)); all_goals first | omega | (simp; omega) | simp)) (by omega) HX.out hk).mono ?_
  rintro e w3 ⟨A3, cap3, rfl, hr3, hb3⟩
  have HR3 := Lib.hid (SlI.of_own (OwnM.own hr3))
  clear hr3
  obtain ⟨hc3, hf3⟩ := bcell hb3
  have s3 := hb3.size
  try simp at s3
  try have hd3 := fun b o (h : b < w2.heap.size) => hc3 b o (by first | omega | (simp; omega) | simp)
  try have he3 := fun b o (h : b < w2.heap.size) => hf3 b o (by first | omega | (simp; omega) | simp)
  try have z3_0 : w.heap.size < w3.heap.size := by omega
  try have z3_1 : w.heap.size + 1 < w3.heap.size := by omega
  try have z3_2 : w.heap.size + 1 + 1 < w3.heap.size := by omega
  try have z3_3 : w.heap.size + 1 + 1 + 1 < w3.heap.size := by omega
  try have z3_4 : w1.heap.size < w3.heap.size := by omega
  try have z3_5 : w2.heap.size < w3.heap.size := by omega
  try have z3_6 : w1.heap.size + 1 < w3.heap.size := by omega
  try have z3_7 : w2.heap.size + 1 < w3.heap.size := by omega
  try have n3_1 : ¬ w3.heap.size = w1.heap.size := by omega
  try have n3_2 : ¬ w3.heap.size = w2.heap.size := by omega
  try have m3_1 : ¬ w1.heap.size = w3.heap.size := by omega
  try have m3_2 : ¬ w2.heap.size = w3.heap.size := by omega
  have c3_wheapsize_0 : w3.cell? ⟨w.heap.size, 0, none⟩ = some (.int .i64 k) := by go_simp
  have f3_wheapsize_0 : w3.frozen? ⟨w.heap.size, 0, none⟩ = false := by go_simp
  have c3_wheapsize_1 : w3.cell? ⟨w.heap.size, 1, none⟩ = some (.int .i64 f) := by go_simp
  have f3_wheapsize_1 : w3.frozen? ⟨w.heap.size, 1, none⟩ = false := by go_simp
  have c3_wheapsize_2 : w3.cell? ⟨w.heap.size, 2, none⟩ = some (.int .i64 t) := by go_simp
  have f3_wheapsize_2 : w3.frozen? ⟨w.heap.size, 2, none⟩ = false := by go_simp
  have c3_wheapsize_3 : w3.cell? ⟨w.heap.size, 3, none⟩ = some (.int .i64 s) := by go_simp
  have f3_wheapsize_3 : w3.frozen? ⟨w.heap.size, 3, none⟩ = false := by go_simp
  have c3_wheapsize_4 : w3.cell? ⟨w.heap.size, 4, none⟩ = some (.int .i64 d) := by go_simp
  have f3_wheapsize_4 : w3.frozen? ⟨w.heap.size, 4, none⟩ = false := by go_simp
  have c3_wheapsize1_0 : w3.cell? ⟨w.heap.size + 1, 0, none⟩ = some (.slice A L.length cap) := by go_simp
  have f3_wheapsize1_0 : w3.frozen? ⟨w.heap.size + 1, 0, none⟩ = false := by go_simp
  have c3_wheapsize1_1 : w3.cell? ⟨w.heap.size + 1, 1, none⟩ = some (.int .i64 l) := by go_simp
  have f3_wheapsize1_1 : w3.frozen? ⟨w.heap.size + 1, 1, none⟩ = false := by go_simp
  have c3_w2heapsize_0 : w3.cell? ⟨w2.heap.size, 0, none⟩ = some (.int .u64 x.1) := by go_simp
  have f3_w2heapsize_0 : w3.frozen? ⟨w2.heap.size, 0, none⟩ = false := by go_simp
  have c3_w2heapsize_1 : w3.cell? ⟨w2.heap.size, 1, none⟩ = some (.string x.2) := by go_simp
  have f3_w2heapsize_1 : w3.frozen? ⟨w2.heap.size, 1, none⟩ = false := by go_simp
  clear hc3 hf3
  try clear hd3 he3
  go_wp2_with fail
  refine (same_any _ _ l l L L _ (by refine SlI.ex ⟨?lo7, ?hi7, ?main7⟩; case main7 => ((repeat (first | with_reducible exact HR3.out | with_reducible refine SlI.setCell ?_ ?_ _ | with_reducible refine SlI.alloc ?_ _ | with_reducible refine SlI.drew ?_ | with_reducible refine SlI.drewN ?_ _ | exact HR3.out)); all_goals first | omega | (simp; omega) | simp)) (by refine SlI.ex ⟨?lo8, ?hi8, ?main8⟩; case main8 => ((repeat (first | with_reducible exact H.out | with_reducible refine SlI.setCell ?_ ?_ _ | with_reducible refine SlI.alloc ?_ _ | with_reducible refine SlI.drew ?_ | with_reducible refine SlI.drewN ?_ _ | with_reducible refine SlI.below ?_ hb3 ?_ | with_reducible refine SlI.below ?_ hb2 ?_ | with_reducible refine SlI.below ?_ hb1 ?_ | exact H.out)); all_goals first | omega | (simp; omega) | simp)) (by omega) (by omega)).mono ?_
  rintro e w4 ⟨rfl, hb4⟩
  obtain ⟨hc4, hf4⟩ := bcell hb4
  have s4 := hb4.size
  try simp at s4
  try have hd4 := fun b o (h : b < w3.heap.size) => hc4 b o (by first | omega | (simp; omega) | simp)
  try have he4 := fun b o (h : b < w3.heap.size) => hf4 b o (by first | omega | (simp; omega) | simp)
  try have z4_0 : w.heap.size < w4.heap.size := by omega
  try have z4_1 : w.heap.size + 1 < w4.heap.size := by omega
  try have z4_2 : w.heap.size + 1 + 1 < w4.heap.size := by omega
  try have z4_3 : w.heap.size + 1 + 1 + 1 < w4.heap.size := by omega
  try have z4_4 : w1.heap.size < w4.heap.size := by omega
  try have z4_5 : w2.heap.size < w4.heap.size := by omega
  try have z4_6 : w3.heap.size < w4.heap.size := by omega
  try have z4_7 : w1.heap.size + 1 < w4.heap.size := by omega
  try have z4_8 : w2.heap.size + 1 < w4.heap.size := by omega
  try have z4_9 : w3.heap.size + 1 < w4.heap.size := by omega
  go_wp2
  go_ret
  refine ⟨ret_bool (by simp), ?_⟩
  repeat (first
    | exact Below.refl _ _
    | exact hb1
    | exact hb2
    | exact hb3
    | exact hb4
    | refine Below.drew ?_
    | refine below_drewN ?_ _
    | refine below_drewN ?_ _
    | refine Below.alloc ?_ (by first | omega | (simp; omega) | simp) _
    | refine Below.setCell ?_ (by first | omega | (simp; omega) | simp) _
    | refine Below.trans ?_ (hb4.mono (by first | omega | (simp; omega) | simp))
    | refine Below.trans ?_ (hb3.mono (by first | omega | (simp; omega) | simp))
    | refine Below.trans ?_ (hb2.mono (by first | omega | (simp; omega) | simp))
    | refine Below.trans ?_ (hb1.mono (by first | omega | (simp; omega) | simp)))
end Go.Proofs.Ytecpnblhhjndgaa
