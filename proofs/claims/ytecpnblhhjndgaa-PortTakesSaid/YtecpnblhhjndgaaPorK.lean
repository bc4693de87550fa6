/- PortTakes, the queue's case. -/
import Derived.Test.YtecpnblhhjndgaaPorH
namespace Go.Proofs.Ytecpnblhhjndgaa
open Go.RowKit
set_option linter.unusedVariables false

theorem row_lenK {w : World} {lo hi n m cap : Nat} {A : Option Addr} {C : List Value} (h : SlI w lo hi 2 (.slice A n cap) n C) (e : n = m) : SlI w lo hi 2 (.slice A m cap) n C := by
  subst e
  exact h

set_option maxHeartbeats 4000000 in
theorem takes_more (k f t s d : Int) (v : Value) (l : Int) (L : List Msg) (w : World) (h : RowM w v L) (hm : L.length ≤ 5864062014700) (x : Msg) (hx : L[0]? = some x) (hk : (k == 1) = false) (b o cap : Nat) (hv : v = .slice (some ⟨b, o, none⟩) L.length cap) (hc : cap ≠ 1) (hnc : L.length ≤ cap) :
    Calls Try.prog 8 #[chanV k f t s d, boxV v l] w fun e w' => e = .returned (.bool true) ∧ Below w.heap.size w w' := by
  subst hv
  have hl0 : 0 < L.length := (List.getElem?_eq_some_iff.1 hx).1
  have hl1 : (1 : Int) ≤ (L.length : Int) := by omega
  have HT := Lib.hid (SlI.of_sl (show RowM w (.slice (some ⟨b, o + 2, none⟩) (L.length - 1) (cap - 1)) L.tail by simpa [hc] using RowM.tail h hl0))
  have H := Lib.hid (SlI.of_sl h)
  clear h
  have HX := Lib.hid hx
  clear hx
  have heq := @eql_msg
  have hne := @neq_msg
  have hself := @msgEq_self
  go_enter Try.func8, Try.ntmps8
  go_wp2_with fail
  refine (shown_any _).mono ?_
  rintro e w1 ⟨rfl, hb1⟩
  obtain ⟨hc1, hf1⟩ := bcell hb1
  have s1 := hb1.size
  try simp at s1
  try have hd1 := fun b o (h : b < w.heap.size) => hc1 b o (by first | omega | (simp; omega) | simp)
  try have he1 := fun b o (h : b < w.heap.size) => hf1 b o (by first | omega | (simp; omega) | simp)
  try have z1_0 : w.heap.size < w1.heap.size := by omega
  try have z1_1 : w.heap.size + 1 < w1.heap.size := by omega
  try have z1_2 : w.heap.size + 1 + 1 < w1.heap.size := by omega
  try have z1_3 : w.heap.size + 1 + 1 + 1 < w1.heap.size := by omega
  have c1_wheapsize_0 : w1.cell? ⟨w.heap.size, 0, none⟩ = some (.int .i64 k) := by go_simp
  have f1_wheapsize_0 : w1.frozen? ⟨w.heap.size, 0, none⟩ = false := by go_simp
  have c1_wheapsize_1 : w1.cell? ⟨w.heap.size, 1, none⟩ = some (.int .i64 f) := by go_simp
  have f1_wheapsize_1 : w1.frozen? ⟨w.heap.size, 1, none⟩ = false := by go_simp
  have c1_wheapsize_2 : w1.cell? ⟨w.heap.size, 2, none⟩ = some (.int .i64 t) := by go_simp
  have f1_wheapsize_2 : w1.frozen? ⟨w.heap.size, 2, none⟩ = false := by go_simp
  have c1_wheapsize_3 : w1.cell? ⟨w.heap.size, 3, none⟩ = some (.int .i64 s) := by go_simp
  have f1_wheapsize_3 : w1.frozen? ⟨w.heap.size, 3, none⟩ = false := by go_simp
  have c1_wheapsize_4 : w1.cell? ⟨w.heap.size, 4, none⟩ = some (.int .i64 d) := by go_simp
  have f1_wheapsize_4 : w1.frozen? ⟨w.heap.size, 4, none⟩ = false := by go_simp
  have c1_wheapsize1_0 : w1.cell? ⟨w.heap.size + 1, 0, none⟩ = some (.slice (some ⟨b, o, none⟩) L.length cap) := by go_simp
  have f1_wheapsize1_0 : w1.frozen? ⟨w.heap.size + 1, 0, none⟩ = false := by go_simp
  have c1_wheapsize1_1 : w1.cell? ⟨w.heap.size + 1, 1, none⟩ = some (.int .i64 l) := by go_simp
  have f1_wheapsize1_1 : w1.frozen? ⟨w.heap.size + 1, 1, none⟩ = false := by go_simp
  clear hc1 hf1
  try clear hd1 he1
  go_wp2_with fail
  refine (peek_some k f t s d l _ x L _ (by refine SlI.ex ⟨?lo1, ?hi1, ?main1⟩; case main1 => ((repeat (first | with_reducible exact H.out | with_reducible refine SlI.setCell ?_ ?_ _ | with_reducible refine SlI.alloc ?_ _ | with_reducible refine SlI.drew ?_ | with_reducible refine SlI.drewN ?_ _ | with_reducible refine SlI.below ?_ hb1 ?_ | exact H.out)); all_goals first | omega | (simp; omega) | simp)) (by omega) HX.out).mono ?_
  rintro e w2 ⟨rfl, hb2⟩
  obtain ⟨hc2, hf2⟩ := bcell hb2
  have s2 := hb2.size
  try simp at s2
  try have hd2 := fun b o (h : b < w1.heap.size) => hc2 b o (by first | omega | (simp; omega) | simp)
  try have he2 := fun b o (h : b < w1.heap.size) => hf2 b o (by first | omega | (simp; omega) | simp)
  try have z2_0 : w.heap.size < w2.heap.size := by omega
  try have z2_1 : w.heap.size + 1 < w2.heap.size := by omega
  try have z2_2 : w.heap.size + 1 + 1 < w2.heap.size := by omega
  try have z2_3 : w.heap.size + 1 + 1 + 1 < w2.heap.size := by omega
  try have z2_4 : w1.heap.size < w2.heap.size := by omega
  try have z2_5 : w1.heap.size + 1 < w2.heap.size := by omega
  have c2_wheapsize_0 : w2.cell? ⟨w.heap.size, 0, none⟩ = some (.int .i64 k) := by go_simp
  have f2_wheapsize_0 : w2.frozen? ⟨w.heap.size, 0, none⟩ = false := by go_simp
  have c2_wheapsize_1 : w2.cell? ⟨w.heap.size, 1, none⟩ = some (.int .i64 f) := by go_simp
  have f2_wheapsize_1 : w2.frozen? ⟨w.heap.size, 1, none⟩ = false := by go_simp
  have c2_wheapsize_2 : w2.cell? ⟨w.heap.size, 2, none⟩ = some (.int .i64 t) := by go_simp
  have f2_wheapsize_2 : w2.frozen? ⟨w.heap.size, 2, none⟩ = false := by go_simp
  have c2_wheapsize_3 : w2.cell? ⟨w.heap.size, 3, none⟩ = some (.int .i64 s) := by go_simp
  have f2_wheapsize_3 : w2.frozen? ⟨w.heap.size, 3, none⟩ = false := by go_simp
  have c2_wheapsize_4 : w2.cell? ⟨w.heap.size, 4, none⟩ = some (.int .i64 d) := by go_simp
  have f2_wheapsize_4 : w2.frozen? ⟨w.heap.size, 4, none⟩ = false := by go_simp
  have c2_wheapsize1_0 : w2.cell? ⟨w.heap.size + 1, 0, none⟩ = some (.slice (some ⟨b, o, none⟩) L.length cap) := by go_simp
  have f2_wheapsize1_0 : w2.frozen? ⟨w.heap.size + 1, 0, none⟩ = false := by go_simp
  have c2_wheapsize1_1 : w2.cell? ⟨w.heap.size + 1, 1, none⟩ = some (.int .i64 l) := by go_simp
  have f2_wheapsize1_1 : w2.frozen? ⟨w.heap.size + 1, 1, none⟩ = false := by go_simp
  clear hc2 hf2
  try clear hd2 he2
  go_wp2_with fail
  refine (take_queue k f t s d l _ x L _ (by refine SlI.ex ⟨?lo2, ?hi2, ?main2⟩; case main2 => ((repeat (first | with_reducible exact H.out | with_reducible refine SlI.setCell ?_ ?_ _ | with_reducible refine SlI.alloc ?_ _ | with_reducible refine SlI.drew ?_ | with_reducible refine SlI.drewN ?_ _ | with_reducible refine SlI.below ?_ hb2 ?_ | with_reducible refine SlI.below ?_ hb1 ?_ | exact H.out)); all_goals first | omega | (simp; omega) | simp)) (by omega) HX.out hk).mono ?_
  rintro e w3 ⟨A3, cap3, rfl, hr3, hb3⟩
  have HR3 := Lib.hid (SlI.of_own (OwnM.own hr3))
  clear hr3
  obtain ⟨hc3, hf3⟩ := bcell hb3
  have s3 := hb3.size
  try simp at s3
  try have hd3 := fun b o (h : b < w2.heap.size) => hc3 b o (by first | omega | (simp; omega) | simp)
  try have he3 := fun b o (h : b < w2.heap.size) => hf3 b o (by first | omega | (simp; omega) | simp)
  try have z3_0 : w.heap.size < w3.heap.size := by omega
  try have z3_1 : w.heap.size + 1 < w3.heap.size := by omega
  try have z3_2 : w.heap.size + 1 + 1 < w3.heap.size := by omega
  try have z3_3 : w.heap.size + 1 + 1 + 1 < w3.heap.size := by omega
  try have z3_4 : w1.heap.size < w3.heap.size := by omega
  try have z3_5 : w2.heap.size < w3.heap.size := by omega
  try have z3_6 : w1.heap.size + 1 < w3.heap.size := by omega
  try have z3_7 : w2.heap.size + 1 < w3.heap.size := by omega
  try have n3_1 : ¬ w3.heap.size = w1.heap.size := by omega
  try have n3_2 : ¬ w3.heap.size = w2.heap.size := by omega
  try have m3_1 : ¬ w1.heap.size = w3.heap.size := by omega
  try have m3_2 : ¬ w2.heap.size = w3.heap.size := by omega
  have c3_wheapsize_0 : w3.cell? ⟨w.heap.size, 0, none⟩ = some (.int .i64 k) := by go_simp
  have f3_wheapsize_0 : w3.frozen? ⟨w.heap.size, 0, none⟩ = false := by go_simp
  have c3_wheapsize_1 : w3.cell? ⟨w.heap.size, 1, none⟩ = some (.int .i64 f) := by go_simp
  have f3_wheapsize_1 : w3.frozen? ⟨w.heap.size, 1, none⟩ = false := by go_simp
  have c3_wheapsize_2 : w3.cell? ⟨w.heap.size, 2, none⟩ = some (.int .i64 t) := by go_simp
  have f3_wheapsize_2 : w3.frozen? ⟨w.heap.size, 2, none⟩ = false := by go_simp
  have c3_wheapsize_3 : w3.cell? ⟨w.heap.size, 3, none⟩ = some (.int .i64 s) := by go_simp
  have f3_wheapsize_3 : w3.frozen? ⟨w.heap.size, 3, none⟩ = false := by go_simp
  have c3_wheapsize_4 : w3.cell? ⟨w.heap.size, 4, none⟩ = some (.int .i64 d) := by go_simp
  have f3_wheapsize_4 : w3.frozen? ⟨w.heap.size, 4, none⟩ = false := by go_simp
  have c3_wheapsize1_0 : w3.cell? ⟨w.heap.size + 1, 0, none⟩ = some (.slice (some ⟨b, o, none⟩) L.length cap) := by go_simp
  have f3_wheapsize1_0 : w3.frozen? ⟨w.heap.size + 1, 0, none⟩ = false := by go_simp
  have c3_wheapsize1_1 : w3.cell? ⟨w.heap.size + 1, 1, none⟩ = some (.int .i64 l) := by go_simp
  have f3_wheapsize1_1 : w3.frozen? ⟨w.heap.size + 1, 1, none⟩ = false := by go_simp
  have c3_w2heapsize_0 : w3.cell? ⟨w2.heap.size, 0, none⟩ = some (.int .u64 x.1) := by go_simp
  have f3_w2heapsize_0 : w3.frozen? ⟨w2.heap.size, 0, none⟩ = false := by go_simp
  have c3_w2heapsize_1 : w3.cell? ⟨w2.heap.size, 1, none⟩ = some (.string x.2) := by go_simp
  have f3_w2heapsize_1 : w3.frozen? ⟨w2.heap.size, 1, none⟩ = false := by go_simp
  clear hc3 hf3
  try clear hd3 he3
  go_wp2_with fail
  have HR4 := Lib.hid (row_lenK (m := L.length - 1) HR3.out List.length_tail)
  first
    | (go_region_held3 (fun W => Below ((w3.alloc (.cells #[.slice A3 (L.length - 1) cap3, .int .i64 l] 26)).alloc (.cells #[.int .u64 x.1, .string x.2] 37)).heap.size ((w3.alloc (.cells #[.slice A3 (L.length - 1) cap3, .int .i64 l] 26)).alloc (.cells #[.int .u64 x.1, .string x.2] 37)) W ∧ W.cell? ⟨w.heap.size + 1, 0, none⟩ = some (.slice (some ⟨b, o, none⟩) L.length cap) ∧ W.cell? ⟨w.heap.size + 1, 1, none⟩ = some (.int .i64 l) ∧ W.cell? ⟨w3.heap.size, 0, none⟩ = some (.slice A3 (L.length - 1) cap3) ∧ W.cell? ⟨w3.heap.size, 1, none⟩ = some (.int .i64 l))
        ((refine ⟨?_, ?_, ?_, ?_, ?_⟩ <;> first | (go_keep; done) | exact Below.drew (Below.refl _ _) | exact k1.trans (hb.mono k1.size) | exact (hb.cell (by have := k1.size; simp at this; simp; omega)).trans (by assumption)))
        ((first | (go_at_call 18; obtain ⟨k1, k2, k3, k4, k5⟩ : Below ((w3.alloc (.cells #[.slice A3 (L.length - 1) cap3, .int .i64 l] 26)).alloc (.cells #[.int .u64 x.1, .string x.2] 37)).heap.size ((w3.alloc (.cells #[.slice A3 (L.length - 1) cap3, .int .i64 l] 26)).alloc (.cells #[.int .u64 x.1, .string x.2] 37)) _ ∧ _ := (by assumption); refine (same_any _ _ l l L.tail L.tail _ (by refine SlI.ex ⟨?lo3, ?hi3, ?main3⟩; case main3 => ((repeat (first | with_reducible exact HR4.out | with_reducible refine SlI.setCell ?_ ?_ _ | with_reducible refine SlI.alloc ?_ _ | with_reducible refine SlI.drew ?_ | with_reducible refine SlI.drewN ?_ _ | exact HR4.out)); all_goals first | omega | (simp; omega) | simp)) (by refine SlI.ex ⟨?lo4, ?hi4, ?main4⟩; case main4 => ((repeat (first | with_reducible exact HT.out | with_reducible refine SlI.setCell ?_ ?_ _ | with_reducible refine SlI.alloc ?_ _ | with_reducible refine SlI.drew ?_ | with_reducible refine SlI.drewN ?_ _ | with_reducible refine SlI.below ?_ hb3 ?_ | with_reducible refine SlI.below ?_ hb2 ?_ | with_reducible refine SlI.below ?_ hb1 ?_ | exact HT.out)); all_goals first | omega | (simp; omega) | simp)) (by rw [List.length_tail]; omega) (by rw [List.length_tail]; omega)).mono ?_; rintro e w' ⟨rfl, hb⟩))))
    | fail
  rename_i w4 hw4
  obtain ⟨hb4, q4⟩ := hw4
  clear q4
  go_wp2
  go_ret
  refine ⟨ret_bool (by simp), ?_⟩
  have s4 := hb4.size
  simp at s4
  repeat (first
    | exact Below.refl _ _
    | exact hb1
    | exact hb2
    | exact hb3
    | exact hb4
    | refine Below.drew ?_
    | refine below_drewN ?_ _
    | refine below_drewN ?_ _
    | refine Below.alloc ?_ (by first | omega | (simp; omega) | simp) _
    | refine Below.setCell ?_ (by first | omega | (simp; omega) | simp) _
    | refine Below.trans ?_ (hb4.mono (by first | omega | (simp; omega) | simp))
    | refine Below.trans ?_ (hb3.mono (by first | omega | (simp; omega) | simp))
    | refine Below.trans ?_ (hb2.mono (by first | omega | (simp; omega) | simp))
    | refine Below.trans ?_ (hb1.mono (by first | omega | (simp; omega) | simp)))
end Go.Proofs.Ytecpnblhhjndgaa
