/- PortAdds, walked. -/
import Derived.Test.YtecpnblhhjndgaaPorG
namespace Go.Proofs.Ytecpnblhhjndgaa
open Go.RowKit
set_option linter.unusedVariables false

/-- The beginning of a row that lies at an address. -/
theorem prefix_row {w : World} {lo hi b o cap : Nat} {L : List Msg} {x : Msg} (h : SlI w lo hi 2 (.slice (some ⟨b, o, none⟩) (L ++ [x]).length cap) (L ++ [x]).length ((L ++ [x]).flatMap msgC)) :
    SlI w lo hi 2 (.slice (some ⟨b, o, none⟩) L.length cap) L.length (L.flatMap msgC) := by
  obtain ⟨hs, hh, hk⟩ := h
  rcases hs.open_ with ⟨h0, _⟩ | ⟨h0, b', o', cap', hv, hn, hc, hlt, hcell⟩
  · simp at h0
  injection hv with e1 e2 e3
  injection e1 with e1
  injection e1 with e1 e4
  subst e1 e3 e4
  refine ⟨Sl.at_ hlt (flat_len msgC_len L) (by simp at hn; omega) hc fun j u hu => hcell j u ?_, hh, fun _ k hk' => hk h0 k hk'⟩
  rw [List.flatMap_append, List.getElem?_append_left (List.getElem?_eq_some_iff.1 hu).1]
  exact hu

set_option maxHeartbeats 2000000 in
theorem adds_big (k f t s d : Int) (v : Value) (l now : Int) (body : ByteArray) (L : List Msg) (w : World) (h : RowM w v L) (hm : L.length ≤ 5864062014700) (hbs : body.size ≤ 140737488351232) (hb : s < (body.size : Int)) :
    Calls Try.prog 7 #[addV k f t s d v l now body] w fun e w' => e = .returned (.bool true) ∧ Below w.heap.size w w' := by
  obtain ⟨A, cap, rfl, hnc, _⟩ := Sl.slice h
  have H := Lib.hid (SlI.of_sl h)
  clear h
  go_enter Try.func7, Try.ntmps7
  go_wp2_with fail
  refine (shown_any _).mono ?_
  rintro e w1 ⟨rfl, hb1⟩
  obtain ⟨hc1, hf1⟩ := bcell hb1
  have s1 := hb1.size
  try simp at s1
  try have hd1 := fun b o (h : b < w.heap.size) => hc1 b o (by first | omega | (simp; omega) | simp)
  try have he1 := fun b o (h : b < w.heap.size) => hf1 b o (by first | omega | (simp; omega) | simp)
  try have z1_0 : w.heap.size < w1.heap.size := by omega
  try have z1_1 : w.heap.size + 1 < w1.heap.size := by omega
  try have z1_2 : w.heap.size + 1 + 1 < w1.heap.size := by omega
  try have z1_3 : w.heap.size + 1 + 1 + 1 < w1.heap.size := by omega
  have c1_wheapsize1_0 : w1.cell? ⟨w.heap.size + 1, 0, none⟩ = some (.int .i64 k) := by go_simp
  have f1_wheapsize1_0 : w1.frozen? ⟨w.heap.size + 1, 0, none⟩ = false := by go_simp
  have c1_wheapsize1_1 : w1.cell? ⟨w.heap.size + 1, 1, none⟩ = some (.int .i64 f) := by go_simp
  have f1_wheapsize1_1 : w1.frozen? ⟨w.heap.size + 1, 1, none⟩ = false := by go_simp
  have c1_wheapsize1_2 : w1.cell? ⟨w.heap.size + 1, 2, none⟩ = some (.int .i64 t) := by go_simp
  have f1_wheapsize1_2 : w1.frozen? ⟨w.heap.size + 1, 2, none⟩ = false := by go_simp
  have c1_wheapsize1_3 : w1.cell? ⟨w.heap.size + 1, 3, none⟩ = some (.int .i64 s) := by go_simp
  have f1_wheapsize1_3 : w1.frozen? ⟨w.heap.size + 1, 3, none⟩ = false := by go_simp
  have c1_wheapsize1_4 : w1.cell? ⟨w.heap.size + 1, 4, none⟩ = some (.int .i64 d) := by go_simp
  have f1_wheapsize1_4 : w1.frozen? ⟨w.heap.size + 1, 4, none⟩ = false := by go_simp
  have c1_wheapsize11_0 : w1.cell? ⟨w.heap.size + 1 + 1, 0, none⟩ = some (.slice A L.length cap) := by go_simp
  have f1_wheapsize11_0 : w1.frozen? ⟨w.heap.size + 1 + 1, 0, none⟩ = false := by go_simp
  have c1_wheapsize11_1 : w1.cell? ⟨w.heap.size + 1 + 1, 1, none⟩ = some (.int .i64 l) := by go_simp
  have f1_wheapsize11_1 : w1.frozen? ⟨w.heap.size + 1 + 1, 1, none⟩ = false := by go_simp
  clear hc1 hf1
  try clear hd1 he1
  go_wp2_with fail
  refine (send_big k f t s d l now _ L body _ (by refine SlI.ex ⟨?lo1, ?hi1, ?main1⟩; case main1 => ((repeat (first | with_reducible exact H.out | with_reducible refine SlI.setCell ?_ ?_ _ | with_reducible refine SlI.alloc ?_ _ | with_reducible refine SlI.drew ?_ | with_reducible refine SlI.drewN ?_ _ | with_reducible refine SlI.below ?_ hb1 ?_ | exact H.out)); all_goals first | omega | (simp; omega) | simp)) (by omega) hb (by omega)).mono ?_
  rintro e w2 ⟨A2, cap2, rfl, hr2, hb2⟩
  have HR2 := Lib.hid (SlI.of_own (OwnM.own hr2))
  clear hr2
  obtain ⟨hc2, hf2⟩ := bcell hb2
  have s2 := hb2.size
  try simp at s2
  try have hd2 := fun b o (h : b < w1.heap.size) => hc2 b o (by first | omega | (simp; omega) | simp)
  try have he2 := fun b o (h : b < w1.heap.size) => hf2 b o (by first | omega | (simp; omega) | simp)
  try have z2_0 : w.heap.size < w2.heap.size := by omega
  try have z2_1 : w.heap.size + 1 < w2.heap.size := by omega
  try have z2_2 : w.heap.size + 1 + 1 < w2.heap.size := by omega
  try have z2_3 : w.heap.size + 1 + 1 + 1 < w2.heap.size := by omega
  try have z2_4 : w1.heap.size < w2.heap.size := by omega
  try have z2_5 : w1.heap.size + 1 < w2.heap.size := by omega
  try have n2_1 : ¬ w2.heap.size = w1.heap.size := by omega
  try have m2_1 : ¬ w1.heap.size = w2.heap.size := by omega
  have c2_wheapsize1_0 : w2.cell? ⟨w.heap.size + 1, 0, none⟩ = some (.int .i64 k) := by go_simp
  have f2_wheapsize1_0 : w2.frozen? ⟨w.heap.size + 1, 0, none⟩ = false := by go_simp
  have c2_wheapsize1_1 : w2.cell? ⟨w.heap.size + 1, 1, none⟩ = some (.int .i64 f) := by go_simp
  have f2_wheapsize1_1 : w2.frozen? ⟨w.heap.size + 1, 1, none⟩ = false := by go_simp
  have c2_wheapsize1_2 : w2.cell? ⟨w.heap.size + 1, 2, none⟩ = some (.int .i64 t) := by go_simp
  have f2_wheapsize1_2 : w2.frozen? ⟨w.heap.size + 1, 2, none⟩ = false := by go_simp
  have c2_wheapsize1_3 : w2.cell? ⟨w.heap.size + 1, 3, none⟩ = some (.int .i64 s) := by go_simp
  have f2_wheapsize1_3 : w2.frozen? ⟨w.heap.size + 1, 3, none⟩ = false := by go_simp
  have c2_wheapsize1_4 : w2.cell? ⟨w.heap.size + 1, 4, none⟩ = some (.int .i64 d) := by go_simp
  have f2_wheapsize1_4 : w2.frozen? ⟨w.heap.size + 1, 4, none⟩ = false := by go_simp
  have c2_wheapsize11_0 : w2.cell? ⟨w.heap.size + 1 + 1, 0, none⟩ = some (.slice A L.length cap) := by go_simp
  have f2_wheapsize11_0 : w2.frozen? ⟨w.heap.size + 1 + 1, 0, none⟩ = false := by go_simp
  have c2_wheapsize11_1 : w2.cell? ⟨w.heap.size + 1 + 1, 1, none⟩ = some (.int .i64 l) := by go_simp
  have f2_wheapsize11_1 : w2.frozen? ⟨w.heap.size + 1 + 1, 1, none⟩ = false := by go_simp
  clear hc2 hf2
  try clear hd2 he2
  go_wp2_with fail
  refine (same_any _ _ l l L L _ (by refine SlI.ex ⟨?lo2, ?hi2, ?main2⟩; case main2 => ((repeat (first | with_reducible exact HR2.out | with_reducible refine SlI.setCell ?_ ?_ _ | with_reducible refine SlI.alloc ?_ _ | with_reducible refine SlI.drew ?_ | with_reducible refine SlI.drewN ?_ _ | exact HR2.out)); all_goals first | omega | (simp; omega) | simp)) (by refine SlI.ex ⟨?lo3, ?hi3, ?main3⟩; case main3 => ((repeat (first | with_reducible exact H.out | with_reducible refine SlI.setCell ?_ ?_ _ | with_reducible refine SlI.alloc ?_ _ | with_reducible refine SlI.drew ?_ | with_reducible refine SlI.drewN ?_ _ | with_reducible refine SlI.below ?_ hb2 ?_ | with_reducible refine SlI.below ?_ hb1 ?_ | exact H.out)); all_goals first | omega | (simp; omega) | simp)) (by omega) (by omega)).mono ?_
  rintro e w3 ⟨rfl, hb3⟩
  obtain ⟨hc3, hf3⟩ := bcell hb3
  have s3 := hb3.size
  try simp at s3
  try have hd3 := fun b o (h : b < w2.heap.size) => hc3 b o (by first | omega | (simp; omega) | simp)
  try have he3 := fun b o (h : b < w2.heap.size) => hf3 b o (by first | omega | (simp; omega) | simp)
  try have z3_0 : w.heap.size < w3.heap.size := by omega
  try have z3_1 : w.heap.size + 1 < w3.heap.size := by omega
  try have z3_2 : w.heap.size + 1 + 1 < w3.heap.size := by omega
  try have z3_3 : w.heap.size + 1 + 1 + 1 < w3.heap.size := by omega
  try have z3_4 : w1.heap.size < w3.heap.size := by omega
  try have z3_5 : w2.heap.size < w3.heap.size := by omega
  try have z3_6 : w1.heap.size + 1 < w3.heap.size := by omega
  try have z3_7 : w2.heap.size + 1 < w3.heap.size := by omega
  go_wp2
  go_ret
  refine ⟨ret_bool (by simp), ?_⟩
  repeat (first
    | exact Below.refl _ _
    | exact hb1
    | exact hb2
    | exact hb3
    | refine Below.drew ?_
    | refine below_drewN ?_ _
    | refine below_drewN ?_ _
    | refine Below.alloc ?_ (by first | omega | (simp; omega) | simp) _
    | refine Below.setCell ?_ (by first | omega | (simp; omega) | simp) _
    | refine Below.trans ?_ (hb3.mono (by first | omega | (simp; omega) | simp))
    | refine Below.trans ?_ (hb2.mono (by first | omega | (simp; omega) | simp))
    | refine Below.trans ?_ (hb1.mono (by first | omega | (simp; omega) | simp)))

set_option maxHeartbeats 2000000 in
theorem adds_sample (k f t s d : Int) (v : Value) (l now : Int) (body : ByteArray) (L : List Msg) (w : World) (h : RowM w v L) (hm : L.length ≤ 5864062014700) (hbs : body.size ≤ 140737488351232) (hb : (body.size : Int) ≤ s) (hk : (k == 1) = true) :
    Calls Try.prog 7 #[addV k f t s d v l now body] w fun e w' => e = .returned (.bool true) ∧ Below w.heap.size w w' := by
  obtain ⟨A, cap, rfl, hnc, _⟩ := Sl.slice h
  have H := Lib.hid (SlI.of_sl h)
  clear h
  go_enter Try.func7, Try.ntmps7
  go_wp2_with fail
  refine (shown_any _).mono ?_
  rintro e w1 ⟨rfl, hb1⟩
  obtain ⟨hc1, hf1⟩ := bcell hb1
  have s1 := hb1.size
  try simp at s1
  try have hd1 := fun b o (h : b < w.heap.size) => hc1 b o (by first | omega | (simp; omega) | simp)
  try have he1 := fun b o (h : b < w.heap.size) => hf1 b o (by first | omega | (simp; omega) | simp)
  try have z1_0 : w.heap.size < w1.heap.size := by omega
  try have z1_1 : w.heap.size + 1 < w1.heap.size := by omega
  try have z1_2 : w.heap.size + 1 + 1 < w1.heap.size := by omega
  try have z1_3 : w.heap.size + 1 + 1 + 1 < w1.heap.size := by omega
  have c1_wheapsize1_0 : w1.cell? ⟨w.heap.size + 1, 0, none⟩ = some (.int .i64 k) := by go_simp
  have f1_wheapsize1_0 : w1.frozen? ⟨w.heap.size + 1, 0, none⟩ = false := by go_simp
  have c1_wheapsize1_1 : w1.cell? ⟨w.heap.size + 1, 1, none⟩ = some (.int .i64 f) := by go_simp
  have f1_wheapsize1_1 : w1.frozen? ⟨w.heap.size + 1, 1, none⟩ = false := by go_simp
  have c1_wheapsize1_2 : w1.cell? ⟨w.heap.size + 1, 2, none⟩ = some (.int .i64 t) := by go_simp
  have f1_wheapsize1_2 : w1.frozen? ⟨w.heap.size + 1, 2, none⟩ = false := by go_simp
  have c1_wheapsize1_3 : w1.cell? ⟨w.heap.size + 1, 3, none⟩ = some (.int .i64 s) := by go_simp
  have f1_wheapsize1_3 : w1.frozen? ⟨w.heap.size + 1, 3, none⟩ = false := by go_simp
  have c1_wheapsize1_4 : w1.cell? ⟨w.heap.size + 1, 4, none⟩ = some (.int .i64 d) := by go_simp
  have f1_wheapsize1_4 : w1.frozen? ⟨w.heap.size + 1, 4, none⟩ = false := by go_simp
  have c1_wheapsize11_0 : w1.cell? ⟨w.heap.size + 1 + 1, 0, none⟩ = some (.slice A L.length cap) := by go_simp
  have f1_wheapsize11_0 : w1.frozen? ⟨w.heap.size + 1 + 1, 0, none⟩ = false := by go_simp
  have c1_wheapsize11_1 : w1.cell? ⟨w.heap.size + 1 + 1, 1, none⟩ = some (.int .i64 l) := by go_simp
  have f1_wheapsize11_1 : w1.frozen? ⟨w.heap.size + 1 + 1, 1, none⟩ = false := by go_simp
  clear hc1 hf1
  try clear hd1 he1
  go_wp2_with fail
  refine (send_sample k f t s d l now _ L body _ (by refine SlI.ex ⟨?lo4, ?hi4, ?main4⟩; case main4 => ((repeat (first | with_reducible exact H.out | with_reducible refine SlI.setCell ?_ ?_ _ | with_reducible refine SlI.alloc ?_ _ | with_reducible refine SlI.drew ?_ | with_reducible refine SlI.drewN ?_ _ | with_reducible refine SlI.below ?_ hb1 ?_ | exact H.out)); all_goals first | omega | (simp; omega) | simp)) hm hb (by omega) hk).mono ?_
  rintro e w2 ⟨A2, cap2, rfl, hr2, hb2⟩
  have HR2 := Lib.hid (SlI.of_own (OwnM.own hr2))
  clear hr2
  obtain ⟨hc2, hf2⟩ := bcell hb2
  have s2 := hb2.size
  try simp at s2
  try have hd2 := fun b o (h : b < w1.heap.size) => hc2 b o (by first | omega | (simp; omega) | simp)
  try have he2 := fun b o (h : b < w1.heap.size) => hf2 b o (by first | omega | (simp; omega) | simp)
  try have z2_0 : w.heap.size < w2.heap.size := by omega
  try have z2_1 : w.heap.size + 1 < w2.heap.size := by omega
  try have z2_2 : w.heap.size + 1 + 1 < w2.heap.size := by omega
  try have z2_3 : w.heap.size + 1 + 1 + 1 < w2.heap.size := by omega
  try have z2_4 : w1.heap.size < w2.heap.size := by omega
  try have z2_5 : w1.heap.size + 1 < w2.heap.size := by omega
  try have n2_1 : ¬ w2.heap.size = w1.heap.size := by omega
  try have m2_1 : ¬ w1.heap.size = w2.heap.size := by omega
  have c2_wheapsize1_0 : w2.cell? ⟨w.heap.size + 1, 0, none⟩ = some (.int .i64 k) := by go_simp
  have f2_wheapsize1_0 : w2.frozen? ⟨w.heap.size + 1, 0, none⟩ = false := by go_simp
  have c2_wheapsize1_1 : w2.cell? ⟨w.heap.size + 1, 1, none⟩ = some (.int .i64 f) := by go_simp
  have f2_wheapsize1_1 : w2.frozen? ⟨w.heap.size + 1, 1, none⟩ = false := by go_simp
  have c2_wheapsize1_2 : w2.cell? ⟨w.heap.size + 1, 2, none⟩ = some (.int .i64 t) := by go_simp
  have f2_wheapsize1_2 : w2.frozen? ⟨w.heap.size + 1, 2, none⟩ = false := by go_simp
  have c2_wheapsize1_3 : w2.cell? ⟨w.heap.size + 1, 3, none⟩ = some (.int .i64 s) := by go_simp
  have f2_wheapsize1_3 : w2.frozen? ⟨w.heap.size + 1, 3, none⟩ = false := by go_simp
  have c2_wheapsize1_4 : w2.cell? ⟨w.heap.size + 1, 4, none⟩ = some (.int .i64 d) := by go_simp
  have f2_wheapsize1_4 : w2.frozen? ⟨w.heap.size + 1, 4, none⟩ = false := by go_simp
  have c2_wheapsize11_0 : w2.cell? ⟨w.heap.size + 1 + 1, 0, none⟩ = some (.slice A L.length cap) := by go_simp
  have f2_wheapsize11_0 : w2.frozen? ⟨w.heap.size + 1 + 1, 0, none⟩ = false := by go_simp
  have c2_wheapsize11_1 : w2.cell? ⟨w.heap.size + 1 + 1, 1, none⟩ = some (.int .i64 l) := by go_simp
  have f2_wheapsize11_1 : w2.frozen? ⟨w.heap.size + 1 + 1, 1, none⟩ = false := by go_simp
  clear hc2 hf2
  try clear hd2 he2
  go_wp2
  go_ret
  refine ⟨rfl, ?_⟩
  repeat (first
    | exact Below.refl _ _
    | exact hb1
    | exact hb2
    | refine Below.drew ?_
    | refine below_drewN ?_ _
    | refine below_drewN ?_ _
    | refine Below.alloc ?_ (by first | omega | (simp; omega) | simp) _
    | refine Below.setCell ?_ (by first | omega | (simp; omega) | simp) _
    | refine Below.trans ?_ (hb2.mono (by first | omega | (simp; omega) | simp))
    | refine Below.trans ?_ (hb1.mono (by first | omega | (simp; omega) | simp)))

set_option maxHeartbeats 2000000 in
theorem adds_full (k f t s d : Int) (v : Value) (l now : Int) (body : ByteArray) (L : List Msg) (w : World) (h : RowM w v L) (hm : L.length ≤ 5864062014700) (hbs : body.size ≤ 140737488351232) (hb : (body.size : Int) ≤ s) (hk : (k == 1) = false) (hd : d ≤ (L.length : Int)) :
    Calls Try.prog 7 #[addV k f t s d v l now body] w fun e w' => e = .returned (.bool true) ∧ Below w.heap.size w w' := by
  obtain ⟨A, cap, rfl, hnc, _⟩ := Sl.slice h
  have H := Lib.hid (SlI.of_sl h)
  clear h
  go_enter Try.func7, Try.ntmps7
  go_wp2_with fail
  refine (shown_any _).mono ?_
  rintro e w1 ⟨rfl, hb1⟩
  obtain ⟨hc1, hf1⟩ := bcell hb1
  have s1 := hb1.size
  try simp at s1
  try have hd1 := fun b o (h : b < w.heap.size) => hc1 b o (by first | omega | (simp; omega) | simp)
  try have he1 := fun b o (h : b < w.heap.size) => hf1 b o (by first | omega | (simp; omega) | simp)
  try have z1_0 : w.heap.size < w1.heap.size := by omega
  try have z1_1 : w.heap.size + 1 < w1.heap.size := by omega
  try have z1_2 : w.heap.size + 1 + 1 < w1.heap.size := by omega
  try have z1_3 : w.heap.size + 1 + 1 + 1 < w1.heap.size := by omega
  have c1_wheapsize1_0 : w1.cell? ⟨w.heap.size + 1, 0, none⟩ = some (.int .i64 k) := by go_simp
  have f1_wheapsize1_0 : w1.frozen? ⟨w.heap.size + 1, 0, none⟩ = false := by go_simp
  have c1_wheapsize1_1 : w1.cell? ⟨w.heap.size + 1, 1, none⟩ = some (.int .i64 f) := by go_simp
  have f1_wheapsize1_1 : w1.frozen? ⟨w.heap.size + 1, 1, none⟩ = false := by go_simp
  have c1_wheapsize1_2 : w1.cell? ⟨w.heap.size + 1, 2, none⟩ = some (.int .i64 t) := by go_simp
  have f1_wheapsize1_2 : w1.frozen? ⟨w.heap.size + 1, 2, none⟩ = false := by go_simp
  have c1_wheapsize1_3 : w1.cell? ⟨w.heap.size + 1, 3, none⟩ = some (.int .i64 s) := by go_simp
  have f1_wheapsize1_3 : w1.frozen? ⟨w.heap.size + 1, 3, none⟩ = false := by go_simp
  have c1_wheapsize1_4 : w1.cell? ⟨w.heap.size + 1, 4, none⟩ = some (.int .i64 d) := by go_simp
  have f1_wheapsize1_4 : w1.frozen? ⟨w.heap.size + 1, 4, none⟩ = false := by go_simp
  have c1_wheapsize11_0 : w1.cell? ⟨w.heap.size + 1 + 1, 0, none⟩ = some (.slice A L.length cap) := by go_simp
  have f1_wheapsize11_0 : w1.frozen? ⟨w.heap.size + 1 + 1, 0, none⟩ = false := by go_simp
  have c1_wheapsize11_1 : w1.cell? ⟨w.heap.size + 1 + 1, 1, none⟩ = some (.int .i64 l) := by go_simp
  have f1_wheapsize11_1 : w1.frozen? ⟨w.heap.size + 1 + 1, 1, none⟩ = false := by go_simp
  clear hc1 hf1
  try clear hd1 he1
  go_wp2_with fail
  refine (send_full_at k f t s d l now _ _ L body _ (by refine SlI.ex ⟨?lo5, ?hi5, ?main5⟩; case main5 => ((repeat (first | with_reducible exact H.out | with_reducible refine SlI.setCell ?_ ?_ _ | with_reducible refine SlI.alloc ?_ _ | with_reducible refine SlI.drew ?_ | with_reducible refine SlI.drewN ?_ _ | with_reducible refine SlI.below ?_ hb1 ?_ | exact H.out)); all_goals first | omega | (simp; omega) | simp)) (by omega) hb (by omega) hk hd rfl).mono ?_
  rintro e w2 ⟨A2, cap2, rfl, hr2, hb2⟩
  have HR2 := Lib.hid (SlI.of_own (OwnM.own hr2))
  clear hr2
  obtain ⟨hc2, hf2⟩ := bcell hb2
  have s2 := hb2.size
  try simp at s2
  try have hd2 := fun b o (h : b < w1.heap.size) => hc2 b o (by first | omega | (simp; omega) | simp)
  try have he2 := fun b o (h : b < w1.heap.size) => hf2 b o (by first | omega | (simp; omega) | simp)
  try have z2_0 : w.heap.size < w2.heap.size := by omega
  try have z2_1 : w.heap.size + 1 < w2.heap.size := by omega
  try have z2_2 : w.heap.size + 1 + 1 < w2.heap.size := by omega
  try have z2_3 : w.heap.size + 1 + 1 + 1 < w2.heap.size := by omega
  try have z2_4 : w1.heap.size < w2.heap.size := by omega
  try have z2_5 : w1.heap.size + 1 < w2.heap.size := by omega
  try have n2_1 : ¬ w2.heap.size = w1.heap.size := by omega
  try have m2_1 : ¬ w1.heap.size = w2.heap.size := by omega
  have c2_wheapsize1_0 : w2.cell? ⟨w.heap.size + 1, 0, none⟩ = some (.int .i64 k) := by go_simp
  have f2_wheapsize1_0 : w2.frozen? ⟨w.heap.size + 1, 0, none⟩ = false := by go_simp
  have c2_wheapsize1_1 : w2.cell? ⟨w.heap.size + 1, 1, none⟩ = some (.int .i64 f) := by go_simp
  have f2_wheapsize1_1 : w2.frozen? ⟨w.heap.size + 1, 1, none⟩ = false := by go_simp
  have c2_wheapsize1_2 : w2.cell? ⟨w.heap.size + 1, 2, none⟩ = some (.int .i64 t) := by go_simp
  have f2_wheapsize1_2 : w2.frozen? ⟨w.heap.size + 1, 2, none⟩ = false := by go_simp
  have c2_wheapsize1_3 : w2.cell? ⟨w.heap.size + 1, 3, none⟩ = some (.int .i64 s) := by go_simp
  have f2_wheapsize1_3 : w2.frozen? ⟨w.heap.size + 1, 3, none⟩ = false := by go_simp
  have c2_wheapsize1_4 : w2.cell? ⟨w.heap.size + 1, 4, none⟩ = some (.int .i64 d) := by go_simp
  have f2_wheapsize1_4 : w2.frozen? ⟨w.heap.size + 1, 4, none⟩ = false := by go_simp
  have c2_wheapsize11_0 : w2.cell? ⟨w.heap.size + 1 + 1, 0, none⟩ = some (.slice A L.length cap) := by go_simp
  have f2_wheapsize11_0 : w2.frozen? ⟨w.heap.size + 1 + 1, 0, none⟩ = false := by go_simp
  have c2_wheapsize11_1 : w2.cell? ⟨w.heap.size + 1 + 1, 1, none⟩ = some (.int .i64 l) := by go_simp
  have f2_wheapsize11_1 : w2.frozen? ⟨w.heap.size + 1 + 1, 1, none⟩ = false := by go_simp
  clear hc2 hf2
  try clear hd2 he2
  go_wp2
  go_ret
  refine ⟨rfl, ?_⟩
  repeat (first
    | exact Below.refl _ _
    | exact hb1
    | exact hb2
    | refine Below.drew ?_
    | refine below_drewN ?_ _
    | refine below_drewN ?_ _
    | refine Below.alloc ?_ (by first | omega | (simp; omega) | simp) _
    | refine Below.setCell ?_ (by first | omega | (simp; omega) | simp) _
    | refine Below.trans ?_ (hb2.mono (by first | omega | (simp; omega) | simp))
    | refine Below.trans ?_ (hb1.mono (by first | omega | (simp; omega) | simp)))

set_option maxHeartbeats 2000000 in
theorem adds_queue (k f t s d : Int) (v : Value) (l now : Int) (body : ByteArray) (L : List Msg) (w : World) (h : RowM w v L) (hm : L.length ≤ 5864062014700) (hbs : body.size ≤ 140737488351232) (hb : (body.size : Int) ≤ s) (hk : (k == 1) = false) (hd : (L.length : Int) < d) :
    Calls Try.prog 7 #[addV k f t s d v l now body] w fun e w' => e = .returned (.bool true) ∧ Below w.heap.size w w' := by
  obtain ⟨A, cap, rfl, hnc, _⟩ := Sl.slice h
  have H := Lib.hid (SlI.of_sl h)
  clear h
  go_enter Try.func7, Try.ntmps7
  go_wp2_with fail
  refine (shown_any _).mono ?_
  rintro e w1 ⟨rfl, hb1⟩
  obtain ⟨hc1, hf1⟩ := bcell hb1
  have s1 := hb1.size
  try simp at s1
  try have hd1 := fun b o (h : b < w.heap.size) => hc1 b o (by first | omega | (simp; omega) | simp)
  try have he1 := fun b o (h : b < w.heap.size) => hf1 b o (by first | omega | (simp; omega) | simp)
  try have z1_0 : w.heap.size < w1.heap.size := by omega
  try have z1_1 : w.heap.size + 1 < w1.heap.size := by omega
  try have z1_2 : w.heap.size + 1 + 1 < w1.heap.size := by omega
  try have z1_3 : w.heap.size + 1 + 1 + 1 < w1.heap.size := by omega
  have c1_wheapsize1_0 : w1.cell? ⟨w.heap.size + 1, 0, none⟩ = some (.int .i64 k) := by go_simp
  have f1_wheapsize1_0 : w1.frozen? ⟨w.heap.size + 1, 0, none⟩ = false := by go_simp
  have c1_wheapsize1_1 : w1.cell? ⟨w.heap.size + 1, 1, none⟩ = some (.int .i64 f) := by go_simp
  have f1_wheapsize1_1 : w1.frozen? ⟨w.heap.size + 1, 1, none⟩ = false := by go_simp
  have c1_wheapsize1_2 : w1.cell? ⟨w.heap.size + 1, 2, none⟩ = some (.int .i64 t) := by go_simp
  have f1_wheapsize1_2 : w1.frozen? ⟨w.heap.size + 1, 2, none⟩ = false := by go_simp
  have c1_wheapsize1_3 : w1.cell? ⟨w.heap.size + 1, 3, none⟩ = some (.int .i64 s) := by go_simp
  have f1_wheapsize1_3 : w1.frozen? ⟨w.heap.size + 1, 3, none⟩ = false := by go_simp
  have c1_wheapsize1_4 : w1.cell? ⟨w.heap.size + 1, 4, none⟩ = some (.int .i64 d) := by go_simp
  have f1_wheapsize1_4 : w1.frozen? ⟨w.heap.size + 1, 4, none⟩ = false := by go_simp
  have c1_wheapsize11_0 : w1.cell? ⟨w.heap.size + 1 + 1, 0, none⟩ = some (.slice A L.length cap) := by go_simp
  have f1_wheapsize11_0 : w1.frozen? ⟨w.heap.size + 1 + 1, 0, none⟩ = false := by go_simp
  have c1_wheapsize11_1 : w1.cell? ⟨w.heap.size + 1 + 1, 1, none⟩ = some (.int .i64 l) := by go_simp
  have f1_wheapsize11_1 : w1.frozen? ⟨w.heap.size + 1 + 1, 1, none⟩ = false := by go_simp
  clear hc1 hf1
  try clear hd1 he1
  go_wp2_with fail
  refine (send_queue k f t s d l now _ L body _ (by refine SlI.ex ⟨?lo6, ?hi6, ?main6⟩; case main6 => ((repeat (first | with_reducible exact H.out | with_reducible refine SlI.setCell ?_ ?_ _ | with_reducible refine SlI.alloc ?_ _ | with_reducible refine SlI.drew ?_ | with_reducible refine SlI.drewN ?_ _ | with_reducible refine SlI.below ?_ hb1 ?_ | exact H.out)); all_goals first | omega | (simp; omega) | simp)) hm hb (by omega) hk hd).mono ?_
  rintro e w2 ⟨A2, cap2, rfl, hr2, hb2⟩
  have HR2 := Lib.hid (SlI.of_own (OwnM.own hr2))
  clear hr2
  obtain ⟨hc2, hf2⟩ := bcell hb2
  have s2 := hb2.size
  try simp at s2
  try have hd2 := fun b o (h : b < w1.heap.size) => hc2 b o (by first | omega | (simp; omega) | simp)
  try have he2 := fun b o (h : b < w1.heap.size) => hf2 b o (by first | omega | (simp; omega) | simp)
  try have z2_0 : w.heap.size < w2.heap.size := by omega
  try have z2_1 : w.heap.size + 1 < w2.heap.size := by omega
  try have z2_2 : w.heap.size + 1 + 1 < w2.heap.size := by omega
  try have z2_3 : w.heap.size + 1 + 1 + 1 < w2.heap.size := by omega
  try have z2_4 : w1.heap.size < w2.heap.size := by omega
  try have z2_5 : w1.heap.size + 1 < w2.heap.size := by omega
  try have n2_1 : ¬ w2.heap.size = w1.heap.size := by omega
  try have m2_1 : ¬ w1.heap.size = w2.heap.size := by omega
  have c2_wheapsize1_0 : w2.cell? ⟨w.heap.size + 1, 0, none⟩ = some (.int .i64 k) := by go_simp
  have f2_wheapsize1_0 : w2.frozen? ⟨w.heap.size + 1, 0, none⟩ = false := by go_simp
  have c2_wheapsize1_1 : w2.cell? ⟨w.heap.size + 1, 1, none⟩ = some (.int .i64 f) := by go_simp
  have f2_wheapsize1_1 : w2.frozen? ⟨w.heap.size + 1, 1, none⟩ = false := by go_simp
  have c2_wheapsize1_2 : w2.cell? ⟨w.heap.size + 1, 2, none⟩ = some (.int .i64 t) := by go_simp
  have f2_wheapsize1_2 : w2.frozen? ⟨w.heap.size + 1, 2, none⟩ = false := by go_simp
  have c2_wheapsize1_3 : w2.cell? ⟨w.heap.size + 1, 3, none⟩ = some (.int .i64 s) := by go_simp
  have f2_wheapsize1_3 : w2.frozen? ⟨w.heap.size + 1, 3, none⟩ = false := by go_simp
  have c2_wheapsize1_4 : w2.cell? ⟨w.heap.size + 1, 4, none⟩ = some (.int .i64 d) := by go_simp
  have f2_wheapsize1_4 : w2.frozen? ⟨w.heap.size + 1, 4, none⟩ = false := by go_simp
  have c2_wheapsize11_0 : w2.cell? ⟨w.heap.size + 1 + 1, 0, none⟩ = some (.slice A L.length cap) := by go_simp
  have f2_wheapsize11_0 : w2.frozen? ⟨w.heap.size + 1 + 1, 0, none⟩ = false := by go_simp
  have c2_wheapsize11_1 : w2.cell? ⟨w.heap.size + 1 + 1, 1, none⟩ = some (.int .i64 l) := by go_simp
  have f2_wheapsize11_1 : w2.frozen? ⟨w.heap.size + 1 + 1, 1, none⟩ = false := by go_simp
  clear hc2 hf2
  try clear hd2 he2
  rcases HR2.out.1.open_ with ⟨h0, _⟩ | ⟨h0, b2, o2, cp, hv2, hn2, hx2, hlt2, hcell2⟩
  · simp at h0
  injection hv2 with e1 e2 e3
  subst e1 e3
  obtain ⟨d0, d1⟩ := RowM.cells hcell2 L.length (now, body) (by simp)
  have HP := Lib.hid (prefix_row HR2.out)
  have hneg : (0 : Int) ≤ (L.length : Int) := by omega
  have g0 : L.length < L.length + 1 := by omega
  have g1 : (L.length : Int) < (L.length : Int) + 1 := by omega
  have g2 : (L.length : Int) ≤ (cap2 : Int) := by simp at hn2; omega
  have hne := @neq_msg
  have hself := @msgEq_self
  clear hcell2 hn2 h0
  go_wp2_with fail
  refine (same_any _ _ l l L L _ (by refine SlI.ex ⟨?lo7, ?hi7, ?main7⟩; case main7 => ((repeat (first | with_reducible exact HP.out | with_reducible refine SlI.setCell ?_ ?_ _ | with_reducible refine SlI.alloc ?_ _ | with_reducible refine SlI.drew ?_ | with_reducible refine SlI.drewN ?_ _ | exact HP.out)); all_goals first | omega | (simp; omega) | simp)) (by refine SlI.ex ⟨?lo8, ?hi8, ?main8⟩; case main8 => ((repeat (first | with_reducible exact H.out | with_reducible refine SlI.setCell ?_ ?_ _ | with_reducible refine SlI.alloc ?_ _ | with_reducible refine SlI.drew ?_ | with_reducible refine SlI.drewN ?_ _ | with_reducible refine SlI.below ?_ hb2 ?_ | with_reducible refine SlI.below ?_ hb1 ?_ | exact H.out)); all_goals first | omega | (simp; omega) | simp)) (by omega) (by omega)).mono ?_
  rintro e w3 ⟨rfl, hb3⟩
  obtain ⟨hc3, hf3⟩ := bcell hb3
  have s3 := hb3.size
  try simp at s3
  try have hd3 := fun b o (h : b < w2.heap.size) => hc3 b o (by first | omega | (simp; omega) | simp)
  try have he3 := fun b o (h : b < w2.heap.size) => hf3 b o (by first | omega | (simp; omega) | simp)
  try have z3_0 : w.heap.size < w3.heap.size := by omega
  try have z3_1 : w.heap.size + 1 < w3.heap.size := by omega
  try have z3_2 : w.heap.size + 1 + 1 < w3.heap.size := by omega
  try have z3_3 : w.heap.size + 1 + 1 + 1 < w3.heap.size := by omega
  try have z3_4 : w1.heap.size < w3.heap.size := by omega
  try have z3_5 : w2.heap.size < w3.heap.size := by omega
  try have z3_6 : w1.heap.size + 1 < w3.heap.size := by omega
  try have z3_7 : w2.heap.size + 1 < w3.heap.size := by omega
  go_wp2
  go_ret
  refine ⟨ret_bool (by simp), ?_⟩
  repeat (first
    | exact Below.refl _ _
    | exact hb1
    | exact hb2
    | exact hb3
    | refine Below.drew ?_
    | refine below_drewN ?_ _
    | refine below_drewN ?_ _
    | refine Below.alloc ?_ (by first | omega | (simp; omega) | simp) _
    | refine Below.setCell ?_ (by first | omega | (simp; omega) | simp) _
    | refine Below.trans ?_ (hb3.mono (by first | omega | (simp; omega) | simp))
    | refine Below.trans ?_ (hb2.mono (by first | omega | (simp; omega) | simp))
    | refine Below.trans ?_ (hb1.mono (by first | omega | (simp; omega) | simp)))

theorem adds_walk (k f t s d : Int) (v : Value) (l now : Int) (body : ByteArray) (L : List Msg) (w : World) (h : RowM w v L) (hm : L.length ≤ 5864062014700) (hbs : body.size ≤ 140737488351232) :
    Calls Try.prog 7 #[addV k f t s d v l now body] w fun e w' => e = .returned (.bool true) ∧ Below w.heap.size w w' := by
  by_cases h3 : s < (body.size : Int)
  · exact adds_big k f t s d v l now body L w h hm hbs h3
  by_cases h1 : k = 1
  · exact adds_sample k f t s d v l now body L w h hm hbs (by omega) (by simpa using h1)
  by_cases h2 : (L.length : Int) < d
  · exact adds_queue k f t s d v l now body L w h hm hbs (by omega) (by simpa using h1) h2
  exact adds_full k f t s d v l now body L w h hm hbs (by omega) (by simpa using h1) (by omega)
end Go.Proofs.Ytecpnblhhjndgaa
