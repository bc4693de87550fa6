/- The document's example for ports. -/
import Derived.Test.YtecpnblhhjndgaaPorD
import Derived.Test.YtecpnblhhjndgaaRowI
namespace Go.Proofs.Ytecpnblhhjndgaa
open Go.RowKit
set_option linter.unusedVariables false

theorem send_full_at (k f t s d l now l' : Int) (v : Value) (L : List Msg) (body : ByteArray) (w : World) (h : RowM w v L) (hm : L.length ≤ 5864062014805) (hb : (body.size : Int) ≤ s) (hbs : body.size ≤ 9223372036854775807) (hk : (k == 1) = false) (hd : d ≤ (L.length : Int)) (hl : wrap64 (l + 1) = l') :
    Calls Try.prog 11 #[chanV k f t s d, boxV v l, .int .u64 now, .string body] w (RetSend L l' 0 w.heap.size w) := by
  subst hl
  exact send_full k f t s d l now v L body w h hm hb hbs hk hd

set_option maxHeartbeats 4000000 in
theorem shown_any (w : World) : Calls Try.prog 10 #[] w fun e w' => e = .returned (.bool true) ∧ Below w.heap.size w w' := by
  go_enter Try.func10, Try.ntmps10
  go_wp2_with fail
  refine (send_queue 2 0 1 4 1 0 1 _ [] ⟨#[97]⟩ _ (RowM.nil _) (by decide) (by decide) (by decide) (by decide) (by decide)).mono ?_
  rintro e w1 ⟨A1, cap1, rfl, hr1, hb1⟩
  have HR1 := Lib.hid (SlI.of_own (OwnM.own hr1))
  clear hr1
  obtain ⟨hc1, hf1⟩ := bcell hb1
  have s1 := hb1.size
  try simp at s1
  try have hd1 := fun b o (h : b < w.heap.size) => hc1 b o (by first | omega | (simp; omega) | simp)
  try have he1 := fun b o (h : b < w.heap.size) => hf1 b o (by first | omega | (simp; omega) | simp)
  try have z1_0 : w.heap.size < w1.heap.size := by omega
  try have z1_1 : w.heap.size + 1 < w1.heap.size := by omega
  try have z1_2 : w.heap.size + 1 + 1 < w1.heap.size := by omega
  try have z1_3 : w.heap.size + 1 + 1 + 1 < w1.heap.size := by omega
  go_wp2_with fail
  refine (send_full_at 2 0 1 4 1 0 2 1 _ [(1, ⟨#[97]⟩)] ⟨#[98]⟩ _ (by refine SlI.ex ⟨?lo1, ?hi1, ?main1⟩; case main1 => ((repeat (first | with_reducible exact HR1.out | with_reducible refine SlI.setCell ?_ ?_ _ | with_reducible refine SlI.alloc ?_ _ | with_reducible refine SlI.drew ?_ | with_reducible refine SlI.drewN ?_ _ | exact HR1.out)); all_goals first | omega | (simp; omega) | simp)) (by decide) (by decide) (by decide) (by decide) (by decide) (by simp [wrap64])).mono ?_
  rintro e w2 ⟨A2, cap2, rfl, hr2, hb2⟩
  have HR2 := Lib.hid (SlI.of_own (OwnM.own hr2))
  clear hr2
  obtain ⟨hc2, hf2⟩ := bcell hb2
  have s2 := hb2.size
  try simp at s2
  try have hd2 := fun b o (h : b < w1.heap.size) => hc2 b o (by first | omega | (simp; omega) | simp)
  try have he2 := fun b o (h : b < w1.heap.size) => hf2 b o (by first | omega | (simp; omega) | simp)
  try have z2_0 : w.heap.size < w2.heap.size := by omega
  try have z2_1 : w.heap.size + 1 < w2.heap.size := by omega
  try have z2_2 : w.heap.size + 1 + 1 < w2.heap.size := by omega
  try have z2_3 : w.heap.size + 1 + 1 + 1 < w2.heap.size := by omega
  try have z2_4 : w1.heap.size < w2.heap.size := by omega
  try have z2_5 : w1.heap.size + 1 < w2.heap.size := by omega
  try have n2_1 : ¬ w2.heap.size = w1.heap.size := by omega
  try have m2_1 : ¬ w1.heap.size = w2.heap.size := by omega
  have c2_wheapsize1_0 : w2.cell? ⟨w.heap.size + 1, 0, none⟩ = some (.int .i64 1) := by go_simp
  have f2_wheapsize1_0 : w2.frozen? ⟨w.heap.size + 1, 0, none⟩ = false := by go_simp
  have c2_wheapsize1_1 : w2.cell? ⟨w.heap.size + 1, 1, none⟩ = some (.int .i64 0) := by go_simp
  have f2_wheapsize1_1 : w2.frozen? ⟨w.heap.size + 1, 1, none⟩ = false := by go_simp
  have c2_wheapsize1_2 : w2.cell? ⟨w.heap.size + 1, 2, none⟩ = some (.int .i64 1) := by go_simp
  have f2_wheapsize1_2 : w2.frozen? ⟨w.heap.size + 1, 2, none⟩ = false := by go_simp
  have c2_wheapsize1_3 : w2.cell? ⟨w.heap.size + 1, 3, none⟩ = some (.int .i64 4) := by go_simp
  have f2_wheapsize1_3 : w2.frozen? ⟨w.heap.size + 1, 3, none⟩ = false := by go_simp
  have c2_wheapsize1_4 : w2.cell? ⟨w.heap.size + 1, 4, none⟩ = some (.int .i64 1) := by go_simp
  have f2_wheapsize1_4 : w2.frozen? ⟨w.heap.size + 1, 4, none⟩ = false := by go_simp
  have c2_wheapsize_0 : w2.cell? ⟨w.heap.size, 0, none⟩ = some (.int .i64 2) := by go_simp
  have f2_wheapsize_0 : w2.frozen? ⟨w.heap.size, 0, none⟩ = false := by go_simp
  have c2_wheapsize_1 : w2.cell? ⟨w.heap.size, 1, none⟩ = some (.int .i64 0) := by go_simp
  have f2_wheapsize_1 : w2.frozen? ⟨w.heap.size, 1, none⟩ = false := by go_simp
  have c2_wheapsize_2 : w2.cell? ⟨w.heap.size, 2, none⟩ = some (.int .i64 1) := by go_simp
  have f2_wheapsize_2 : w2.frozen? ⟨w.heap.size, 2, none⟩ = false := by go_simp
  have c2_wheapsize_3 : w2.cell? ⟨w.heap.size, 3, none⟩ = some (.int .i64 4) := by go_simp
  have f2_wheapsize_3 : w2.frozen? ⟨w.heap.size, 3, none⟩ = false := by go_simp
  have c2_wheapsize_4 : w2.cell? ⟨w.heap.size, 4, none⟩ = some (.int .i64 1) := by go_simp
  have f2_wheapsize_4 : w2.frozen? ⟨w.heap.size, 4, none⟩ = false := by go_simp
  have c2_w1heapsize_0 : w2.cell? ⟨w1.heap.size, 0, none⟩ = some (.slice A1 1 cap1) := by go_simp
  have f2_w1heapsize_0 : w2.frozen? ⟨w1.heap.size, 0, none⟩ = false := by go_simp
  have c2_w1heapsize_1 : w2.cell? ⟨w1.heap.size, 1, none⟩ = some (.int .i64 0) := by go_simp
  have f2_w1heapsize_1 : w2.frozen? ⟨w1.heap.size, 1, none⟩ = false := by go_simp
  clear hc2 hf2
  try clear hd2 he2
  go_wp2_with fail
  refine (take_queue 2 0 1 4 1 1 _ (1, ⟨#[97]⟩) [(1, ⟨#[97]⟩)] _ (by refine SlI.ex ⟨?lo2, ?hi2, ?main2⟩; case main2 => ((repeat (first | with_reducible exact HR2.out | with_reducible refine SlI.setCell ?_ ?_ _ | with_reducible refine SlI.alloc ?_ _ | with_reducible refine SlI.drew ?_ | with_reducible refine SlI.drewN ?_ _ | exact HR2.out)); all_goals first | omega | (simp; omega) | simp)) (by decide) rfl (by decide)).mono ?_
  rintro e w3 ⟨A3, cap3, rfl, hr3, hb3⟩
  have HR3 := Lib.hid (SlI.of_own (OwnM.own hr3))
  clear hr3
  obtain ⟨hc3, hf3⟩ := bcell hb3
  have s3 := hb3.size
  try simp at s3
  try have hd3 := fun b o (h : b < w2.heap.size) => hc3 b o (by first | omega | (simp; omega) | simp)
  try have he3 := fun b o (h : b < w2.heap.size) => hf3 b o (by first | omega | (simp; omega) | simp)
  try have z3_0 : w.heap.size < w3.heap.size := by omega
  try have z3_1 : w.heap.size + 1 < w3.heap.size := by omega
  try have z3_2 : w.heap.size + 1 + 1 < w3.heap.size := by omega
  try have z3_3 : w.heap.size + 1 + 1 + 1 < w3.heap.size := by omega
  try have z3_4 : w1.heap.size < w3.heap.size := by omega
  try have z3_5 : w2.heap.size < w3.heap.size := by omega
  try have z3_6 : w1.heap.size + 1 < w3.heap.size := by omega
  try have z3_7 : w2.heap.size + 1 < w3.heap.size := by omega
  try have n3_1 : ¬ w3.heap.size = w1.heap.size := by omega
  try have n3_2 : ¬ w3.heap.size = w2.heap.size := by omega
  try have m3_1 : ¬ w1.heap.size = w3.heap.size := by omega
  try have m3_2 : ¬ w2.heap.size = w3.heap.size := by omega
  have c3_wheapsize1_0 : w3.cell? ⟨w.heap.size + 1, 0, none⟩ = some (.int .i64 1) := by go_simp
  have f3_wheapsize1_0 : w3.frozen? ⟨w.heap.size + 1, 0, none⟩ = false := by go_simp
  have c3_wheapsize1_1 : w3.cell? ⟨w.heap.size + 1, 1, none⟩ = some (.int .i64 0) := by go_simp
  have f3_wheapsize1_1 : w3.frozen? ⟨w.heap.size + 1, 1, none⟩ = false := by go_simp
  have c3_wheapsize1_2 : w3.cell? ⟨w.heap.size + 1, 2, none⟩ = some (.int .i64 1) := by go_simp
  have f3_wheapsize1_2 : w3.frozen? ⟨w.heap.size + 1, 2, none⟩ = false := by go_simp
  have c3_wheapsize1_3 : w3.cell? ⟨w.heap.size + 1, 3, none⟩ = some (.int .i64 4) := by go_simp
  have f3_wheapsize1_3 : w3.frozen? ⟨w.heap.size + 1, 3, none⟩ = false := by go_simp
  have c3_wheapsize1_4 : w3.cell? ⟨w.heap.size + 1, 4, none⟩ = some (.int .i64 1) := by go_simp
  have f3_wheapsize1_4 : w3.frozen? ⟨w.heap.size + 1, 4, none⟩ = false := by go_simp
  have c3_w1heapsize_0 : w3.cell? ⟨w1.heap.size, 0, none⟩ = some (.slice A2 1 cap2) := by go_simp
  have f3_w1heapsize_0 : w3.frozen? ⟨w1.heap.size, 0, none⟩ = false := by go_simp
  have c3_w1heapsize_1 : w3.cell? ⟨w1.heap.size, 1, none⟩ = some (.int .i64 1) := by go_simp
  have f3_w1heapsize_1 : w3.frozen? ⟨w1.heap.size, 1, none⟩ = false := by go_simp
  clear hc3 hf3
  try clear hd3 he3
  go_wp2_with fail
  refine (send_sample 1 0 1 4 1 0 1 _ [] ⟨#[97]⟩ _ (RowM.nil _) (by decide) (by decide) (by decide) (by decide)).mono ?_
  rintro e w4 ⟨A4, cap4, rfl, hr4, hb4⟩
  have HR4 := Lib.hid (SlI.of_own (OwnM.own hr4))
  clear hr4
  obtain ⟨hc4, hf4⟩ := bcell hb4
  have s4 := hb4.size
  try simp at s4
  try have hd4 := fun b o (h : b < w3.heap.size) => hc4 b o (by first | omega | (simp; omega) | simp)
  try have he4 := fun b o (h : b < w3.heap.size) => hf4 b o (by first | omega | (simp; omega) | simp)
  try have z4_0 : w.heap.size < w4.heap.size := by omega
  try have z4_1 : w.heap.size + 1 < w4.heap.size := by omega
  try have z4_2 : w.heap.size + 1 + 1 < w4.heap.size := by omega
  try have z4_3 : w.heap.size + 1 + 1 + 1 < w4.heap.size := by omega
  try have z4_4 : w1.heap.size < w4.heap.size := by omega
  try have z4_5 : w2.heap.size < w4.heap.size := by omega
  try have z4_6 : w3.heap.size < w4.heap.size := by omega
  try have z4_7 : w1.heap.size + 1 < w4.heap.size := by omega
  try have z4_8 : w2.heap.size + 1 < w4.heap.size := by omega
  try have z4_9 : w3.heap.size + 1 < w4.heap.size := by omega
  try have n4_1 : ¬ w4.heap.size = w1.heap.size := by omega
  try have n4_2 : ¬ w4.heap.size = w2.heap.size := by omega
  try have n4_3 : ¬ w4.heap.size = w3.heap.size := by omega
  try have m4_1 : ¬ w1.heap.size = w4.heap.size := by omega
  try have m4_2 : ¬ w2.heap.size = w4.heap.size := by omega
  try have m4_3 : ¬ w3.heap.size = w4.heap.size := by omega
  have c4_wheapsize1_0 : w4.cell? ⟨w.heap.size + 1, 0, none⟩ = some (.int .i64 1) := by go_simp
  have f4_wheapsize1_0 : w4.frozen? ⟨w.heap.size + 1, 0, none⟩ = false := by go_simp
  have c4_wheapsize1_1 : w4.cell? ⟨w.heap.size + 1, 1, none⟩ = some (.int .i64 0) := by go_simp
  have f4_wheapsize1_1 : w4.frozen? ⟨w.heap.size + 1, 1, none⟩ = false := by go_simp
  have c4_wheapsize1_2 : w4.cell? ⟨w.heap.size + 1, 2, none⟩ = some (.int .i64 1) := by go_simp
  have f4_wheapsize1_2 : w4.frozen? ⟨w.heap.size + 1, 2, none⟩ = false := by go_simp
  have c4_wheapsize1_3 : w4.cell? ⟨w.heap.size + 1, 3, none⟩ = some (.int .i64 4) := by go_simp
  have f4_wheapsize1_3 : w4.frozen? ⟨w.heap.size + 1, 3, none⟩ = false := by go_simp
  have c4_wheapsize1_4 : w4.cell? ⟨w.heap.size + 1, 4, none⟩ = some (.int .i64 1) := by go_simp
  have f4_wheapsize1_4 : w4.frozen? ⟨w.heap.size + 1, 4, none⟩ = false := by go_simp
  have c4_w1heapsize_0 : w4.cell? ⟨w1.heap.size, 0, none⟩ = some (.slice A2 1 cap2) := by go_simp
  have f4_w1heapsize_0 : w4.frozen? ⟨w1.heap.size, 0, none⟩ = false := by go_simp
  have c4_w1heapsize_1 : w4.cell? ⟨w1.heap.size, 1, none⟩ = some (.int .i64 1) := by go_simp
  have f4_w1heapsize_1 : w4.frozen? ⟨w1.heap.size, 1, none⟩ = false := by go_simp
  have c4_w3heapsize_0 : w4.cell? ⟨w3.heap.size, 0, none⟩ = some (.slice A3 0 cap3) := by go_simp
  have f4_w3heapsize_0 : w4.frozen? ⟨w3.heap.size, 0, none⟩ = false := by go_simp
  have c4_w3heapsize_1 : w4.cell? ⟨w3.heap.size, 1, none⟩ = some (.int .i64 1) := by go_simp
  have f4_w3heapsize_1 : w4.frozen? ⟨w3.heap.size, 1, none⟩ = false := by go_simp
  have c4_w3heapsize1_0 : w4.cell? ⟨w3.heap.size + 1, 0, none⟩ = some (.int .u64 1) := by go_simp
  have f4_w3heapsize1_0 : w4.frozen? ⟨w3.heap.size + 1, 0, none⟩ = false := by go_simp
  have c4_w3heapsize1_1 : w4.cell? ⟨w3.heap.size + 1, 1, none⟩ = some (.string ⟨#[97]⟩) := by go_simp
  have f4_w3heapsize1_1 : w4.frozen? ⟨w3.heap.size + 1, 1, none⟩ = false := by go_simp
  clear hc4 hf4
  try clear hd4 he4
  go_wp2_with fail
  refine (send_sample 1 0 1 4 1 0 2 _ [(1, ⟨#[97]⟩)] ⟨#[98]⟩ _ (by refine SlI.ex ⟨?lo3, ?hi3, ?main3⟩; case main3 => ((repeat (first | with_reducible exact HR4.out | with_reducible refine SlI.setCell ?_ ?_ _ | with_reducible refine SlI.alloc ?_ _ | with_reducible refine SlI.drew ?_ | with_reducible refine SlI.drewN ?_ _ | exact HR4.out)); all_goals first | omega | (simp; omega) | simp)) (by decide) (by decide) (by decide) (by decide)).mono ?_
  rintro e w5 ⟨A5, cap5, rfl, hr5, hb5⟩
  have HR5 := Lib.hid (SlI.of_own (OwnM.own hr5))
  clear hr5
  obtain ⟨hc5, hf5⟩ := bcell hb5
  have s5 := hb5.size
  try simp at s5
  try have hd5 := fun b o (h : b < w4.heap.size) => hc5 b o (by first | omega | (simp; omega) | simp)
  try have he5 := fun b o (h : b < w4.heap.size) => hf5 b o (by first | omega | (simp; omega) | simp)
  try have z5_0 : w.heap.size < w5.heap.size := by omega
  try have z5_1 : w.heap.size + 1 < w5.heap.size := by omega
  try have z5_2 : w.heap.size + 1 + 1 < w5.heap.size := by omega
  try have z5_3 : w.heap.size + 1 + 1 + 1 < w5.heap.size := by omega
  try have z5_4 : w1.heap.size < w5.heap.size := by omega
  try have z5_5 : w2.heap.size < w5.heap.size := by omega
  try have z5_6 : w3.heap.size < w5.heap.size := by omega
  try have z5_7 : w4.heap.size < w5.heap.size := by omega
  try have z5_8 : w1.heap.size + 1 < w5.heap.size := by omega
  try have z5_9 : w2.heap.size + 1 < w5.heap.size := by omega
  try have z5_10 : w3.heap.size + 1 < w5.heap.size := by omega
  try have z5_11 : w4.heap.size + 1 < w5.heap.size := by omega
  try have n5_1 : ¬ w5.heap.size = w1.heap.size := by omega
  try have n5_2 : ¬ w5.heap.size = w2.heap.size := by omega
  try have n5_3 : ¬ w5.heap.size = w3.heap.size := by omega
  try have n5_4 : ¬ w5.heap.size = w4.heap.size := by omega
  try have m5_1 : ¬ w1.heap.size = w5.heap.size := by omega
  try have m5_2 : ¬ w2.heap.size = w5.heap.size := by omega
  try have m5_3 : ¬ w3.heap.size = w5.heap.size := by omega
  try have m5_4 : ¬ w4.heap.size = w5.heap.size := by omega
  have c5_wheapsize1_0 : w5.cell? ⟨w.heap.size + 1, 0, none⟩ = some (.int .i64 1) := by go_simp
  have f5_wheapsize1_0 : w5.frozen? ⟨w.heap.size + 1, 0, none⟩ = false := by go_simp
  have c5_wheapsize1_1 : w5.cell? ⟨w.heap.size + 1, 1, none⟩ = some (.int .i64 0) := by go_simp
  have f5_wheapsize1_1 : w5.frozen? ⟨w.heap.size + 1, 1, none⟩ = false := by go_simp
  have c5_wheapsize1_2 : w5.cell? ⟨w.heap.size + 1, 2, none⟩ = some (.int .i64 1) := by go_simp
  have f5_wheapsize1_2 : w5.frozen? ⟨w.heap.size + 1, 2, none⟩ = false := by go_simp
  have c5_wheapsize1_3 : w5.cell? ⟨w.heap.size + 1, 3, none⟩ = some (.int .i64 4) := by go_simp
  have f5_wheapsize1_3 : w5.frozen? ⟨w.heap.size + 1, 3, none⟩ = false := by go_simp
  have c5_wheapsize1_4 : w5.cell? ⟨w.heap.size + 1, 4, none⟩ = some (.int .i64 1) := by go_simp
  have f5_wheapsize1_4 : w5.frozen? ⟨w.heap.size + 1, 4, none⟩ = false := by go_simp
  have c5_w1heapsize_0 : w5.cell? ⟨w1.heap.size, 0, none⟩ = some (.slice A2 1 cap2) := by go_simp
  have f5_w1heapsize_0 : w5.frozen? ⟨w1.heap.size, 0, none⟩ = false := by go_simp
  have c5_w1heapsize_1 : w5.cell? ⟨w1.heap.size, 1, none⟩ = some (.int .i64 1) := by go_simp
  have f5_w1heapsize_1 : w5.frozen? ⟨w1.heap.size, 1, none⟩ = false := by go_simp
  have c5_w3heapsize_0 : w5.cell? ⟨w3.heap.size, 0, none⟩ = some (.slice A3 0 cap3) := by go_simp
  have f5_w3heapsize_0 : w5.frozen? ⟨w3.heap.size, 0, none⟩ = false := by go_simp
  have c5_w3heapsize_1 : w5.cell? ⟨w3.heap.size, 1, none⟩ = some (.int .i64 1) := by go_simp
  have f5_w3heapsize_1 : w5.frozen? ⟨w3.heap.size, 1, none⟩ = false := by go_simp
  have c5_w3heapsize1_0 : w5.cell? ⟨w3.heap.size + 1, 0, none⟩ = some (.int .u64 1) := by go_simp
  have f5_w3heapsize1_0 : w5.frozen? ⟨w3.heap.size + 1, 0, none⟩ = false := by go_simp
  have c5_w3heapsize1_1 : w5.cell? ⟨w3.heap.size + 1, 1, none⟩ = some (.string ⟨#[97]⟩) := by go_simp
  have f5_w3heapsize1_1 : w5.frozen? ⟨w3.heap.size + 1, 1, none⟩ = false := by go_simp
  have c5_w4heapsize_0 : w5.cell? ⟨w4.heap.size, 0, none⟩ = some (.slice A4 1 cap4) := by go_simp
  have f5_w4heapsize_0 : w5.frozen? ⟨w4.heap.size, 0, none⟩ = false := by go_simp
  have c5_w4heapsize_1 : w5.cell? ⟨w4.heap.size, 1, none⟩ = some (.int .i64 0) := by go_simp
  have f5_w4heapsize_1 : w5.frozen? ⟨w4.heap.size, 1, none⟩ = false := by go_simp
  clear hc5 hf5
  try clear hd5 he5
  go_wp2_with fail
  refine (take_sample 1 0 1 4 1 0 _ (2, ⟨#[98]⟩) [(2, ⟨#[98]⟩)] _ (by refine SlI.ex ⟨?lo4, ?hi4, ?main4⟩; case main4 => ((repeat (first | with_reducible exact HR5.out | with_reducible refine SlI.setCell ?_ ?_ _ | with_reducible refine SlI.alloc ?_ _ | with_reducible refine SlI.drew ?_ | with_reducible refine SlI.drewN ?_ _ | exact HR5.out)); all_goals first | omega | (simp; omega) | simp)) (by decide) rfl (by decide)).mono ?_
  rintro e w6 ⟨A6, cap6, rfl, hr6, hb6⟩
  have HR6 := Lib.hid (SlI.of_own (OwnM.own hr6))
  clear hr6
  obtain ⟨hc6, hf6⟩ := bcell hb6
  have s6 := hb6.size
  try simp at s6
  try have hd6 := fun b o (h : b < w5.heap.size) => hc6 b o (by first | omega | (simp; omega) | simp)
  try have he6 := fun b o (h : b < w5.heap.size) => hf6 b o (by first | omega | (simp; omega) | simp)
  try have z6_0 : w.heap.size < w6.heap.size := by omega
  try have z6_1 : w.heap.size + 1 < w6.heap.size := by omega
  try have z6_2 : w.heap.size + 1 + 1 < w6.heap.size := by omega
  try have z6_3 : w.heap.size + 1 + 1 + 1 < w6.heap.size := by omega
  try have z6_4 : w1.heap.size < w6.heap.size := by omega
  try have z6_5 : w2.heap.size < w6.heap.size := by omega
  try have z6_6 : w3.heap.size < w6.heap.size := by omega
  try have z6_7 : w4.heap.size < w6.heap.size := by omega
  try have z6_8 : w5.heap.size < w6.heap.size := by omega
  try have z6_9 : w1.heap.size + 1 < w6.heap.size := by omega
  try have z6_10 : w2.heap.size + 1 < w6.heap.size := by omega
  try have z6_11 : w3.heap.size + 1 < w6.heap.size := by omega
  try have z6_12 : w4.heap.size + 1 < w6.heap.size := by omega
  try have z6_13 : w5.heap.size + 1 < w6.heap.size := by omega
  try have n6_1 : ¬ w6.heap.size = w1.heap.size := by omega
  try have n6_2 : ¬ w6.heap.size = w2.heap.size := by omega
  try have n6_3 : ¬ w6.heap.size = w3.heap.size := by omega
  try have n6_4 : ¬ w6.heap.size = w4.heap.size := by omega
  try have n6_5 : ¬ w6.heap.size = w5.heap.size := by omega
  try have m6_1 : ¬ w1.heap.size = w6.heap.size := by omega
  try have m6_2 : ¬ w2.heap.size = w6.heap.size := by omega
  try have m6_3 : ¬ w3.heap.size = w6.heap.size := by omega
  try have m6_4 : ¬ w4.heap.size = w6.heap.size := by omega
  try have m6_5 : ¬ w5.heap.size = w6.heap.size := by omega
  have c6_wheapsize1_0 : w6.cell? ⟨w.heap.size + 1, 0, none⟩ = some (.int .i64 1) := by go_simp
  have f6_wheapsize1_0 : w6.frozen? ⟨w.heap.size + 1, 0, none⟩ = false := by go_simp
  have c6_wheapsize1_1 : w6.cell? ⟨w.heap.size + 1, 1, none⟩ = some (.int .i64 0) := by go_simp
  have f6_wheapsize1_1 : w6.frozen? ⟨w.heap.size + 1, 1, none⟩ = false := by go_simp
  have c6_wheapsize1_2 : w6.cell? ⟨w.heap.size + 1, 2, none⟩ = some (.int .i64 1) := by go_simp
  have f6_wheapsize1_2 : w6.frozen? ⟨w.heap.size + 1, 2, none⟩ = false := by go_simp
  have c6_wheapsize1_3 : w6.cell? ⟨w.heap.size + 1, 3, none⟩ = some (.int .i64 4) := by go_simp
  have f6_wheapsize1_3 : w6.frozen? ⟨w.heap.size + 1, 3, none⟩ = false := by go_simp
  have c6_wheapsize1_4 : w6.cell? ⟨w.heap.size + 1, 4, none⟩ = some (.int .i64 1) := by go_simp
  have f6_wheapsize1_4 : w6.frozen? ⟨w.heap.size + 1, 4, none⟩ = false := by go_simp
  have c6_w1heapsize_0 : w6.cell? ⟨w1.heap.size, 0, none⟩ = some (.slice A2 1 cap2) := by go_simp
  have f6_w1heapsize_0 : w6.frozen? ⟨w1.heap.size, 0, none⟩ = false := by go_simp
  have c6_w1heapsize_1 : w6.cell? ⟨w1.heap.size, 1, none⟩ = some (.int .i64 1) := by go_simp
  have f6_w1heapsize_1 : w6.frozen? ⟨w1.heap.size, 1, none⟩ = false := by go_simp
  have c6_w3heapsize_0 : w6.cell? ⟨w3.heap.size, 0, none⟩ = some (.slice A3 0 cap3) := by go_simp
  have f6_w3heapsize_0 : w6.frozen? ⟨w3.heap.size, 0, none⟩ = false := by go_simp
  have c6_w3heapsize_1 : w6.cell? ⟨w3.heap.size, 1, none⟩ = some (.int .i64 1) := by go_simp
  have f6_w3heapsize_1 : w6.frozen? ⟨w3.heap.size, 1, none⟩ = false := by go_simp
  have c6_w3heapsize1_0 : w6.cell? ⟨w3.heap.size + 1, 0, none⟩ = some (.int .u64 1) := by go_simp
  have f6_w3heapsize1_0 : w6.frozen? ⟨w3.heap.size + 1, 0, none⟩ = false := by go_simp
  have c6_w3heapsize1_1 : w6.cell? ⟨w3.heap.size + 1, 1, none⟩ = some (.string ⟨#[97]⟩) := by go_simp
  have f6_w3heapsize1_1 : w6.frozen? ⟨w3.heap.size + 1, 1, none⟩ = false := by go_simp
  have c6_w4heapsize_0 : w6.cell? ⟨w4.heap.size, 0, none⟩ = some (.slice A5 1 cap5) := by go_simp
  have f6_w4heapsize_0 : w6.frozen? ⟨w4.heap.size, 0, none⟩ = false := by go_simp
  have c6_w4heapsize_1 : w6.cell? ⟨w4.heap.size, 1, none⟩ = some (.int .i64 0) := by go_simp
  have f6_w4heapsize_1 : w6.frozen? ⟨w4.heap.size, 1, none⟩ = false := by go_simp
  clear hc6 hf6
  try clear hd6 he6
  go_wp2_with fail
  refine (take_sample 1 0 1 4 1 0 _ (2, ⟨#[98]⟩) [(2, ⟨#[98]⟩)] _ (by refine SlI.ex ⟨?lo5, ?hi5, ?main5⟩; case main5 => ((repeat (first | with_reducible exact HR6.out | with_reducible refine SlI.setCell ?_ ?_ _ | with_reducible refine SlI.alloc ?_ _ | with_reducible refine SlI.drew ?_ | with_reducible refine SlI.drewN ?_ _ | exact HR6.out)); all_goals first | omega | (simp; omega) | simp)) (by decide) rfl (by decide)).mono ?_
  rintro e w7 ⟨A7, cap7, rfl, hr7, hb7⟩
  have HR7 := Lib.hid (SlI.of_own (OwnM.own hr7))
  clear hr7
  obtain ⟨hc7, hf7⟩ := bcell hb7
  have s7 := hb7.size
  try simp at s7
  try have hd7 := fun b o (h : b < w6.heap.size) => hc7 b o (by first | omega | (simp; omega) | simp)
  try have he7 := fun b o (h : b < w6.heap.size) => hf7 b o (by first | omega | (simp; omega) | simp)
  try have z7_0 : w.heap.size < w7.heap.size := by omega
  try have z7_1 : w.heap.size + 1 < w7.heap.size := by omega
  try have z7_2 : w.heap.size + 1 + 1 < w7.heap.size := by omega
  try have z7_3 : w.heap.size + 1 + 1 + 1 < w7.heap.size := by omega
  try have z7_4 : w1.heap.size < w7.heap.size := by omega
  try have z7_5 : w2.heap.size < w7.heap.size := by omega
  try have z7_6 : w3.heap.size < w7.heap.size := by omega
  try have z7_7 : w4.heap.size < w7.heap.size := by omega
  try have z7_8 : w5.heap.size < w7.heap.size := by omega
  try have z7_9 : w6.heap.size < w7.heap.size := by omega
  try have z7_10 : w1.heap.size + 1 < w7.heap.size := by omega
  try have z7_11 : w2.heap.size + 1 < w7.heap.size := by omega
  try have z7_12 : w3.heap.size + 1 < w7.heap.size := by omega
  try have z7_13 : w4.heap.size + 1 < w7.heap.size := by omega
  try have z7_14 : w5.heap.size + 1 < w7.heap.size := by omega
  try have z7_15 : w6.heap.size + 1 < w7.heap.size := by omega
  try have n7_1 : ¬ w7.heap.size = w1.heap.size := by omega
  try have n7_2 : ¬ w7.heap.size = w2.heap.size := by omega
  try have n7_3 : ¬ w7.heap.size = w3.heap.size := by omega
  try have n7_4 : ¬ w7.heap.size = w4.heap.size := by omega
  try have n7_5 : ¬ w7.heap.size = w5.heap.size := by omega
  try have n7_6 : ¬ w7.heap.size = w6.heap.size := by omega
  try have m7_1 : ¬ w1.heap.size = w7.heap.size := by omega
  try have m7_2 : ¬ w2.heap.size = w7.heap.size := by omega
  try have m7_3 : ¬ w3.heap.size = w7.heap.size := by omega
  try have m7_4 : ¬ w4.heap.size = w7.heap.size := by omega
  try have m7_5 : ¬ w5.heap.size = w7.heap.size := by omega
  try have m7_6 : ¬ w6.heap.size = w7.heap.size := by omega
  have c7_w1heapsize_0 : w7.cell? ⟨w1.heap.size, 0, none⟩ = some (.slice A2 1 cap2) := by go_simp
  have f7_w1heapsize_0 : w7.frozen? ⟨w1.heap.size, 0, none⟩ = false := by go_simp
  have c7_w1heapsize_1 : w7.cell? ⟨w1.heap.size, 1, none⟩ = some (.int .i64 1) := by go_simp
  have f7_w1heapsize_1 : w7.frozen? ⟨w1.heap.size, 1, none⟩ = false := by go_simp
  have c7_w3heapsize_0 : w7.cell? ⟨w3.heap.size, 0, none⟩ = some (.slice A3 0 cap3) := by go_simp
  have f7_w3heapsize_0 : w7.frozen? ⟨w3.heap.size, 0, none⟩ = false := by go_simp
  have c7_w3heapsize_1 : w7.cell? ⟨w3.heap.size, 1, none⟩ = some (.int .i64 1) := by go_simp
  have f7_w3heapsize_1 : w7.frozen? ⟨w3.heap.size, 1, none⟩ = false := by go_simp
  have c7_w3heapsize1_0 : w7.cell? ⟨w3.heap.size + 1, 0, none⟩ = some (.int .u64 1) := by go_simp
  have f7_w3heapsize1_0 : w7.frozen? ⟨w3.heap.size + 1, 0, none⟩ = false := by go_simp
  have c7_w3heapsize1_1 : w7.cell? ⟨w3.heap.size + 1, 1, none⟩ = some (.string ⟨#[97]⟩) := by go_simp
  have f7_w3heapsize1_1 : w7.frozen? ⟨w3.heap.size + 1, 1, none⟩ = false := by go_simp
  have c7_w6heapsize_0 : w7.cell? ⟨w6.heap.size, 0, none⟩ = some (.int .u64 2) := by go_simp
  have f7_w6heapsize_0 : w7.frozen? ⟨w6.heap.size, 0, none⟩ = false := by go_simp
  have c7_w6heapsize_1 : w7.cell? ⟨w6.heap.size, 1, none⟩ = some (.string ⟨#[98]⟩) := by go_simp
  have f7_w6heapsize_1 : w7.frozen? ⟨w6.heap.size, 1, none⟩ = false := by go_simp
  clear hc7 hf7
  try clear hd7 he7
  go_wp2_with fail
  refine (waits_any _ [] _ _ (by refine SlI.ex ⟨?lo6, ?hi6, ?main6⟩; case main6 => ((repeat (first | with_reducible exact HR3.out | with_reducible refine SlI.setCell ?_ ?_ _ | with_reducible refine SlI.alloc ?_ _ | with_reducible refine SlI.drew ?_ | with_reducible refine SlI.drewN ?_ _ | with_reducible refine SlI.below ?_ hb7 ?_ | with_reducible refine SlI.below ?_ hb6 ?_ | with_reducible refine SlI.below ?_ hb5 ?_ | with_reducible refine SlI.below ?_ hb4 ?_ | exact HR3.out)); all_goals first | omega | (simp; omega) | simp)) (by decide)).mono ?_
  rintro e w8 ⟨rfl, hb8⟩
  obtain ⟨hc8, hf8⟩ := bcell hb8
  have s8 := hb8.size
  try simp at s8
  try have hd8 := fun b o (h : b < w7.heap.size) => hc8 b o (by first | omega | (simp; omega) | simp)
  try have he8 := fun b o (h : b < w7.heap.size) => hf8 b o (by first | omega | (simp; omega) | simp)
  try have z8_0 : w.heap.size < w8.heap.size := by omega
  try have z8_1 : w.heap.size + 1 < w8.heap.size := by omega
  try have z8_2 : w.heap.size + 1 + 1 < w8.heap.size := by omega
  try have z8_3 : w.heap.size + 1 + 1 + 1 < w8.heap.size := by omega
  try have z8_4 : w1.heap.size < w8.heap.size := by omega
  try have z8_5 : w2.heap.size < w8.heap.size := by omega
  try have z8_6 : w3.heap.size < w8.heap.size := by omega
  try have z8_7 : w4.heap.size < w8.heap.size := by omega
  try have z8_8 : w5.heap.size < w8.heap.size := by omega
  try have z8_9 : w6.heap.size < w8.heap.size := by omega
  try have z8_10 : w7.heap.size < w8.heap.size := by omega
  try have z8_11 : w1.heap.size + 1 < w8.heap.size := by omega
  try have z8_12 : w2.heap.size + 1 < w8.heap.size := by omega
  try have z8_13 : w3.heap.size + 1 < w8.heap.size := by omega
  try have z8_14 : w4.heap.size + 1 < w8.heap.size := by omega
  try have z8_15 : w5.heap.size + 1 < w8.heap.size := by omega
  try have z8_16 : w6.heap.size + 1 < w8.heap.size := by omega
  try have z8_17 : w7.heap.size + 1 < w8.heap.size := by omega
  go_wp2
  go_ret
  refine ⟨rfl, ?_⟩
  repeat (first
    | exact Below.refl _ _
    | exact hb1
    | exact hb2
    | exact hb3
    | exact hb4
    | exact hb5
    | exact hb6
    | exact hb7
    | exact hb8
    | refine Below.drew ?_
    | refine below_drewN ?_ _
    | refine below_drewN ?_ _
    | refine Below.alloc ?_ (by first | omega | (simp; omega) | simp) _
    | refine Below.setCell ?_ (by first | omega | (simp; omega) | simp) _
    | refine Below.trans ?_ (hb8.mono (by first | omega | (simp; omega) | simp))
    | refine Below.trans ?_ (hb7.mono (by first | omega | (simp; omega) | simp))
    | refine Below.trans ?_ (hb6.mono (by first | omega | (simp; omega) | simp))
    | refine Below.trans ?_ (hb5.mono (by first | omega | (simp; omega) | simp))
    | refine Below.trans ?_ (hb4.mono (by first | omega | (simp; omega) | simp))
    | refine Below.trans ?_ (hb3.mono (by first | omega | (simp; omega) | simp))
    | refine Below.trans ?_ (hb2.mono (by first | omega | (simp; omega) | simp))
    | refine Below.trans ?_ (hb1.mono (by first | omega | (simp; omega) | simp)))
end Go.Proofs.Ytecpnblhhjndgaa
