/- PortFull, PortAdds, walked. -/
import Derived.Test.YtecpnblhhjndgaaPorF
namespace Go.Proofs.Ytecpnblhhjndgaa
open Go.RowKit
set_option linter.unusedVariables false

abbrev addV (k f t s d : Int) (v : Value) (l now : Int) (body : ByteArray) : Value := .agg #[.int .i64 k, .int .i64 f, .int .i64 t, .int .i64 s, .int .i64 d, v, .int .i64 l, .int .u64 now, .string body]

set_option maxHeartbeats 2000000 in
theorem full_no0 (k f t s d : Int) (v : Value) (l now : Int) (body : ByteArray) (L : List Msg) (w : World) (h : RowM w v L) (hm : L.length ≤ 5864062014700) (hbs : body.size ≤ 140737488351232) (hk : (k == 1) = true) :
    Calls Try.prog 9 #[addV k f t s d v l now body] w fun e w' => e = .returned (.bool true) ∧ Below w.heap.size w w' := by
  obtain ⟨A, cap, rfl, hnc, _⟩ := Sl.slice h
  have H := Lib.hid (SlI.of_sl h)
  clear h
  go_enter Try.func9, Try.ntmps9
  go_wp2_with fail
  refine (shown_any _).mono ?_
  rintro e w1 ⟨rfl, hb1⟩
  obtain ⟨hc1, hf1⟩ := bcell hb1
  have s1 := hb1.size
  try simp at s1
  try have hd1 := fun b o (h : b < w.heap.size) => hc1 b o (by first | omega | (simp; omega) | simp)
  try have he1 := fun b o (h : b < w.heap.size) => hf1 b o (by first | omega | (simp; omega) | simp)
  try have z1_0 : w.heap.size < w1.heap.size := by omega
  try have z1_1 : w.heap.size + 1 < w1.heap.size := by omega
  try have z1_2 : w.heap.size + 1 + 1 < w1.heap.size := by omega
  try have z1_3 : w.heap.size + 1 + 1 + 1 < w1.heap.size := by omega
  have c1_wheapsize1_0 : w1.cell? ⟨w.heap.size + 1, 0, none⟩ = some (.int .i64 k) := by go_simp
  have f1_wheapsize1_0 : w1.frozen? ⟨w.heap.size + 1, 0, none⟩ = false := by go_simp
  have c1_wheapsize1_1 : w1.cell? ⟨w.heap.size + 1, 1, none⟩ = some (.int .i64 f) := by go_simp
  have f1_wheapsize1_1 : w1.frozen? ⟨w.heap.size + 1, 1, none⟩ = false := by go_simp
  have c1_wheapsize1_2 : w1.cell? ⟨w.heap.size + 1, 2, none⟩ = some (.int .i64 t) := by go_simp
  have f1_wheapsize1_2 : w1.frozen? ⟨w.heap.size + 1, 2, none⟩ = false := by go_simp
  have c1_wheapsize1_3 : w1.cell? ⟨w.heap.size + 1, 3, none⟩ = some (.int .i64 s) := by go_simp
  have f1_wheapsize1_3 : w1.frozen? ⟨w.heap.size + 1, 3, none⟩ = false := by go_simp
  have c1_wheapsize1_4 : w1.cell? ⟨w.heap.size + 1, 4, none⟩ = some (.int .i64 d) := by go_simp
  have f1_wheapsize1_4 : w1.frozen? ⟨w.heap.size + 1, 4, none⟩ = false := by go_simp
  have c1_wheapsize11_0 : w1.cell? ⟨w.heap.size + 1 + 1, 0, none⟩ = some (.slice A L.length cap) := by go_simp
  have f1_wheapsize11_0 : w1.frozen? ⟨w.heap.size + 1 + 1, 0, none⟩ = false := by go_simp
  have c1_wheapsize11_1 : w1.cell? ⟨w.heap.size + 1 + 1, 1, none⟩ = some (.int .i64 l) := by go_simp
  have f1_wheapsize11_1 : w1.frozen? ⟨w.heap.size + 1 + 1, 1, none⟩ = false := by go_simp
  clear hc1 hf1
  try clear hd1 he1
  go_wp2
  go_ret
  refine ⟨rfl, ?_⟩
  repeat (first
    | exact Below.refl _ _
    | exact hb1
    | refine Below.drew ?_
    | refine below_drewN ?_ _
    | refine below_drewN ?_ _
    | refine Below.alloc ?_ (by first | omega | (simp; omega) | simp) _
    | refine Below.setCell ?_ (by first | omega | (simp; omega) | simp) _
    | refine Below.trans ?_ (hb1.mono (by first | omega | (simp; omega) | simp)))

set_option maxHeartbeats 2000000 in
theorem full_no1 (k f t s d : Int) (v : Value) (l now : Int) (body : ByteArray) (L : List Msg) (w : World) (h : RowM w v L) (hm : L.length ≤ 5864062014700) (hbs : body.size ≤ 140737488351232) (hk : (k == 1) = false) (hd : (L.length : Int) < d) :
    Calls Try.prog 9 #[addV k f t s d v l now body] w fun e w' => e = .returned (.bool true) ∧ Below w.heap.size w w' := by
  obtain ⟨A, cap, rfl, hnc, _⟩ := Sl.slice h
  have H := Lib.hid (SlI.of_sl h)
  clear h
  go_enter Try.func9, Try.ntmps9
  go_wp2_with fail
  refine (shown_any _).mono ?_
  rintro e w1 ⟨rfl, hb1⟩
  obtain ⟨hc1, hf1⟩ := bcell hb1
  have s1 := hb1.size
  try simp at s1
  try have hd1 := fun b o (h : b < w.heap.size) => hc1 b o (by first | omega | (simp; omega) | simp)
  try have he1 := fun b o (h : b < w.heap.size) => hf1 b o (by first | omega | (simp; omega) | simp)
  try have z1_0 : w.heap.size < w1.heap.size := by omega
  try have z1_1 : w.heap.size + 1 < w1.heap.size := by omega
  try have z1_2 : w.heap.size + 1 + 1 < w1.heap.size := by omega
  try have z1_3 : w.heap.size + 1 + 1 + 1 < w1.heap.size := by omega
  have c1_wheapsize1_0 : w1.cell? ⟨w.heap.size + 1, 0, none⟩ = some (.int .i64 k) := by go_simp
  have f1_wheapsize1_0 : w1.frozen? ⟨w.heap.size + 1, 0, none⟩ = false := by go_simp
  have c1_wheapsize1_1 : w1.cell? ⟨w.heap.size + 1, 1, none⟩ = some (.int .i64 f) := by go_simp
  have f1_wheapsize1_1 : w1.frozen? ⟨w.heap.size + 1, 1, none⟩ = false := by go_simp
  have c1_wheapsize1_2 : w1.cell? ⟨w.heap.size + 1, 2, none⟩ = some (.int .i64 t) := by go_simp
  have f1_wheapsize1_2 : w1.frozen? ⟨w.heap.size + 1, 2, none⟩ = false := by go_simp
  have c1_wheapsize1_3 : w1.cell? ⟨w.heap.size + 1, 3, none⟩ = some (.int .i64 s) := by go_simp
  have f1_wheapsize1_3 : w1.frozen? ⟨w.heap.size + 1, 3, none⟩ = false := by go_simp
  have c1_wheapsize1_4 : w1.cell? ⟨w.heap.size + 1, 4, none⟩ = some (.int .i64 d) := by go_simp
  have f1_wheapsize1_4 : w1.frozen? ⟨w.heap.size + 1, 4, none⟩ = false := by go_simp
  have c1_wheapsize11_0 : w1.cell? ⟨w.heap.size + 1 + 1, 0, none⟩ = some (.slice A L.length cap) := by go_simp
  have f1_wheapsize11_0 : w1.frozen? ⟨w.heap.size + 1 + 1, 0, none⟩ = false := by go_simp
  have c1_wheapsize11_1 : w1.cell? ⟨w.heap.size + 1 + 1, 1, none⟩ = some (.int .i64 l) := by go_simp
  have f1_wheapsize11_1 : w1.frozen? ⟨w.heap.size + 1 + 1, 1, none⟩ = false := by go_simp
  clear hc1 hf1
  try clear hd1 he1
  go_wp2
  go_ret
  refine ⟨rfl, ?_⟩
  repeat (first
    | exact Below.refl _ _
    | exact hb1
    | refine Below.drew ?_
    | refine below_drewN ?_ _
    | refine below_drewN ?_ _
    | refine Below.alloc ?_ (by first | omega | (simp; omega) | simp) _
    | refine Below.setCell ?_ (by first | omega | (simp; omega) | simp) _
    | refine Below.trans ?_ (hb1.mono (by first | omega | (simp; omega) | simp)))

set_option maxHeartbeats 2000000 in
theorem full_no2 (k f t s d : Int) (v : Value) (l now : Int) (body : ByteArray) (L : List Msg) (w : World) (h : RowM w v L) (hm : L.length ≤ 5864062014700) (hbs : body.size ≤ 140737488351232) (hk : (k == 1) = false) (hd : d ≤ (L.length : Int)) (hb : s < (body.size : Int)) :
    Calls Try.prog 9 #[addV k f t s d v l now body] w fun e w' => e = .returned (.bool true) ∧ Below w.heap.size w w' := by
  obtain ⟨A, cap, rfl, hnc, _⟩ := Sl.slice h
  have H := Lib.hid (SlI.of_sl h)
  clear h
  go_enter Try.func9, Try.ntmps9
  go_wp2_with fail
  refine (shown_any _).mono ?_
  rintro e w1 ⟨rfl, hb1⟩
  obtain ⟨hc1, hf1⟩ := bcell hb1
  have s1 := hb1.size
  try simp at s1
  try have hd1 := fun b o (h : b < w.heap.size) => hc1 b o (by first | omega | (simp; omega) | simp)
  try have he1 := fun b o (h : b < w.heap.size) => hf1 b o (by first | omega | (simp; omega) | simp)
  try have z1_0 : w.heap.size < w1.heap.size := by omega
  try have z1_1 : w.heap.size + 1 < w1.heap.size := by omega
  try have z1_2 : w.heap.size + 1 + 1 < w1.heap.size := by omega
  try have z1_3 : w.heap.size + 1 + 1 + 1 < w1.heap.size := by omega
  have c1_wheapsize1_0 : w1.cell? ⟨w.heap.size + 1, 0, none⟩ = some (.int .i64 k) := by go_simp
  have f1_wheapsize1_0 : w1.frozen? ⟨w.heap.size + 1, 0, none⟩ = false := by go_simp
  have c1_wheapsize1_1 : w1.cell? ⟨w.heap.size + 1, 1, none⟩ = some (.int .i64 f) := by go_simp
  have f1_wheapsize1_1 : w1.frozen? ⟨w.heap.size + 1, 1, none⟩ = false := by go_simp
  have c1_wheapsize1_2 : w1.cell? ⟨w.heap.size + 1, 2, none⟩ = some (.int .i64 t) := by go_simp
  have f1_wheapsize1_2 : w1.frozen? ⟨w.heap.size + 1, 2, none⟩ = false := by go_simp
  have c1_wheapsize1_3 : w1.cell? ⟨w.heap.size + 1, 3, none⟩ = some (.int .i64 s) := by go_simp
  have f1_wheapsize1_3 : w1.frozen? ⟨w.heap.size + 1, 3, none⟩ = false := by go_simp
  have c1_wheapsize1_4 : w1.cell? ⟨w.heap.size + 1, 4, none⟩ = some (.int .i64 d) := by go_simp
  have f1_wheapsize1_4 : w1.frozen? ⟨w.heap.size + 1, 4, none⟩ = false := by go_simp
  have c1_wheapsize11_0 : w1.cell? ⟨w.heap.size + 1 + 1, 0, none⟩ = some (.slice A L.length cap) := by go_simp
  have f1_wheapsize11_0 : w1.frozen? ⟨w.heap.size + 1 + 1, 0, none⟩ = false := by go_simp
  have c1_wheapsize11_1 : w1.cell? ⟨w.heap.size + 1 + 1, 1, none⟩ = some (.int .i64 l) := by go_simp
  have f1_wheapsize11_1 : w1.frozen? ⟨w.heap.size + 1 + 1, 1, none⟩ = false := by go_simp
  clear hc1 hf1
  try clear hd1 he1
  go_wp2
  go_ret
  refine ⟨rfl, ?_⟩
  repeat (first
    | exact Below.refl _ _
    | exact hb1
    | refine Below.drew ?_
    | refine below_drewN ?_ _
    | refine below_drewN ?_ _
    | refine Below.alloc ?_ (by first | omega | (simp; omega) | simp) _
    | refine Below.setCell ?_ (by first | omega | (simp; omega) | simp) _
    | refine Below.trans ?_ (hb1.mono (by first | omega | (simp; omega) | simp)))

set_option maxHeartbeats 2000000 in
theorem full_no3 (k f t s d : Int) (v : Value) (l now : Int) (body : ByteArray) (L : List Msg) (w : World) (h : RowM w v L) (hm : L.length ≤ 5864062014700) (hbs : body.size ≤ 140737488351232) (hk : (k == 1) = false) (hd : d ≤ (L.length : Int)) (hb : (body.size : Int) ≤ s) (hl : 1099511627776 < l) :
    Calls Try.prog 9 #[addV k f t s d v l now body] w fun e w' => e = .returned (.bool true) ∧ Below w.heap.size w w' := by
  obtain ⟨A, cap, rfl, hnc, _⟩ := Sl.slice h
  have H := Lib.hid (SlI.of_sl h)
  clear h
  go_enter Try.func9, Try.ntmps9
  go_wp2_with fail
  refine (shown_any _).mono ?_
  rintro e w1 ⟨rfl, hb1⟩
  obtain ⟨hc1, hf1⟩ := bcell hb1
  have s1 := hb1.size
  try simp at s1
  try have hd1 := fun b o (h : b < w.heap.size) => hc1 b o (by first | omega | (simp; omega) | simp)
  try have he1 := fun b o (h : b < w.heap.size) => hf1 b o (by first | omega | (simp; omega) | simp)
  try have z1_0 : w.heap.size < w1.heap.size := by omega
  try have z1_1 : w.heap.size + 1 < w1.heap.size := by omega
  try have z1_2 : w.heap.size + 1 + 1 < w1.heap.size := by omega
  try have z1_3 : w.heap.size + 1 + 1 + 1 < w1.heap.size := by omega
  have c1_wheapsize1_0 : w1.cell? ⟨w.heap.size + 1, 0, none⟩ = some (.int .i64 k) := by go_simp
  have f1_wheapsize1_0 : w1.frozen? ⟨w.heap.size + 1, 0, none⟩ = false := by go_simp
  have c1_wheapsize1_1 : w1.cell? ⟨w.heap.size + 1, 1, none⟩ = some (.int .i64 f) := by go_simp
  have f1_wheapsize1_1 : w1.frozen? ⟨w.heap.size + 1, 1, none⟩ = false := by go_simp
  have c1_wheapsize1_2 : w1.cell? ⟨w.heap.size + 1, 2, none⟩ = some (.int .i64 t) := by go_simp
  have f1_wheapsize1_2 : w1.frozen? ⟨w.heap.size + 1, 2, none⟩ = false := by go_simp
  have c1_wheapsize1_3 : w1.cell? ⟨w.heap.size + 1, 3, none⟩ = some (.int .i64 s) := by go_simp
  have f1_wheapsize1_3 : w1.frozen? ⟨w.heap.size + 1, 3, none⟩ = false := by go_simp
  have c1_wheapsize1_4 : w1.cell? ⟨w.heap.size + 1, 4, none⟩ = some (.int .i64 d) := by go_simp
  have f1_wheapsize1_4 : w1.frozen? ⟨w.heap.size + 1, 4, none⟩ = false := by go_simp
  have c1_wheapsize11_0 : w1.cell? ⟨w.heap.size + 1 + 1, 0, none⟩ = some (.slice A L.length cap) := by go_simp
  have f1_wheapsize11_0 : w1.frozen? ⟨w.heap.size + 1 + 1, 0, none⟩ = false := by go_simp
  have c1_wheapsize11_1 : w1.cell? ⟨w.heap.size + 1 + 1, 1, none⟩ = some (.int .i64 l) := by go_simp
  have f1_wheapsize11_1 : w1.frozen? ⟨w.heap.size + 1 + 1, 1, none⟩ = false := by go_simp
  clear hc1 hf1
  try clear hd1 he1
  go_wp2
  go_ret
  refine ⟨rfl, ?_⟩
  repeat (first
    | exact Below.refl _ _
    | exact hb1
    | refine Below.drew ?_
    | refine below_drewN ?_ _
    | refine below_drewN ?_ _
    | refine Below.alloc ?_ (by first | omega | (simp; omega) | simp) _
    | refine Below.setCell ?_ (by first | omega | (simp; omega) | simp) _
    | refine Below.trans ?_ (hb1.mono (by first | omega | (simp; omega) | simp)))

set_option maxHeartbeats 2000000 in
theorem full_no4 (k f t s d : Int) (v : Value) (l now : Int) (body : ByteArray) (L : List Msg) (w : World) (h : RowM w v L) (hm : L.length ≤ 5864062014700) (hbs : body.size ≤ 140737488351232) (hk : (k == 1) = false) (hd : d ≤ (L.length : Int)) (hb : (body.size : Int) ≤ s) (hl : l ≤ 1099511627776) (hl2 : l < 0) :
    Calls Try.prog 9 #[addV k f t s d v l now body] w fun e w' => e = .returned (.bool true) ∧ Below w.heap.size w w' := by
  obtain ⟨A, cap, rfl, hnc, _⟩ := Sl.slice h
  have H := Lib.hid (SlI.of_sl h)
  clear h
  go_enter Try.func9, Try.ntmps9
  go_wp2_with fail
  refine (shown_any _).mono ?_
  rintro e w1 ⟨rfl, hb1⟩
  obtain ⟨hc1, hf1⟩ := bcell hb1
  have s1 := hb1.size
  try simp at s1
  try have hd1 := fun b o (h : b < w.heap.size) => hc1 b o (by first | omega | (simp; omega) | simp)
  try have he1 := fun b o (h : b < w.heap.size) => hf1 b o (by first | omega | (simp; omega) | simp)
  try have z1_0 : w.heap.size < w1.heap.size := by omega
  try have z1_1 : w.heap.size + 1 < w1.heap.size := by omega
  try have z1_2 : w.heap.size + 1 + 1 < w1.heap.size := by omega
  try have z1_3 : w.heap.size + 1 + 1 + 1 < w1.heap.size := by omega
  have c1_wheapsize1_0 : w1.cell? ⟨w.heap.size + 1, 0, none⟩ = some (.int .i64 k) := by go_simp
  have f1_wheapsize1_0 : w1.frozen? ⟨w.heap.size + 1, 0, none⟩ = false := by go_simp
  have c1_wheapsize1_1 : w1.cell? ⟨w.heap.size + 1, 1, none⟩ = some (.int .i64 f) := by go_simp
  have f1_wheapsize1_1 : w1.frozen? ⟨w.heap.size + 1, 1, none⟩ = false := by go_simp
  have c1_wheapsize1_2 : w1.cell? ⟨w.heap.size + 1, 2, none⟩ = some (.int .i64 t) := by go_simp
  have f1_wheapsize1_2 : w1.frozen? ⟨w.heap.size + 1, 2, none⟩ = false := by go_simp
  have c1_wheapsize1_3 : w1.cell? ⟨w.heap.size + 1, 3, none⟩ = some (.int .i64 s) := by go_simp
  have f1_wheapsize1_3 : w1.frozen? ⟨w.heap.size + 1, 3, none⟩ = false := by go_simp
  have c1_wheapsize1_4 : w1.cell? ⟨w.heap.size + 1, 4, none⟩ = some (.int .i64 d) := by go_simp
  have f1_wheapsize1_4 : w1.frozen? ⟨w.heap.size + 1, 4, none⟩ = false := by go_simp
  have c1_wheapsize11_0 : w1.cell? ⟨w.heap.size + 1 + 1, 0, none⟩ = some (.slice A L.length cap) := by go_simp
  have f1_wheapsize11_0 : w1.frozen? ⟨w.heap.size + 1 + 1, 0, none⟩ = false := by go_simp
  have c1_wheapsize11_1 : w1.cell? ⟨w.heap.size + 1 + 1, 1, none⟩ = some (.int .i64 l) := by go_simp
  have f1_wheapsize11_1 : w1.frozen? ⟨w.heap.size + 1 + 1, 1, none⟩ = false := by go_simp
  clear hc1 hf1
  try clear hd1 he1
  go_wp2
  go_ret
  refine ⟨rfl, ?_⟩
  repeat (first
    | exact Below.refl _ _
    | exact hb1
    | refine Below.drew ?_
    | refine below_drewN ?_ _
    | refine below_drewN ?_ _
    | refine Below.alloc ?_ (by first | omega | (simp; omega) | simp) _
    | refine Below.setCell ?_ (by first | omega | (simp; omega) | simp) _
    | refine Below.trans ?_ (hb1.mono (by first | omega | (simp; omega) | simp)))

set_option maxHeartbeats 2000000 in
theorem full_yes (k f t s d : Int) (v : Value) (l now : Int) (body : ByteArray) (L : List Msg) (w : World) (h : RowM w v L) (hm : L.length ≤ 5864062014700) (hbs : body.size ≤ 140737488351232) (hk : (k == 1) = false) (hd : d ≤ (L.length : Int)) (hb : (body.size : Int) ≤ s) (hl1 : l ≤ 1099511627776) (hl0 : 0 ≤ l) :
    Calls Try.prog 9 #[addV k f t s d v l now body] w fun e w' => e = .returned (.bool true) ∧ Below w.heap.size w w' := by
  obtain ⟨A, cap, rfl, hnc, _⟩ := Sl.slice h
  have H := Lib.hid (SlI.of_sl h)
  clear h
  have hw : wrap64 (l + 1) = l + 1 := by unfold wrap64; omega
  have HW := Lib.hid hw
  clear hw
  go_enter Try.func9, Try.ntmps9
  go_wp2_with fail
  refine (shown_any _).mono ?_
  rintro e w1 ⟨rfl, hb1⟩
  obtain ⟨hc1, hf1⟩ := bcell hb1
  have s1 := hb1.size
  try simp at s1
  try have hd1 := fun b o (h : b < w.heap.size) => hc1 b o (by first | omega | (simp; omega) | simp)
  try have he1 := fun b o (h : b < w.heap.size) => hf1 b o (by first | omega | (simp; omega) | simp)
  try have z1_0 : w.heap.size < w1.heap.size := by omega
  try have z1_1 : w.heap.size + 1 < w1.heap.size := by omega
  try have z1_2 : w.heap.size + 1 + 1 < w1.heap.size := by omega
  try have z1_3 : w.heap.size + 1 + 1 + 1 < w1.heap.size := by omega
  have c1_wheapsize1_0 : w1.cell? ⟨w.heap.size + 1, 0, none⟩ = some (.int .i64 k) := by go_simp
  have f1_wheapsize1_0 : w1.frozen? ⟨w.heap.size + 1, 0, none⟩ = false := by go_simp
  have c1_wheapsize1_1 : w1.cell? ⟨w.heap.size + 1, 1, none⟩ = some (.int .i64 f) := by go_simp
  have f1_wheapsize1_1 : w1.frozen? ⟨w.heap.size + 1, 1, none⟩ = false := by go_simp
  have c1_wheapsize1_2 : w1.cell? ⟨w.heap.size + 1, 2, none⟩ = some (.int .i64 t) := by go_simp
  have f1_wheapsize1_2 : w1.frozen? ⟨w.heap.size + 1, 2, none⟩ = false := by go_simp
  have c1_wheapsize1_3 : w1.cell? ⟨w.heap.size + 1, 3, none⟩ = some (.int .i64 s) := by go_simp
  have f1_wheapsize1_3 : w1.frozen? ⟨w.heap.size + 1, 3, none⟩ = false := by go_simp
  have c1_wheapsize1_4 : w1.cell? ⟨w.heap.size + 1, 4, none⟩ = some (.int .i64 d) := by go_simp
  have f1_wheapsize1_4 : w1.frozen? ⟨w.heap.size + 1, 4, none⟩ = false := by go_simp
  have c1_wheapsize11_0 : w1.cell? ⟨w.heap.size + 1 + 1, 0, none⟩ = some (.slice A L.length cap) := by go_simp
  have f1_wheapsize11_0 : w1.frozen? ⟨w.heap.size + 1 + 1, 0, none⟩ = false := by go_simp
  have c1_wheapsize11_1 : w1.cell? ⟨w.heap.size + 1 + 1, 1, none⟩ = some (.int .i64 l) := by go_simp
  have f1_wheapsize11_1 : w1.frozen? ⟨w.heap.size + 1 + 1, 1, none⟩ = false := by go_simp
  clear hc1 hf1
  try clear hd1 he1
  go_wp2_with fail
  refine (send_full_at k f t s d l now (l + 1) _ L body _ (by refine SlI.ex ⟨?lo1, ?hi1, ?main1⟩; case main1 => ((repeat (first | with_reducible exact H.out | with_reducible refine SlI.setCell ?_ ?_ _ | with_reducible refine SlI.alloc ?_ _ | with_reducible refine SlI.drew ?_ | with_reducible refine SlI.drewN ?_ _ | with_reducible refine SlI.below ?_ hb1 ?_ | exact H.out)); all_goals first | omega | (simp; omega) | simp)) (by omega) hb (by omega) hk hd HW.out).mono ?_
  rintro e w2 ⟨A2, cap2, rfl, hr2, hb2⟩
  have HR2 := Lib.hid (SlI.of_own (OwnM.own hr2))
  clear hr2
  obtain ⟨hc2, hf2⟩ := bcell hb2
  have s2 := hb2.size
  try simp at s2
  try have hd2 := fun b o (h : b < w1.heap.size) => hc2 b o (by first | omega | (simp; omega) | simp)
  try have he2 := fun b o (h : b < w1.heap.size) => hf2 b o (by first | omega | (simp; omega) | simp)
  try have z2_0 : w.heap.size < w2.heap.size := by omega
  try have z2_1 : w.heap.size + 1 < w2.heap.size := by omega
  try have z2_2 : w.heap.size + 1 + 1 < w2.heap.size := by omega
  try have z2_3 : w.heap.size + 1 + 1 + 1 < w2.heap.size := by omega
  try have z2_4 : w1.heap.size < w2.heap.size := by omega
  try have z2_5 : w1.heap.size + 1 < w2.heap.size := by omega
  try have n2_1 : ¬ w2.heap.size = w1.heap.size := by omega
  try have m2_1 : ¬ w1.heap.size = w2.heap.size := by omega
  have c2_wheapsize1_0 : w2.cell? ⟨w.heap.size + 1, 0, none⟩ = some (.int .i64 k) := by go_simp
  have f2_wheapsize1_0 : w2.frozen? ⟨w.heap.size + 1, 0, none⟩ = false := by go_simp
  have c2_wheapsize1_1 : w2.cell? ⟨w.heap.size + 1, 1, none⟩ = some (.int .i64 f) := by go_simp
  have f2_wheapsize1_1 : w2.frozen? ⟨w.heap.size + 1, 1, none⟩ = false := by go_simp
  have c2_wheapsize1_2 : w2.cell? ⟨w.heap.size + 1, 2, none⟩ = some (.int .i64 t) := by go_simp
  have f2_wheapsize1_2 : w2.frozen? ⟨w.heap.size + 1, 2, none⟩ = false := by go_simp
  have c2_wheapsize1_3 : w2.cell? ⟨w.heap.size + 1, 3, none⟩ = some (.int .i64 s) := by go_simp
  have f2_wheapsize1_3 : w2.frozen? ⟨w.heap.size + 1, 3, none⟩ = false := by go_simp
  have c2_wheapsize1_4 : w2.cell? ⟨w.heap.size + 1, 4, none⟩ = some (.int .i64 d) := by go_simp
  have f2_wheapsize1_4 : w2.frozen? ⟨w.heap.size + 1, 4, none⟩ = false := by go_simp
  have c2_wheapsize11_0 : w2.cell? ⟨w.heap.size + 1 + 1, 0, none⟩ = some (.slice A L.length cap) := by go_simp
  have f2_wheapsize11_0 : w2.frozen? ⟨w.heap.size + 1 + 1, 0, none⟩ = false := by go_simp
  have c2_wheapsize11_1 : w2.cell? ⟨w.heap.size + 1 + 1, 1, none⟩ = some (.int .i64 l) := by go_simp
  have f2_wheapsize11_1 : w2.frozen? ⟨w.heap.size + 1 + 1, 1, none⟩ = false := by go_simp
  clear hc2 hf2
  try clear hd2 he2
  go_wp2_with fail
  refine (same_any _ _ l l L L _ (by refine SlI.ex ⟨?lo2, ?hi2, ?main2⟩; case main2 => ((repeat (first | with_reducible exact HR2.out | with_reducible refine SlI.setCell ?_ ?_ _ | with_reducible refine SlI.alloc ?_ _ | with_reducible refine SlI.drew ?_ | with_reducible refine SlI.drewN ?_ _ | exact HR2.out)); all_goals first | omega | (simp; omega) | simp)) (by refine SlI.ex ⟨?lo3, ?hi3, ?main3⟩; case main3 => ((repeat (first | with_reducible exact H.out | with_reducible refine SlI.setCell ?_ ?_ _ | with_reducible refine SlI.alloc ?_ _ | with_reducible refine SlI.drew ?_ | with_reducible refine SlI.drewN ?_ _ | with_reducible refine SlI.below ?_ hb2 ?_ | with_reducible refine SlI.below ?_ hb1 ?_ | exact H.out)); all_goals first | omega | (simp; omega) | simp)) (by omega) (by omega)).mono ?_
  rintro e w3 ⟨rfl, hb3⟩
  obtain ⟨hc3, hf3⟩ := bcell hb3
  have s3 := hb3.size
  try simp at s3
  try have hd3 := fun b o (h : b < w2.heap.size) => hc3 b o (by first | omega | (simp; omega) | simp)
  try have he3 := fun b o (h : b < w2.heap.size) => hf3 b o (by first | omega | (simp; omega) | simp)
  try have z3_0 : w.heap.size < w3.heap.size := by omega
  try have z3_1 : w.heap.size + 1 < w3.heap.size := by omega
  try have z3_2 : w.heap.size + 1 + 1 < w3.heap.size := by omega
  try have z3_3 : w.heap.size + 1 + 1 + 1 < w3.heap.size := by omega
  try have z3_4 : w1.heap.size < w3.heap.size := by omega
  try have z3_5 : w2.heap.size < w3.heap.size := by omega
  try have z3_6 : w1.heap.size + 1 < w3.heap.size := by omega
  try have z3_7 : w2.heap.size + 1 < w3.heap.size := by omega
  go_wp2
  go_ret
  refine ⟨ret_bool (by simp), ?_⟩
  repeat (first
    | exact Below.refl _ _
    | exact hb1
    | exact hb2
    | exact hb3
    | refine Below.drew ?_
    | refine below_drewN ?_ _
    | refine below_drewN ?_ _
    | refine Below.alloc ?_ (by first | omega | (simp; omega) | simp) _
    | refine Below.setCell ?_ (by first | omega | (simp; omega) | simp) _
    | refine Below.trans ?_ (hb3.mono (by first | omega | (simp; omega) | simp))
    | refine Below.trans ?_ (hb2.mono (by first | omega | (simp; omega) | simp))
    | refine Below.trans ?_ (hb1.mono (by first | omega | (simp; omega) | simp)))

theorem full_walk (k f t s d : Int) (v : Value) (l now : Int) (body : ByteArray) (L : List Msg) (w : World) (h : RowM w v L) (hm : L.length ≤ 5864062014700) (hbs : body.size ≤ 140737488351232) :
    Calls Try.prog 9 #[addV k f t s d v l now body] w fun e w' => e = .returned (.bool true) ∧ Below w.heap.size w w' := by
  by_cases h1 : k = 1
  · exact full_no0 k f t s d v l now body L w h hm hbs (by simpa using h1)
  by_cases h2 : (L.length : Int) < d
  · exact full_no1 k f t s d v l now body L w h hm hbs (by simpa using h1) h2
  by_cases h3 : s < (body.size : Int)
  · exact full_no2 k f t s d v l now body L w h hm hbs (by simpa using h1) (by omega) h3
  by_cases h4 : 1099511627776 < l
  · exact full_no3 k f t s d v l now body L w h hm hbs (by simpa using h1) (by omega) (by omega) h4
  by_cases h5 : l < 0
  · exact full_no4 k f t s d v l now body L w h hm hbs (by simpa using h1) (by omega) (by omega) (by omega) h5
  exact full_yes k f t s d v l now body L w h hm hbs (by simpa using h1) (by omega) (by omega) (by omega) (by omega)
end Go.Proofs.Ytecpnblhhjndgaa
