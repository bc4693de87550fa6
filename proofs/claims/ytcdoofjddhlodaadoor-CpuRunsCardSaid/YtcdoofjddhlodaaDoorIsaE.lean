/- The document's Take. -/
import Derived.Test.YtcdoofjddhlodaaDoorIsaD1
namespace Go.Proofs.YtcdoofjddhlodaaDoor
open Go.RowKit
set_option linter.unusedVariables false

set_option maxHeartbeats 400000 in
theorem rTake_yes_big (n : Int) (w : World) (h0 : 0 ≤ n) (h1 : n < 4294967296) (hc : 32767 < n % 65536) (hm : tMay n = true) :
    Calls Tryd.prog 30 #[.int .u32 n] w fun e w' => e = .returned (.tuple #[tIns n, .int .i64 0]) ∧ Below w.heap.size w w' := by
  have HM := Lib.hid hm
  clear hm
  have eA : n / 1048576 % 16 = tA n := rfl
  have eB : n / 65536 % 16 = tB n := rfl
  have eO := e_O n
  have EI := Lib.hid (show n % 65536 - 65536 = tI n by unfold tI; omega)
  go_enter Tryd.func30, Tryd.ntmps30
  go_wp2_with fail
  rw [EI.out]
  refine (rMay_any _ _ _ _ _).mono ?_
  rintro e w' ⟨rfl, hb⟩
  rw [show rMay (tO n) (tA n) (tB n) (tI n) = true from HM.out]
  have hz : w.heap.size + 1 < w'.heap.size := by have := hb.size; simp at this; omega
  have c0 : w'.cell? ⟨w.heap.size, 0, none⟩ = some (.int .i64 0) := (hb.cell (by simp <;> omega)).trans (by simp)
  have c1 : w'.cell? ⟨w.heap.size, 1, none⟩ = some (.int .i64 0) := (hb.cell (by simp <;> omega)).trans (by simp)
  have c2 : w'.cell? ⟨w.heap.size, 2, none⟩ = some (.int .i64 0) := (hb.cell (by simp <;> omega)).trans (by simp)
  have c3 : w'.cell? ⟨w.heap.size, 3, none⟩ = some (.int .i64 0) := (hb.cell (by simp <;> omega)).trans (by simp)
  have f0 : w'.frozen? ⟨w.heap.size, 0, none⟩ = false := (hb.frozen (by simp <;> omega)).trans (by simp)
  have f1 : w'.frozen? ⟨w.heap.size, 1, none⟩ = false := (hb.frozen (by simp <;> omega)).trans (by simp)
  have f2 : w'.frozen? ⟨w.heap.size, 2, none⟩ = false := (hb.frozen (by simp <;> omega)).trans (by simp)
  have f3 : w'.frozen? ⟨w.heap.size, 3, none⟩ = false := (hb.frozen (by simp <;> omega)).trans (by simp)
  have d0 : w'.cell? ⟨w.heap.size + 1, 0, none⟩ = some (.int .i64 (tO n)) := (hb.cell (by simp)).trans (by simp)
  have d1 : w'.cell? ⟨w.heap.size + 1, 1, none⟩ = some (.int .i64 (tA n)) := (hb.cell (by simp)).trans (by simp)
  have d2 : w'.cell? ⟨w.heap.size + 1, 2, none⟩ = some (.int .i64 (tB n)) := (hb.cell (by simp)).trans (by simp)
  have d3 : w'.cell? ⟨w.heap.size + 1, 3, none⟩ = some (.int .i64 (tI n)) := (hb.cell (by simp)).trans (by simp)
  have HB : Hid (Below w.heap.size w w') := (((Below.refl _ _).alloc (Nat.le_refl _) _).alloc (by simp) _).trans (hb.mono (by simp <;> omega))
  clear hb
  go_wp2
  refine bodyPost_ret (v := .tuple #[tIns n, .int .i64 0]) (by simp [results, Tryd.results30, go_sem, c0, c1, c2, c3]) rfl ⟨rfl, ?_⟩
  exact (((HB.out.setCell (Nat.le_refl _) _).setCell (Nat.le_refl _) _).setCell (Nat.le_refl _) _).setCell (Nat.le_refl _) _

set_option maxHeartbeats 400000 in
theorem rTake_yes_low (n : Int) (w : World) (h0 : 0 ≤ n) (h1 : n < 4294967296) (hc : ¬ 32767 < n % 65536) (hm : tMay n = true) :
    Calls Tryd.prog 30 #[.int .u32 n] w fun e w' => e = .returned (.tuple #[tIns n, .int .i64 0]) ∧ Below w.heap.size w w' := by
  have HM := Lib.hid hm
  clear hm
  have eA : n / 1048576 % 16 = tA n := rfl
  have eB : n / 65536 % 16 = tB n := rfl
  have eO := e_O n
  have EI := Lib.hid (show n % 65536 = tI n by unfold tI; omega)
  go_enter Tryd.func30, Tryd.ntmps30
  go_wp2_with fail
  rw [EI.out]
  refine (rMay_any _ _ _ _ _).mono ?_
  rintro e w' ⟨rfl, hb⟩
  rw [show rMay (tO n) (tA n) (tB n) (tI n) = true from HM.out]
  have hz : w.heap.size + 1 < w'.heap.size := by have := hb.size; simp at this; omega
  have c0 : w'.cell? ⟨w.heap.size, 0, none⟩ = some (.int .i64 0) := (hb.cell (by simp <;> omega)).trans (by simp)
  have c1 : w'.cell? ⟨w.heap.size, 1, none⟩ = some (.int .i64 0) := (hb.cell (by simp <;> omega)).trans (by simp)
  have c2 : w'.cell? ⟨w.heap.size, 2, none⟩ = some (.int .i64 0) := (hb.cell (by simp <;> omega)).trans (by simp)
  have c3 : w'.cell? ⟨w.heap.size, 3, none⟩ = some (.int .i64 0) := (hb.cell (by simp <;> omega)).trans (by simp)
  have f0 : w'.frozen? ⟨w.heap.size, 0, none⟩ = false := (hb.frozen (by simp <;> omega)).trans (by simp)
  have f1 : w'.frozen? ⟨w.heap.size, 1, none⟩ = false := (hb.frozen (by simp <;> omega)).trans (by simp)
  have f2 : w'.frozen? ⟨w.heap.size, 2, none⟩ = false := (hb.frozen (by simp <;> omega)).trans (by simp)
  have f3 : w'.frozen? ⟨w.heap.size, 3, none⟩ = false := (hb.frozen (by simp <;> omega)).trans (by simp)
  have d0 : w'.cell? ⟨w.heap.size + 1, 0, none⟩ = some (.int .i64 (tO n)) := (hb.cell (by simp)).trans (by simp)
  have d1 : w'.cell? ⟨w.heap.size + 1, 1, none⟩ = some (.int .i64 (tA n)) := (hb.cell (by simp)).trans (by simp)
  have d2 : w'.cell? ⟨w.heap.size + 1, 2, none⟩ = some (.int .i64 (tB n)) := (hb.cell (by simp)).trans (by simp)
  have d3 : w'.cell? ⟨w.heap.size + 1, 3, none⟩ = some (.int .i64 (tI n)) := (hb.cell (by simp)).trans (by simp)
  have HB : Hid (Below w.heap.size w w') := (((Below.refl _ _).alloc (Nat.le_refl _) _).alloc (by simp) _).trans (hb.mono (by simp <;> omega))
  clear hb
  go_wp2
  refine bodyPost_ret (v := .tuple #[tIns n, .int .i64 0]) (by simp [results, Tryd.results30, go_sem, c0, c1, c2, c3]) rfl ⟨rfl, ?_⟩
  exact (((HB.out.setCell (Nat.le_refl _) _).setCell (Nat.le_refl _) _).setCell (Nat.le_refl _) _).setCell (Nat.le_refl _) _

set_option maxHeartbeats 400000 in
theorem rTake_no_big (n : Int) (w : World) (h0 : 0 ≤ n) (h1 : n < 4294967296) (hc : 32767 < n % 65536) (hm : tMay n = false) :
    Calls Tryd.prog 30 #[.int .u32 n] w fun e w' => e = .returned (.tuple #[insV 0 0 0 0, .int .i64 11]) ∧ Below w.heap.size w w' := by
  have HM := Lib.hid hm
  clear hm
  have eA : n / 1048576 % 16 = tA n := rfl
  have eB : n / 65536 % 16 = tB n := rfl
  have eO := e_O n
  have EI := Lib.hid (show n % 65536 - 65536 = tI n by unfold tI; omega)
  go_enter Tryd.func30, Tryd.ntmps30
  go_wp2_with fail
  rw [EI.out]
  refine (rMay_any _ _ _ _ _).mono ?_
  rintro e w' ⟨rfl, hb⟩
  rw [show rMay (tO n) (tA n) (tB n) (tI n) = false from HM.out]
  have hz : w.heap.size + 1 < w'.heap.size := by have := hb.size; simp at this; omega
  have c0 : w'.cell? ⟨w.heap.size, 0, none⟩ = some (.int .i64 0) := (hb.cell (by simp <;> omega)).trans (by simp)
  have c1 : w'.cell? ⟨w.heap.size, 1, none⟩ = some (.int .i64 0) := (hb.cell (by simp <;> omega)).trans (by simp)
  have c2 : w'.cell? ⟨w.heap.size, 2, none⟩ = some (.int .i64 0) := (hb.cell (by simp <;> omega)).trans (by simp)
  have c3 : w'.cell? ⟨w.heap.size, 3, none⟩ = some (.int .i64 0) := (hb.cell (by simp <;> omega)).trans (by simp)
  have f0 : w'.frozen? ⟨w.heap.size, 0, none⟩ = false := (hb.frozen (by simp <;> omega)).trans (by simp)
  have f1 : w'.frozen? ⟨w.heap.size, 1, none⟩ = false := (hb.frozen (by simp <;> omega)).trans (by simp)
  have f2 : w'.frozen? ⟨w.heap.size, 2, none⟩ = false := (hb.frozen (by simp <;> omega)).trans (by simp)
  have f3 : w'.frozen? ⟨w.heap.size, 3, none⟩ = false := (hb.frozen (by simp <;> omega)).trans (by simp)
  have HB : Hid (Below w.heap.size w w') := (((Below.refl _ _).alloc (Nat.le_refl _) _).alloc (by simp) _).trans (hb.mono (by simp <;> omega))
  clear hb
  go_wp2
  refine bodyPost_ret (v := .tuple #[insV 0 0 0 0, .int .i64 11]) (by simp [results, Tryd.results30, go_sem, c0, c1, c2, c3]) rfl ⟨rfl, ?_⟩
  exact (((HB.out.setCell (Nat.le_refl _) _).setCell (Nat.le_refl _) _).setCell (Nat.le_refl _) _).setCell (Nat.le_refl _) _

set_option maxHeartbeats 400000 in
theorem rTake_no_low (n : Int) (w : World) (h0 : 0 ≤ n) (h1 : n < 4294967296) (hc : ¬ 32767 < n % 65536) (hm : tMay n = false) :
    Calls Tryd.prog 30 #[.int .u32 n] w fun e w' => e = .returned (.tuple #[insV 0 0 0 0, .int .i64 11]) ∧ Below w.heap.size w w' := by
  have HM := Lib.hid hm
  clear hm
  have eA : n / 1048576 % 16 = tA n := rfl
  have eB : n / 65536 % 16 = tB n := rfl
  have eO := e_O n
  have EI := Lib.hid (show n % 65536 = tI n by unfold tI; omega)
  go_enter Tryd.func30, Tryd.ntmps30
  go_wp2_with fail
  rw [EI.out]
  refine (rMay_any _ _ _ _ _).mono ?_
  rintro e w' ⟨rfl, hb⟩
  rw [show rMay (tO n) (tA n) (tB n) (tI n) = false from HM.out]
  have hz : w.heap.size + 1 < w'.heap.size := by have := hb.size; simp at this; omega
  have c0 : w'.cell? ⟨w.heap.size, 0, none⟩ = some (.int .i64 0) := (hb.cell (by simp <;> omega)).trans (by simp)
  have c1 : w'.cell? ⟨w.heap.size, 1, none⟩ = some (.int .i64 0) := (hb.cell (by simp <;> omega)).trans (by simp)
  have c2 : w'.cell? ⟨w.heap.size, 2, none⟩ = some (.int .i64 0) := (hb.cell (by simp <;> omega)).trans (by simp)
  have c3 : w'.cell? ⟨w.heap.size, 3, none⟩ = some (.int .i64 0) := (hb.cell (by simp <;> omega)).trans (by simp)
  have f0 : w'.frozen? ⟨w.heap.size, 0, none⟩ = false := (hb.frozen (by simp <;> omega)).trans (by simp)
  have f1 : w'.frozen? ⟨w.heap.size, 1, none⟩ = false := (hb.frozen (by simp <;> omega)).trans (by simp)
  have f2 : w'.frozen? ⟨w.heap.size, 2, none⟩ = false := (hb.frozen (by simp <;> omega)).trans (by simp)
  have f3 : w'.frozen? ⟨w.heap.size, 3, none⟩ = false := (hb.frozen (by simp <;> omega)).trans (by simp)
  have HB : Hid (Below w.heap.size w w') := (((Below.refl _ _).alloc (Nat.le_refl _) _).alloc (by simp) _).trans (hb.mono (by simp <;> omega))
  clear hb
  go_wp2
  refine bodyPost_ret (v := .tuple #[insV 0 0 0 0, .int .i64 11]) (by simp [results, Tryd.results30, go_sem, c0, c1, c2, c3]) rfl ⟨rfl, ?_⟩
  exact (((HB.out.setCell (Nat.le_refl _) _).setCell (Nat.le_refl _) _).setCell (Nat.le_refl _) _).setCell (Nat.le_refl _) _

theorem rTake_yes (n : Int) (w : World) (h0 : 0 ≤ n) (h1 : n < 4294967296) (hm : tMay n = true) :
    Calls Tryd.prog 30 #[.int .u32 n] w fun e w' => e = .returned (.tuple #[tIns n, .int .i64 0]) ∧ Below w.heap.size w w' := by
  by_cases hc : 32767 < n % 65536
  · exact rTake_yes_big n w h0 h1 hc hm
  · exact rTake_yes_low n w h0 h1 hc hm
theorem rTake_no (n : Int) (w : World) (h0 : 0 ≤ n) (h1 : n < 4294967296) (hm : tMay n = false) :
    Calls Tryd.prog 30 #[.int .u32 n] w fun e w' => e = .returned (.tuple #[insV 0 0 0 0, .int .i64 11]) ∧ Below w.heap.size w w' := by
  by_cases hc : 32767 < n % 65536
  · exact rTake_no_big n w h0 h1 hc hm
  · exact rTake_no_low n w h0 h1 hc hm
end Go.Proofs.YtcdoofjddhlodaaDoor
