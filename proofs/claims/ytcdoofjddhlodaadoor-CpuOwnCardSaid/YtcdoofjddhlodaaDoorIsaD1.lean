/- isa.Take: its answers as plain numbers. -/
import Derived.Test.YtcdoofjddhlodaaDoorIsaM
namespace Go.Proofs.YtcdoofjddhlodaaDoor
open Go.RowKit
set_option linter.unusedVariables false

theorem may_range {o a b i : Int} (h : rMay o a b i = true) : 1 ≤ o ∧ o ≤ 24 ∧ 0 ≤ a ∧ a ≤ 7 ∧ 0 ≤ b ∧ b ≤ 7 ∧ -32768 ≤ i ∧ i ≤ 32767 := by
  simp only [rMay, decide_eq_true_eq] at h
  omega

theorem and15 (x : Int) : bits .and .u32 x 15 = x % 16 := bits_low .u32 4 (by decide) (fun n h h' => by rw [IntKind.wrap_u32]; omega) x

def tO (n : Int) : Int := n / 16777216
def tA (n : Int) : Int := n / 1048576 % 16
def tB (n : Int) : Int := n / 65536 % 16
def tI (n : Int) : Int := (n + 32768) % 65536 - 32768
def tMay (n : Int) : Bool := rMay (tO n) (tA n) (tB n) (tI n)

abbrev tIns (n : Int) : Value := insV (tO n) (tA n) (tB n) (tI n)

theorem e_A (n : Int) (h0 : 0 ≤ n) (h1 : n < 4294967296) : wrap64 (bits BinOp.and IntKind.u32 (n / 1048576) 15) = tA n := by rw [and15]; unfold wrap64 tA; omega
theorem e_B (n : Int) (h0 : 0 ≤ n) (h1 : n < 4294967296) : wrap64 (bits BinOp.and IntKind.u32 (n / 65536) 15) = tB n := by rw [and15]; unfold wrap64 tB; omega
theorem e_I (n : Int) : wrap64 (IntKind.i16.wrap n) = tI n := by rw [wrap_i16]; unfold wrap64 tI; omega
theorem e_O (n : Int) : n / 16777216 = tO n := rfl

theorem uses2 {w : World} (hT : UsesAt w) (c1 c2 : Array Value) (t1 t2 : TypeId) : UsesAt ((w.alloc (.cells c1 t1)).alloc (.cells c2 t2)) :=
  hT.below (((Below.refl _ _).alloc (Nat.le_refl _) _).alloc (by simp) _)

set_option maxHeartbeats 400000 in
theorem take_no (n : Int) (w : World) (hT : UsesAt w) (h0 : 0 ≤ n) (h1 : n < 4294967296) (hm : tMay n = false) :
    Calls Tryd.prog 27 #[.int .u32 n] w fun e w' => e = .returned (.tuple #[insV 0 0 0 0, .int .i64 11]) ∧ Below w.heap.size w w' := by
  have HM := Lib.hid hm
  clear hm
  have eA := e_A n h0 h1
  have eB := e_B n h0 h1
  have eI := e_I n
  have eO := e_O n
  have H2 := Lib.hid (fun c1 c2 => uses2 hT c1 c2 27 27)
  clear hT
  go_enter Tryd.func27, Tryd.ntmps27
  go_wp2_with fail
  refine (may_any _ _ _ _ _ (H2.out _ _)).mono ?_
  rintro e w' ⟨rfl, hb⟩
  rw [may_eq, show rMay (tO n) (tA n) (tB n) (tI n) = false from HM.out]
  have hz : w.heap.size + 1 < w'.heap.size := by have := hb.size; simp at this; omega
  have c0 : w'.cell? ⟨w.heap.size, 0, none⟩ = some (.int .i64 0) := (hb.cell (by simp <;> omega)).trans (by simp)
  have c1 : w'.cell? ⟨w.heap.size, 1, none⟩ = some (.int .i64 0) := (hb.cell (by simp <;> omega)).trans (by simp)
  have c2 : w'.cell? ⟨w.heap.size, 2, none⟩ = some (.int .i64 0) := (hb.cell (by simp <;> omega)).trans (by simp)
  have c3 : w'.cell? ⟨w.heap.size, 3, none⟩ = some (.int .i64 0) := (hb.cell (by simp <;> omega)).trans (by simp)
  have f0 : w'.frozen? ⟨w.heap.size, 0, none⟩ = false := (hb.frozen (by simp <;> omega)).trans (by simp)
  have f1 : w'.frozen? ⟨w.heap.size, 1, none⟩ = false := (hb.frozen (by simp <;> omega)).trans (by simp)
  have f2 : w'.frozen? ⟨w.heap.size, 2, none⟩ = false := (hb.frozen (by simp <;> omega)).trans (by simp)
  have f3 : w'.frozen? ⟨w.heap.size, 3, none⟩ = false := (hb.frozen (by simp <;> omega)).trans (by simp)
  have HB : Hid (Below w.heap.size w w') := (((Below.refl _ _).alloc (Nat.le_refl _) _).alloc (by simp) _).trans (hb.mono (by simp <;> omega))
  clear hb
  go_wp2
  refine bodyPost_ret (v := .tuple #[insV 0 0 0 0, .int .i64 11]) (by simp [results, Tryd.results27, go_sem, c0, c1, c2, c3]) rfl ⟨rfl, ?_⟩
  exact (((HB.out.setCell (Nat.le_refl _) _).setCell (Nat.le_refl _) _).setCell (Nat.le_refl _) _).setCell (Nat.le_refl _) _

set_option maxHeartbeats 400000 in
theorem take_yes (n : Int) (w : World) (hT : UsesAt w) (h0 : 0 ≤ n) (h1 : n < 4294967296) (hm : tMay n = true) :
    Calls Tryd.prog 27 #[.int .u32 n] w fun e w' => e = .returned (.tuple #[tIns n, .int .i64 0]) ∧ Below w.heap.size w w' := by
  have HM := Lib.hid hm
  clear hm
  have eA := e_A n h0 h1
  have eB := e_B n h0 h1
  have eI := e_I n
  have eO := e_O n
  have H2 := Lib.hid (fun c1 c2 => uses2 hT c1 c2 27 27)
  clear hT
  go_enter Tryd.func27, Tryd.ntmps27
  go_wp2_with fail
  refine (may_any _ _ _ _ _ (H2.out _ _)).mono ?_
  rintro e w' ⟨rfl, hb⟩
  rw [may_eq, show rMay (tO n) (tA n) (tB n) (tI n) = true from HM.out]
  have hz : w.heap.size + 1 < w'.heap.size := by have := hb.size; simp at this; omega
  have c0 : w'.cell? ⟨w.heap.size, 0, none⟩ = some (.int .i64 0) := (hb.cell (by simp <;> omega)).trans (by simp)
  have c1 : w'.cell? ⟨w.heap.size, 1, none⟩ = some (.int .i64 0) := (hb.cell (by simp <;> omega)).trans (by simp)
  have c2 : w'.cell? ⟨w.heap.size, 2, none⟩ = some (.int .i64 0) := (hb.cell (by simp <;> omega)).trans (by simp)
  have c3 : w'.cell? ⟨w.heap.size, 3, none⟩ = some (.int .i64 0) := (hb.cell (by simp <;> omega)).trans (by simp)
  have f0 : w'.frozen? ⟨w.heap.size, 0, none⟩ = false := (hb.frozen (by simp <;> omega)).trans (by simp)
  have f1 : w'.frozen? ⟨w.heap.size, 1, none⟩ = false := (hb.frozen (by simp <;> omega)).trans (by simp)
  have f2 : w'.frozen? ⟨w.heap.size, 2, none⟩ = false := (hb.frozen (by simp <;> omega)).trans (by simp)
  have f3 : w'.frozen? ⟨w.heap.size, 3, none⟩ = false := (hb.frozen (by simp <;> omega)).trans (by simp)
  have d0 : w'.cell? ⟨w.heap.size + 1, 0, none⟩ = some (.int .i64 (tO n)) := (hb.cell (by simp)).trans (by simp)
  have d1 : w'.cell? ⟨w.heap.size + 1, 1, none⟩ = some (.int .i64 (tA n)) := (hb.cell (by simp)).trans (by simp)
  have d2 : w'.cell? ⟨w.heap.size + 1, 2, none⟩ = some (.int .i64 (tB n)) := (hb.cell (by simp)).trans (by simp)
  have d3 : w'.cell? ⟨w.heap.size + 1, 3, none⟩ = some (.int .i64 (tI n)) := (hb.cell (by simp)).trans (by simp)
  have HB : Hid (Below w.heap.size w w') := (((Below.refl _ _).alloc (Nat.le_refl _) _).alloc (by simp) _).trans (hb.mono (by simp <;> omega))
  clear hb
  go_wp2
  refine bodyPost_ret (v := .tuple #[tIns n, .int .i64 0]) (by simp [results, Tryd.results27, go_sem, c0, c1, c2, c3]) rfl ⟨rfl, ?_⟩
  exact (((HB.out.setCell (Nat.le_refl _) _).setCell (Nat.le_refl _) _).setCell (Nat.le_refl _) _).setCell (Nat.le_refl _) _
end Go.Proofs.YtcdoofjddhlodaaDoor
