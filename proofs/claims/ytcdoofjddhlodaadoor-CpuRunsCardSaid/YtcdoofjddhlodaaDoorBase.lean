/- Small facts that all texts of the seat share. -/
import Derived.Test.YtcdoofjddhlodaaDoorChecked
import Derived.WalkKit
import Derived.WalkSpells
import Derived.WalkLawsBesides
import Derived.RegionTactic
import Derived.BigQuiet
import Derived.Deep.RegionHeld3
import Derived.Deep.Draws
import Derived.Below
import Derived.Lib.Hide
namespace Go.Proofs.YtcdoofjddhlodaaDoor
open Go.RowKit
set_option linter.unusedVariables false

theorem ret_bool {a b : Bool} (h : a = b) : Ending.returned (.bool a) = Ending.returned (.bool b) := by rw [h]
theorem ret2 {a b c d : Value} (h : a = b) (h' : c = d) : Ending.returned (.tuple #[a, c]) = Ending.returned (.tuple #[b, d]) := by rw [h, h']
theorem int_eq {k : IntKind} {a b : Int} (h : a = b) : Value.int k a = Value.int k b := by rw [h]
theorem str_eq {a b : ByteArray} (h : a = b) : Value.string a = Value.string b := by rw [h]
theorem ret_u32 {a b : Int} (h : a = b) : Ending.returned (.int .u32 a) = Ending.returned (.int .u32 b) := by rw [h]
theorem wraps_u32 (n : Int) (h₀ : 0 ≤ n) (h₁ : n < 2 ^ 32) : IntKind.u32.wrap n = n := by rw [IntKind.wrap_u32]; omega

theorem size_alloc (w : World) (o : Obj) : (w.alloc o).heap.size = w.heap.size + 1 := by simp
theorem old_cell (w : World) (o : Obj) (b j : Nat) (h : b < w.heap.size) : (w.alloc o).cell? ⟨b, j, none⟩ = w.cell? ⟨b, j, none⟩ := World.cell?_alloc_past _ _ _ h
theorem new_cell (w : World) (C : Array Value) (t : TypeId) (b j : Nat) (h : b = w.heap.size) : (w.alloc (.cells C t)).cell? ⟨b, j, none⟩ = C[j]? := World.cell?_alloc_at _ _ _ _ h
theorem new_free (w : World) (C : Array Value) (t : TypeId) (b j : Nat) (h : b = w.heap.size) : (w.alloc (.cells C t)).frozen? ⟨b, j, none⟩ = false := by
  subst h
  simp [World.frozen?, World.alloc, -World.alloc_eq]
theorem three_0 (w : World) (C0 C1 C2 : Array Value) (t0 t1 t2 : TypeId) (j : Nat) : (((w.alloc (.cells C0 t0)).alloc (.cells C1 t1)).alloc (.cells C2 t2)).cell? ⟨w.heap.size, j, none⟩ = C0[j]? := by
  rw [old_cell _ _ _ _ (by rw [size_alloc, size_alloc]; omega), old_cell _ _ _ _ (by rw [size_alloc]; omega), new_cell _ _ _ _ _ rfl]
theorem three_1 (w : World) (C0 C1 C2 : Array Value) (t0 t1 t2 : TypeId) (j : Nat) : (((w.alloc (.cells C0 t0)).alloc (.cells C1 t1)).alloc (.cells C2 t2)).cell? ⟨w.heap.size + 1, j, none⟩ = C1[j]? := by
  rw [old_cell _ _ _ _ (by rw [size_alloc, size_alloc]; omega), new_cell _ _ _ _ _ (by rw [size_alloc])]
theorem three_2 (w : World) (C0 C1 C2 : Array Value) (t0 t1 t2 : TypeId) (j : Nat) : (((w.alloc (.cells C0 t0)).alloc (.cells C1 t1)).alloc (.cells C2 t2)).cell? ⟨w.heap.size + 1 + 1, j, none⟩ = C2[j]? := by
  rw [new_cell _ _ _ _ _ (by rw [size_alloc, size_alloc])]
theorem three_f (w : World) (C0 C1 C2 : Array Value) (t0 t1 t2 : TypeId) (j : Nat) : (((w.alloc (.cells C0 t0)).alloc (.cells C1 t1)).alloc (.cells C2 t2)).frozen? ⟨w.heap.size + 1 + 1, j, none⟩ = false := by
  rw [new_free _ _ _ _ _ (by rw [size_alloc, size_alloc])]
theorem bcell {B : Nat} {W w1 : World} (hb : Below B W w1) : (∀ b o, b < B → w1.cell? ⟨b, o, none⟩ = W.cell? ⟨b, o, none⟩) ∧ (∀ b o, b < B → w1.frozen? ⟨b, o, none⟩ = W.frozen? ⟨b, o, none⟩) :=
  ⟨fun b o h => hb.cell (p := ⟨b, o, none⟩) h, fun b o h => hb.frozen (p := ⟨b, o, none⟩) h⟩
theorem setCell_drewN (w : World) (n : Nat) (p : Addr) (u : Value) : (w.drewN n).setCell p u = (w.setCell p u).drewN n := rfl
theorem below_drewN {B : Nat} {a w : World} (h : Below B a w) (n : Nat) : Below B a (w.drewN n) := ⟨h.os, h.tape, h.output, h.size, h.block⟩
end Go.Proofs.YtcdoofjddhlodaaDoor
