/- What an instruction makes of its two registers: cpu.reckoned. -/
import Derived.Test.YtcdoofjddhlodaaDoorCpuA
namespace Go.Proofs.YtcdoofjddhlodaaDoor
open Go.RowKit
set_option linter.unusedVariables false

set_option maxHeartbeats 400000 in
theorem rec_1 (a b x y i : Int) (w : World) (a0 : 0 ≤ a) (a1 : a < 4294967296) (b0 : 0 ≤ b) (b1 : b < 4294967296) :
    Calls Tryd.prog 22 #[insV 1 x y i, .int .u32 a, .int .u32 b] w fun e w' => e = .returned (.int .u32 (recN 1 a b i)) ∧ Below w.heap.size w w' := by
  have HR : Hid (recN 1 a b i = i % 4294967296) := by show _ = _; simp [recN]
  go_enter Tryd.func22, Tryd.ntmps22
  go_wp2
  all_goals go_ret
  all_goals exact ⟨ret_u32 HR.out.symm, (Below.refl _ _).alloc (Nat.le_refl _) _⟩

set_option maxHeartbeats 400000 in
theorem rec_2 (a b x y i : Int) (w : World) (a0 : 0 ≤ a) (a1 : a < 4294967296) (b0 : 0 ≤ b) (b1 : b < 4294967296) :
    Calls Tryd.prog 22 #[insV 2 x y i, .int .u32 a, .int .u32 b] w fun e w' => e = .returned (.int .u32 (recN 2 a b i)) ∧ Below w.heap.size w w' := by
  have HR : Hid (recN 2 a b i = i % 4294967296 * 65536 % 4294967296) := by show _ = _; simp [recN]
  go_enter Tryd.func22, Tryd.ntmps22
  go_wp2
  all_goals go_ret
  all_goals exact ⟨ret_u32 HR.out.symm, (Below.refl _ _).alloc (Nat.le_refl _) _⟩

set_option maxHeartbeats 400000 in
theorem rec_3 (a b x y i : Int) (w : World) (a0 : 0 ≤ a) (a1 : a < 4294967296) (b0 : 0 ≤ b) (b1 : b < 4294967296) :
    Calls Tryd.prog 22 #[insV 3 x y i, .int .u32 a, .int .u32 b] w fun e w' => e = .returned (.int .u32 (recN 3 a b i)) ∧ Below w.heap.size w w' := by
  have HR : Hid (recN 3 a b i = b) := by show _ = _; simp [recN]
  go_enter Tryd.func22, Tryd.ntmps22
  go_wp2
  all_goals go_ret
  all_goals exact ⟨ret_u32 HR.out.symm, (Below.refl _ _).alloc (Nat.le_refl _) _⟩

set_option maxHeartbeats 400000 in
theorem rec_4 (a b x y i : Int) (w : World) (a0 : 0 ≤ a) (a1 : a < 4294967296) (b0 : 0 ≤ b) (b1 : b < 4294967296) :
    Calls Tryd.prog 22 #[insV 4 x y i, .int .u32 a, .int .u32 b] w fun e w' => e = .returned (.int .u32 (recN 4 a b i)) ∧ Below w.heap.size w w' := by
  have HR : Hid (recN 4 a b i = (a + b) % 4294967296) := by show _ = _; simp [recN]
  go_enter Tryd.func22, Tryd.ntmps22
  go_wp2
  all_goals go_ret
  all_goals exact ⟨ret_u32 HR.out.symm, (Below.refl _ _).alloc (Nat.le_refl _) _⟩

end Go.Proofs.YtcdoofjddhlodaaDoor
