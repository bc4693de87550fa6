/- What an instruction makes of its two registers: cpu.reckoned. -/
import Derived.Test.YtcdoofjddhlodaaDoorCpuA
namespace Go.Proofs.YtcdoofjddhlodaaDoor
open Go.RowKit
set_option linter.unusedVariables false

set_option maxHeartbeats 400000 in
theorem rec_9 (a b x y i : Int) (w : World) (a0 : 0 ≤ a) (a1 : a < 4294967296) (b0 : 0 ≤ b) (b1 : b < 4294967296) :
    Calls Tryd.prog 22 #[insV 9 x y i, .int .u32 a, .int .u32 b] w fun e w' => e = .returned (.int .u32 (recN 9 a b i)) ∧ Below w.heap.size w w' := by
  have HR : Hid (recN 9 a b i = bits .or .u32 a b) := by show _ = _; simp [recN]
  go_enter Tryd.func22, Tryd.ntmps22
  go_wp2
  all_goals go_ret
  all_goals exact ⟨ret_u32 HR.out.symm, (Below.refl _ _).alloc (Nat.le_refl _) _⟩

set_option maxHeartbeats 400000 in
theorem rec_10 (a b x y i : Int) (w : World) (a0 : 0 ≤ a) (a1 : a < 4294967296) (b0 : 0 ≤ b) (b1 : b < 4294967296) :
    Calls Tryd.prog 22 #[insV 10 x y i, .int .u32 a, .int .u32 b] w fun e w' => e = .returned (.int .u32 (recN 10 a b i)) ∧ Below w.heap.size w w' := by
  have HR : Hid (recN 10 a b i = bits .xor .u32 a b) := by show _ = _; simp [recN]
  go_enter Tryd.func22, Tryd.ntmps22
  go_wp2
  all_goals go_ret
  all_goals exact ⟨ret_u32 HR.out.symm, (Below.refl _ _).alloc (Nat.le_refl _) _⟩

set_option maxHeartbeats 400000 in
theorem rec_13 (a b x y i : Int) (w : World) (a0 : 0 ≤ a) (a1 : a < 4294967296) (b0 : 0 ≤ b) (b1 : b < 4294967296) :
    Calls Tryd.prog 22 #[insV 13 x y i, .int .u32 a, .int .u32 b] w fun e w' => e = .returned (.int .u32 (recN 13 a b i)) ∧ Below w.heap.size w w' := by
  have HR : Hid (recN 13 a b i = (a + i % 4294967296) % 4294967296) := by show _ = _; simp [recN]
  go_enter Tryd.func22, Tryd.ntmps22
  go_wp2
  all_goals go_ret
  all_goals exact ⟨ret_u32 HR.out.symm, (Below.refl _ _).alloc (Nat.le_refl _) _⟩

end Go.Proofs.YtcdoofjddhlodaaDoor
