/- What an instruction makes of its two registers: cpu.reckoned. -/
import Derived.Test.YtcdoofjddhlodaaDoorCpuA
namespace Go.Proofs.YtcdoofjddhlodaaDoor
open Go.RowKit
set_option linter.unusedVariables false

set_option maxHeartbeats 400000 in
theorem rec_5 (a b x y i : Int) (w : World) (a0 : 0 ≤ a) (a1 : a < 4294967296) (b0 : 0 ≤ b) (b1 : b < 4294967296) :
    Calls Tryd.prog 22 #[insV 5 x y i, .int .u32 a, .int .u32 b] w fun e w' => e = .returned (.int .u32 (recN 5 a b i)) ∧ Below w.heap.size w w' := by
  have HR : Hid (recN 5 a b i = (a + -b % 4294967296) % 4294967296) := by show _ = _; simp [recN]
  go_enter Tryd.func22, Tryd.ntmps22
  go_wp2
  all_goals go_ret
  all_goals exact ⟨ret_u32 HR.out.symm, (Below.refl _ _).alloc (Nat.le_refl _) _⟩

set_option maxHeartbeats 400000 in
theorem rec_6 (a b x y i : Int) (w : World) (a0 : 0 ≤ a) (a1 : a < 4294967296) (b0 : 0 ≤ b) (b1 : b < 4294967296) :
    Calls Tryd.prog 22 #[insV 6 x y i, .int .u32 a, .int .u32 b] w fun e w' => e = .returned (.int .u32 (recN 6 a b i)) ∧ Below w.heap.size w w' := by
  have HR : Hid (recN 6 a b i = a * b % 4294967296) := by show _ = _; simp [recN]
  go_enter Tryd.func22, Tryd.ntmps22
  go_wp2
  all_goals go_ret
  all_goals exact ⟨ret_u32 HR.out.symm, (Below.refl _ _).alloc (Nat.le_refl _) _⟩

set_option maxHeartbeats 400000 in
theorem rec_7 (a b x y i : Int) (w : World) (a0 : 0 ≤ a) (a1 : a < 4294967296) (b0 : 0 ≤ b) (b1 : b < 4294967296) :
    Calls Tryd.prog 22 #[insV 7 x y i, .int .u32 a, .int .u32 b] w fun e w' => e = .returned (.int .u32 (recN 7 a b i)) ∧ Below w.heap.size w w' := by
  have HR : Hid (recN 7 a b i = quoN a b) := by show _ = _; simp [recN]
  go_enter Tryd.func22, Tryd.ntmps22
  go_wp2_with ((go_at_call 37; refine (quo_any _ _ _ a0 a1 b0 b1).mono ?_; rintro e w' ⟨rfl, rfl⟩))
  all_goals go_ret
  all_goals exact ⟨ret_u32 HR.out.symm, (Below.refl _ _).alloc (Nat.le_refl _) _⟩

set_option maxHeartbeats 400000 in
theorem rec_8 (a b x y i : Int) (w : World) (a0 : 0 ≤ a) (a1 : a < 4294967296) (b0 : 0 ≤ b) (b1 : b < 4294967296) :
    Calls Tryd.prog 22 #[insV 8 x y i, .int .u32 a, .int .u32 b] w fun e w' => e = .returned (.int .u32 (recN 8 a b i)) ∧ Below w.heap.size w w' := by
  have HR : Hid (recN 8 a b i = bits .and .u32 a b) := by show _ = _; simp [recN]
  go_enter Tryd.func22, Tryd.ntmps22
  go_wp2
  all_goals go_ret
  all_goals exact ⟨ret_u32 HR.out.symm, (Below.refl _ _).alloc (Nat.le_refl _) _⟩

end Go.Proofs.YtcdoofjddhlodaaDoor
