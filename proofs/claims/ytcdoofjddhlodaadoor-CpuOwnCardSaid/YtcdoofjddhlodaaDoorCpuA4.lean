/- What an instruction makes of its two registers: cpu.reckoned. -/
import Derived.Test.YtcdoofjddhlodaaDoorCpuA
namespace Go.Proofs.YtcdoofjddhlodaaDoor
open Go.RowKit
set_option linter.unusedVariables false

set_option maxHeartbeats 400000 in
theorem rec_11 (a b x y i : Int) (w : World) (a0 : 0 ≤ a) (a1 : a < 4294967296) (b0 : 0 ≤ b) (b1 : b < 4294967296) :
    Calls Tryd.prog 22 #[insV 11 x y i, .int .u32 a, .int .u32 b] w fun e w' => e = .returned (.int .u32 (recN 11 a b i)) ∧ Below w.heap.size w w' := by
  have HR : Hid (recN 11 a b i = a * 2 ^ (b % 32).toNat % 4294967296) := by show _ = _; simp [recN]
  obtain ⟨c, hc⟩ : ∃ c, b % 32 = c := ⟨_, rfl⟩
  have c0 : 0 ≤ c := by omega
  have c1 : c < 32 := by omega
  rw [hc] at HR
  clear a1 b1
  go_enter Tryd.func22, Tryd.ntmps22
  go_wp2
  all_goals go_ret
  all_goals exact ⟨ret_u32 HR.out.symm, (Below.refl _ _).alloc (Nat.le_refl _) _⟩

set_option maxHeartbeats 400000 in
theorem rec_12 (a b x y i : Int) (w : World) (a0 : 0 ≤ a) (a1 : a < 4294967296) (b0 : 0 ≤ b) (b1 : b < 4294967296) :
    Calls Tryd.prog 22 #[insV 12 x y i, .int .u32 a, .int .u32 b] w fun e w' => e = .returned (.int .u32 (recN 12 a b i)) ∧ Below w.heap.size w w' := by
  have HR : Hid (recN 12 a b i = a / 2 ^ (b % 32).toNat) := by show _ = _; simp [recN]
  obtain ⟨c, hc⟩ : ∃ c, b % 32 = c := ⟨_, rfl⟩
  have c0 : 0 ≤ c := by omega
  have c1 : c < 32 := by omega
  rw [hc] at HR
  clear a1 b1
  go_enter Tryd.func22, Tryd.ntmps22
  go_wp2
  all_goals go_ret
  all_goals exact ⟨ret_u32 HR.out.symm, (Below.refl _ _).alloc (Nat.le_refl _) _⟩

end Go.Proofs.YtcdoofjddhlodaaDoor
