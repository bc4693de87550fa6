/- The document's answer on instructions: what operations use, which may be. -/
import Derived.Test.YtcdoofjddhlodaaDoorIns
namespace Go.Proofs.YtcdoofjddhlodaaDoor
open Go.RowKit

def rImm (o : Int) : Bool := decide (o = 1 ∨ o = 2 ∨ (13 ≤ o ∧ o ≤ 19) ∨ (21 ≤ o ∧ o ≤ 23))
def rA (o : Int) : Bool := decide (o ≠ 18 ∧ o ≠ 24)
def rB (o : Int) : Bool := decide ((3 ≤ o ∧ o ≤ 12) ∨ (14 ≤ o ∧ o ≤ 17) ∨ (21 ≤ o ∧ o ≤ 23))

set_option maxHeartbeats 400000 in
theorem rImm_any (o : Int) (w : World) :
    Calls Tryd.prog 40 #[.int .i64 o] w fun e w' => e = .returned (.bool (rImm o)) ∧ w = w' := by
  go_enter Tryd.func40, Tryd.ntmps40
  go_wp2
  all_goals go_ret
  all_goals exact ⟨ret_bool (by rw [Bool.eq_iff_iff]; simp [rImm, *] <;> omega), rfl⟩

set_option maxHeartbeats 400000 in
theorem rA_any (o : Int) (w : World) :
    Calls Tryd.prog 38 #[.int .i64 o] w fun e w' => e = .returned (.bool (rA o)) ∧ w = w' := by
  go_enter Tryd.func38, Tryd.ntmps38
  go_wp2
  all_goals go_ret
  all_goals exact ⟨ret_bool (by rw [Bool.eq_iff_iff]; simp [rA, *] <;> omega), rfl⟩

set_option maxHeartbeats 400000 in
theorem rB_any (o : Int) (w : World) :
    Calls Tryd.prog 39 #[.int .i64 o] w fun e w' => e = .returned (.bool (rB o)) ∧ w = w' := by
  go_enter Tryd.func39, Tryd.ntmps39
  go_wp2
  all_goals go_ret
  all_goals exact ⟨ret_bool (by rw [Bool.eq_iff_iff]; simp [rB, *] <;> omega), rfl⟩

def rMay (o a b i : Int) : Bool := decide (1 ≤ o ∧ o ≤ 24 ∧ 0 ≤ a ∧ a ≤ 7 ∧ 0 ≤ b ∧ b ≤ 7 ∧ -32768 ≤ i ∧ i ≤ 32767 ∧ (rA o = true ∨ a = 0) ∧ (rB o = true ∨ b = 0) ∧ (rImm o = true ∨ i = 0))

set_option maxHeartbeats 1000000 in
set_option maxRecDepth 100000 in
theorem rMay_any (o a b i : Int) (w : World) :
    Calls Tryd.prog 23 #[insV o a b i] w fun e w' => e = .returned (.bool (rMay o a b i)) ∧ Below w.heap.size w w' := by
  go_enter Tryd.func23, Tryd.ntmps23
  go_wp2_with (first
    | (go_at_call 38; refine (rA_any _ _).mono ?_; rintro e w' ⟨rfl, rfl⟩)
    | (go_at_call 39; refine (rB_any _ _).mono ?_; rintro e w' ⟨rfl, rfl⟩)
    | (go_at_call 40; refine (rImm_any _ _).mono ?_; rintro e w' ⟨rfl, rfl⟩))
  all_goals go_ret
  all_goals exact ⟨ret_bool (by rw [Bool.eq_iff_iff]; simp [rMay, *] <;> omega), (Below.refl _ _).alloc (Nat.le_refl _) _⟩
end Go.Proofs.YtcdoofjddhlodaaDoor
