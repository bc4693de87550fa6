/- What the operations of an instruction use, told as plain functions; the walks over isa.fitted, isa.May. -/
import Derived.Test.YtcdoofjddhlodaaDoorIns
namespace Go.Proofs.YtcdoofjddhlodaaDoor
open Go.RowKit


def fitA (u a : Int) : Int := if (bits BinOp.and IntKind.i64 u 1 != 0) = true then bits BinOp.and IntKind.i64 a 7 else 0
def fitB (u b : Int) : Int := if (bits BinOp.and IntKind.i64 u 2 != 0) = true then bits BinOp.and IntKind.i64 b 7 else 0
def fitI (u i : Int) : Int := if (bits BinOp.and IntKind.i64 u 4 != 0) = true then wrap64 (IntKind.i16.wrap i) else 0

set_option maxHeartbeats 400000 in
theorem fitted_any (o a b i u : Int) (w : World) (h0 : 0 ≤ o) (h1 : o < 25) (hz : 0 < w.heap.size) (hT : w.cell? ⟨0, o.toNat, none⟩ = some (.int .i64 u)) :
    Calls Tryd.prog 36 #[insV o a b i] w fun e w' => e = .returned (insV o (fitA u a) (fitB u b) (fitI u i)) ∧ Below w.heap.size w w' := by
  go_enter Tryd.func36, Tryd.ntmps36
  go_wp2
  all_goals refine bodyPost_ret (v := insV o (fitA u a) (fitB u b) (fitI u i)) (by simp [results, Tryd.results36, go_sem, fitA, fitB, fitI, *]) rfl ⟨rfl, ?_⟩
  all_goals repeat (first | exact Below.refl _ _ | refine Below.alloc ?_ (by simp <;> omega) _)
end Go.Proofs.YtcdoofjddhlodaaDoor
