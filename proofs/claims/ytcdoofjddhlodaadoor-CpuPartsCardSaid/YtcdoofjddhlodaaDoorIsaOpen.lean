/- Instructions as arguments, opened; the table that the cards list. -/
import Derived.Test.YtcdoofjddhlodaaDoorCards
import Derived.Test.YtcdoofjddhlodaaDoorTie
import Derived.Test.YtcdoofjddhlodaaDoorFrame
import Derived.Test.YtcdoofjddhlodaaDoorIsaB
import Derived.Deep.DeepHandedRow
import Derived.Lib.LaidTab
namespace Go.Proofs.YtcdoofjddhlodaaDoor
open Go.ChangeShapes Go.WideShapes Go.ChangeAt Go.RowKit Go.Joins
set_option linter.unusedVariables false

theorem own : ownKnob Tryd.prog.godebug = none := by kernel_rfl
theorem laidOut : laidOutB Tryd.prog = true := by kernel_rfl
theorem gUses : Tryd.prog.globalNamed "transom/isa.uses" = some 0 := by kernel_rfl
theorem gUsesType : (Tryd.prog.globals[0]?).map (·.type) = some 74 := by kernel_rfl
theorem cellsUses : Tryd.prog.cellsOf 74 = 25 := by kernel_rfl
theorem cellsInt : Tryd.prog.cellsOf 3 = 1 := by kernel_rfl
theorem cellsIns : Tryd.prog.cellsOf 27 = 4 := by kernel_rfl

theorem usesAt_of_tab {W : World} (h : Lib.TabIs Tryd.prog W "transom/isa.uses" .i64 usesL) : UsesAt W := by
  have hc : ∀ j, j < 25 → W.cell? ⟨0, j, none⟩ = some (.int .i64 (usesL.getD j 0)) := fun j hj => h.cell gUses j (by simpa [usesL] using hj)
  refine ⟨?_, hc⟩
  have h0 := hc 0 (by decide)
  by_cases hz : 0 < W.heap.size
  · exact hz
  · have e : W.heap[0]? = none := Array.getElem?_eq_none (by omega)
    simp [World.cell?, e] at h0

theorem openIns {H : Type} {enc : TypeId × Value → H} {W : World} {r : Reach} {b0 base : Nat} {spare : Nat → Bool} {held : Bool} {v : Value} {d : DataW H} {p : List MemPlace}
    (hv : Value.okWide Tryd.prog W r b0 27 v) (h : DataW.Trod enc Tryd.prog W base spare held 27 v d p) :
    ∃ o a b i, v = insV o a b i ∧ (Lit.int .i64 o).wf = true ∧ (Lit.int .i64 a).wf = true ∧ (Lit.int .i64 b).wf = true ∧ (Lit.int .i64 i).wf = true := by
  obtain ⟨c0, c1, c2, c3, y0, y1, y2, y3, m, rfl, rfl, rfl, hy0, hy1, hy2, hy3⟩ := open_agg4 Tryd.underlying27 (by kernel_rfl) cellsIns hv h
  obtain ⟨o, e0, _, w0⟩ := DataW.trod_int Tryd.underlying3 hy0
  obtain ⟨a, e1, _, w1⟩ := DataW.trod_int Tryd.underlying3 hy1
  obtain ⟨b, e2, _, w2⟩ := DataW.trod_int Tryd.underlying3 hy2
  obtain ⟨i, e3, _, w3⟩ := DataW.trod_int Tryd.underlying3 hy3
  simp at e0 e1 e2 e3
  subst e0 e1 e2 e3
  exact ⟨o, a, b, i, rfl, w0, w1, w2, w3⟩

theorem u32_bounds {n : Int} (h : (Lit.int .u32 n).wf = true) : 0 ≤ n ∧ n < 4294967296 := by
  simp [Lit.wf, IntKind.min, IntKind.max, IntKind.signed, IntKind.bits] at h
  omega
theorem i64_bounds {n : Int} (h : (Lit.int .i64 n).wf = true) : -9223372036854775808 ≤ n ∧ n ≤ 9223372036854775807 := by
  simp [Lit.wf, IntKind.min, IntKind.max, IntKind.signed, IntKind.bits] at h
  omega

/-- A WORLD FOR THE WITNESS: the settled one, the table holding what its initialiser lays. -/
noncomputable def laidWorld (os : Os) : World :=
  { World.holding Tryd.prog os ⟨#[], #[], []⟩ with heap := (World.holding Tryd.prog os ⟨#[], #[], []⟩).heap.modify 0 fun
      | .cells _ t frozen => .cells (usesL.map (Value.int .i64)).toArray t frozen
      | o => o }
end Go.Proofs.YtcdoofjddhlodaaDoor
