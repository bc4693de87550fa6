/- Processors as arguments: opened. -/
import Derived.Test.YtcdoofjddhlodaaDoorCxL
import Derived.Test.YtcdoofjddhlodaaDoorSxR
import Derived.Test.YtcdoofjddhlodaaDoorIsaOpen
import Derived.OpenShut
namespace Go.Proofs.YtcdoofjddhlodaaDoor
open Go.Sx Go.RowKit Go.ChangeShapes Go.WideShapes Go.ChangeAt Go.Joins Go.Deep
set_option linter.unusedVariables false
set_option linter.unusedSimpArgs false
section
variable {H : Type} {enc : TypeId × Value → H} {W : World} {r : Reach} {b0 base : Nat} {spare : Nat → Bool} {held : Bool}
theorem cU : Tryd.prog.cellsOf 22 = 1 := by kernel_rfl
theorem cC : Tryd.prog.cellsOf 25 = 9 := by kernel_rfl
theorem cA8 : Tryd.prog.cellsOf 23 = 8 := by kernel_rfl
theorem u32Cell {n : Nat} {cs : List Value} {y : DataW H × List MemPlace} (h : DataW.trod enc Tryd.prog W base spare held n 22 cs = some y) : ∃ a, cs = [.int .u32 a] ∧ 0 ≤ a ∧ a < 4294967296 := by
  obtain ⟨a, e, q, wf⟩ := DataW.trod_int Tryd.underlying22 h
  exact ⟨a, e, u32_bounds wf⟩
theorem regCells {n : Nat} {cs : List Value} {y : DataW H × List MemPlace} (h : DataW.trod enc Tryd.prog W base spare held n 23 cs = some y) : ∃ R : Nat → Int, cs = [.int .u32 (R 0), .int .u32 (R 1), .int .u32 (R 2), .int .u32 (R 3), .int .u32 (R 4), .int .u32 (R 5), .int .u32 (R 6), .int .u32 (R 7)] ∧ regs R := by
  obtain ⟨ys, m, _, _, hc, hy, hg⟩ := DataW.trod_array Tryd.underlying23 h
  rw [cA8] at hc
  match cs, hc, ys, hy with
  | [c0, c1, c2, c3, c4, c5, c6, c7], _, [y0, y1, y2, y3, y4, y5, y6, y7], _ =>
    obtain ⟨r0, e0, b0⟩ := u32Cell (cs := [c0]) (y := y0) (by simpa [cU] using hg 0 (by decide))
    obtain ⟨r1, e1, b1⟩ := u32Cell (cs := [c1]) (y := y1) (by simpa [cU] using hg 1 (by decide))
    obtain ⟨r2, e2, b2⟩ := u32Cell (cs := [c2]) (y := y2) (by simpa [cU] using hg 2 (by decide))
    obtain ⟨r3, e3, b3⟩ := u32Cell (cs := [c3]) (y := y3) (by simpa [cU] using hg 3 (by decide))
    obtain ⟨r4, e4, b4⟩ := u32Cell (cs := [c4]) (y := y4) (by simpa [cU] using hg 4 (by decide))
    obtain ⟨r5, e5, b5⟩ := u32Cell (cs := [c5]) (y := y5) (by simpa [cU] using hg 5 (by decide))
    obtain ⟨r6, e6, b6⟩ := u32Cell (cs := [c6]) (y := y6) (by simpa [cU] using hg 6 (by decide))
    obtain ⟨r7, e7, b7⟩ := u32Cell (cs := [c7]) (y := y7) (by simpa [cU] using hg 7 (by decide))
    simp at e0 e1 e2 e3 e4 e5 e6 e7
    subst e0 e1 e2 e3 e4 e5 e6 e7
    refine ⟨fun j => [r0, r1, r2, r3, r4, r5, r6, r7].getD j 0, rfl, fun j hj => ?_⟩
    match j, hj with
    | 0, _ => exact b0
    | 1, _ => exact b1
    | 2, _ => exact b2
    | 3, _ => exact b3
    | 4, _ => exact b4
    | 5, _ => exact b5
    | 6, _ => exact b6
    | 7, _ => exact b7
theorem cpuCells {n : Nat} {cs : List Value} {y : DataW H × List MemPlace} (h : DataW.trod enc Tryd.prog W base spare held n 25 cs = some y) : ∃ (R : Nat → Int) (p : Int), cs = [.int .u32 (R 0), .int .u32 (R 1), .int .u32 (R 2), .int .u32 (R 3), .int .u32 (R 4), .int .u32 (R 5), .int .u32 (R 6), .int .u32 (R 7), .int .u32 p] ∧ regs R ∧ (0 ≤ p ∧ p < 4294967296) := by
  obtain ⟨ys, m, hc, hy, _, hg⟩ := open_subX Tryd.underlying25 h
  rw [cC] at hc
  match cs, hc, ys, hy with
  | [c0, c1, c2, c3, c4, c5, c6, c7, c8], _, [y0, y1], _ =>
    obtain ⟨R, e0, hR⟩ := regCells (cs := [c0, c1, c2, c3, c4, c5, c6, c7]) (by simpa [cA8] using hg 0 _ _ rfl rfl)
    obtain ⟨p, e1, hp⟩ := u32Cell (cs := [c8]) (by simpa [cU] using hg 1 _ _ rfl rfl)
    simp only [List.cons.injEq, and_true] at e0 e1
    obtain ⟨rfl, rfl, rfl, rfl, rfl, rfl, rfl, rfl⟩ := e0
    subst e1
    exact ⟨R, p, rfl, hR, hp⟩
theorem openCpu {v : Value} {dd : DataW H} {p : List MemPlace} (hv : Value.okWide Tryd.prog W r b0 25 v) (h : DataW.Trod enc Tryd.prog W base spare held 25 v dd p) :
    ∃ (R : Nat → Int) (q : Int), v = cpuV R q ∧ regs R ∧ (0 ≤ q ∧ q < 4294967296) := by
  obtain ⟨cs, ys, m, rfl, _⟩ := open_structX Tryd.underlying25 hv h
  obtain ⟨fuel, hf⟩ := h
  obtain ⟨R, q, e, hR, hq⟩ := cpuCells hf
  refine ⟨R, q, ?_, hR, hq⟩
  have e' : cs = [.int .u32 (R 0), .int .u32 (R 1), .int .u32 (R 2), .int .u32 (R 3), .int .u32 (R 4), .int .u32 (R 5), .int .u32 (R 6), .int .u32 (R 7), .int .u32 q] := by simpa [Value.cells] using e
  rw [e']
theorem cI : Tryd.prog.cellsOf 3 = 1 := by kernel_rfl
theorem cS : Tryd.prog.cellsOf 9 = 1 := by kernel_rfl
theorem intCell {n : Nat} {cs : List Value} {y : DataW H × List MemPlace} (h : DataW.trod enc Tryd.prog W base spare held n 3 cs = some y) : ∃ a, cs = [.int .i64 a] := by
  obtain ⟨a, e, q, wf⟩ := DataW.trod_int Tryd.underlying3 h
  exact ⟨a, e⟩
theorem strCell {n : Nat} {cs : List Value} {y : DataW H × List MemPlace} (h : DataW.trod enc Tryd.prog W base spare held n 9 cs = some y) : ∃ s : ByteArray, cs = [.string s] := by
  obtain ⟨s, e, q, _⟩ := DataW.trod_string Tryd.underlying9 h
  exact ⟨s, e⟩
theorem openParts {v : Value} {dd : DataW H} {p : List MemPlace} (hv : Value.okWide Tryd.prog W r b0 39 v) (h : DataW.Trod enc Tryd.prog W base spare held 39 v dd p) :
    ∃ (R : Nat → Int) (q : Int) (m : ByteArray) (a b : Int), v = .agg #[.int .u32 (R 0), .int .u32 (R 1), .int .u32 (R 2), .int .u32 (R 3), .int .u32 (R 4), .int .u32 (R 5), .int .u32 (R 6), .int .u32 (R 7), .int .u32 q, .string m, .int .i64 a, .int .i64 b] ∧ regs R ∧ (0 ≤ q ∧ q < 4294967296) := by
  obtain ⟨cs, ys, m, rfl, hc, hy, rfl, hg⟩ := open_structX Tryd.underlying39 hv h
  rw [show Tryd.prog.cellsOf 39 = 12 by kernel_rfl] at hc
  match cs, hc, ys, hy with
  | [c0, c1, c2, c3, c4, c5, c6, c7, c8, c9, c10, c11], _, [y0, y1, y2, y3], _ =>
    obtain ⟨R, q, e0, hR, hq⟩ := cpuCells (cs := [c0, c1, c2, c3, c4, c5, c6, c7, c8]) (by simpa [cC] using hg 0 _ _ rfl rfl)
    obtain ⟨m, e1⟩ := strCell (cs := [c9]) (by simpa [cS] using hg 1 _ _ rfl rfl)
    obtain ⟨a, e2⟩ := intCell (cs := [c10]) (by simpa [cI] using hg 2 _ _ rfl rfl)
    obtain ⟨b, e3⟩ := intCell (cs := [c11]) (by simpa [cI] using hg 3 _ _ rfl rfl)
    simp only [List.cons.injEq, and_true] at e0 e1 e2 e3
    subst e1 e2 e3
    obtain ⟨rfl, rfl, rfl, rfl, rfl, rfl, rfl, rfl, rfl⟩ := e0
    exact ⟨R, q, m, a, b, rfl, hR, hq⟩
end
end Go.Proofs.YtcdoofjddhlodaaDoor
