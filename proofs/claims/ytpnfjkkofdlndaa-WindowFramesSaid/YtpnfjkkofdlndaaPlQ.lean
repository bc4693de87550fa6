/- What the windows' laws are asked of: opened. -/
import Derived.Test.YtpnfjkkofdlndaaPlO
namespace Go.Proofs.Ytpnfjkkofdlndaa
open Go.Sx Go.RowKit Go.ChangeShapes Go.WideShapes Go.ChangeAt Go.Joins Go.Deep
set_option linter.unusedVariables false
set_option linter.unusedSimpArgs false
section
variable {H : Type} {enc : TypeId × Value → H} {W : World} {r : Reach} {b0 base : Nat} {spare : Nat → Bool} {held : Bool}
theorem cU6 : Try.prog.cellsOf 27 = 1 := by kernel_rfl
theorem u64Cell {n : Nat} {cs : List Value} {y : DataW H × List MemPlace} (h : DataW.trod enc Try.prog W base spare held n 27 cs = some y) : ∃ a, cs = [.int .u64 a] ∧ 0 ≤ a ∧ a ≤ 18446744073709551615 := by
  obtain ⟨a, e, q, wf⟩ := DataW.trod_int Try.underlying27 h
  have := u64_bounds wf
  exact ⟨a, e, by omega, by omega⟩
theorem openTells {v : Value} {dd : DataW H} {p : List MemPlace} (hv : Value.okWide Try.prog W r b0 29 v) (h : DataW.Trod enc Try.prog W base spare held 29 v dd p) :
    ∃ (va vb vc : Value) (F : Int) (P : List Pa) (S : List RW) (C : List Ch) (i q n t : Int), v = .agg #[va, .int .i64 F, vb, vc, .int .i64 i, .int .i64 q, .int .i64 n, .int .u64 t] ∧ PlanIn W va vb vc P S C ∧ (0 ≤ t ∧ t ≤ 18446744073709551615) := by
  obtain ⟨cs, ys, m, rfl, hc, hy, rfl, hg⟩ := open_structX Try.underlying29 hv h
  rw [show Try.prog.cellsOf 29 = 8 by kernel_rfl] at hc
  match cs, hc, ys, hy with
  | [c0, c1, c2, c3, c4, c5, c6, c7], _, [y0, y1, y2, y3, y4], _ =>
    obtain ⟨va, vb, vc, F, P, S, C, e0, hp, _⟩ := planCells (cs := [c0, c1, c2, c3]) (by simpa [cPl] using hg 0 _ _ rfl rfl)
    obtain ⟨i, e1, _⟩ := intCell (cs := [c4]) (by simpa [cI] using hg 1 _ _ rfl rfl)
    obtain ⟨q, e2, _⟩ := intCell (cs := [c5]) (by simpa [cI] using hg 2 _ _ rfl rfl)
    obtain ⟨n, e3, _⟩ := intCell (cs := [c6]) (by simpa [cI] using hg 3 _ _ rfl rfl)
    obtain ⟨t, e4, bt⟩ := u64Cell (cs := [c7]) (by simpa [cU6] using hg 4 _ _ rfl rfl)
    simp only [List.cons.injEq, and_true] at e0 e1 e2 e3 e4
    subst e1 e2 e3 e4
    obtain ⟨rfl, rfl, rfl, rfl⟩ := e0
    exact ⟨_, _, _, F, P, S, C, i, q, n, t, rfl, hp, bt⟩
theorem openCounts {v : Value} {dd : DataW H} {p : List MemPlace} (hv : Value.okWide Try.prog W r b0 38 v) (h : DataW.Trod enc Try.prog W base spare held 38 v dd p) :
    ∃ (va vb vc : Value) (F : Int) (P : List Pa) (S : List RW) (C : List Ch) (i q t : Int), v = .agg #[va, .int .i64 F, vb, vc, .int .i64 i, .int .i64 q, .int .u64 t] ∧ PlanIn W va vb vc P S C ∧ (0 ≤ t ∧ t ≤ 18446744073709551615) := by
  obtain ⟨cs, ys, m, rfl, hc, hy, rfl, hg⟩ := open_structX Try.underlying38 hv h
  rw [show Try.prog.cellsOf 38 = 7 by kernel_rfl] at hc
  match cs, hc, ys, hy with
  | [c0, c1, c2, c3, c4, c5, c7], _, [y0, y1, y2, y4], _ =>
    obtain ⟨va, vb, vc, F, P, S, C, e0, hp, _⟩ := planCells (cs := [c0, c1, c2, c3]) (by simpa [cPl] using hg 0 _ _ rfl rfl)
    obtain ⟨i, e1, _⟩ := intCell (cs := [c4]) (by simpa [cI] using hg 1 _ _ rfl rfl)
    obtain ⟨q, e2, _⟩ := intCell (cs := [c5]) (by simpa [cI] using hg 2 _ _ rfl rfl)
    obtain ⟨t, e4, bt⟩ := u64Cell (cs := [c7]) (by simpa [cU6] using hg 3 _ _ rfl rfl)
    simp only [List.cons.injEq, and_true] at e0 e1 e2 e4
    subst e1 e2 e4
    obtain ⟨rfl, rfl, rfl, rfl⟩ := e0
    exact ⟨_, _, _, F, P, S, C, i, q, t, rfl, hp, bt⟩
theorem openFrames {v : Value} {dd : DataW H} {p : List MemPlace} (hv : Value.okWide Try.prog W r b0 40 v) (h : DataW.Trod enc Try.prog W base spare held 40 v dd p) :
    ∃ (va vb vc : Value) (F : Int) (P : List Pa) (S : List RW) (C : List Ch) (i q t : Int), v = .agg #[va, .int .i64 F, vb, vc, .int .i64 i, .int .i64 q, .int .u64 t] ∧ PlanIn W va vb vc P S C ∧ (0 ≤ t ∧ t ≤ 18446744073709551615) := by
  obtain ⟨cs, ys, m, rfl, hc, hy, rfl, hg⟩ := open_structX Try.underlying40 hv h
  rw [show Try.prog.cellsOf 40 = 7 by kernel_rfl] at hc
  match cs, hc, ys, hy with
  | [c0, c1, c2, c3, c4, c5, c7], _, [y0, y1, y2, y4], _ =>
    obtain ⟨va, vb, vc, F, P, S, C, e0, hp, _⟩ := planCells (cs := [c0, c1, c2, c3]) (by simpa [cPl] using hg 0 _ _ rfl rfl)
    obtain ⟨i, e1, _⟩ := intCell (cs := [c4]) (by simpa [cI] using hg 1 _ _ rfl rfl)
    obtain ⟨q, e2, _⟩ := intCell (cs := [c5]) (by simpa [cI] using hg 2 _ _ rfl rfl)
    obtain ⟨t, e4, bt⟩ := u64Cell (cs := [c7]) (by simpa [cU6] using hg 3 _ _ rfl rfl)
    simp only [List.cons.injEq, and_true] at e0 e1 e2 e4
    subst e1 e2 e4
    obtain ⟨rfl, rfl, rfl, rfl⟩ := e0
    exact ⟨_, _, _, F, P, S, C, i, q, t, rfl, hp, bt⟩
theorem openGrants {v : Value} {dd : DataW H} {p : List MemPlace} (hv : Value.okWide Try.prog W r b0 44 v) (h : DataW.Trod enc Try.prog W base spare held 44 v dd p) :
    ∃ (va vb vc : Value) (F : Int) (P : List Pa) (S : List RW) (C : List Ch) (i q t : Int), v = .agg #[va, .int .i64 F, vb, vc, .int .i64 i, .int .i64 q, .int .u64 t] ∧ PlanIn W va vb vc P S C ∧ (0 ≤ t ∧ t ≤ 18446744073709551615) := by
  obtain ⟨cs, ys, m, rfl, hc, hy, rfl, hg⟩ := open_structX Try.underlying44 hv h
  rw [show Try.prog.cellsOf 44 = 7 by kernel_rfl] at hc
  match cs, hc, ys, hy with
  | [c0, c1, c2, c3, c4, c5, c7], _, [y0, y1, y2, y4], _ =>
    obtain ⟨va, vb, vc, F, P, S, C, e0, hp, _⟩ := planCells (cs := [c0, c1, c2, c3]) (by simpa [cPl] using hg 0 _ _ rfl rfl)
    obtain ⟨i, e1, _⟩ := intCell (cs := [c4]) (by simpa [cI] using hg 1 _ _ rfl rfl)
    obtain ⟨q, e2, _⟩ := intCell (cs := [c5]) (by simpa [cI] using hg 2 _ _ rfl rfl)
    obtain ⟨t, e4, bt⟩ := u64Cell (cs := [c7]) (by simpa [cU6] using hg 3 _ _ rfl rfl)
    simp only [List.cons.injEq, and_true] at e0 e1 e2 e4
    subst e1 e2 e4
    obtain ⟨rfl, rfl, rfl, rfl⟩ := e0
    exact ⟨_, _, _, F, P, S, C, i, q, t, rfl, hp, bt⟩
end
end Go.Proofs.Ytpnfjkkofdlndaa
