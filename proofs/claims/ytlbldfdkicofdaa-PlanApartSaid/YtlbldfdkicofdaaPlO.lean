/- Plans as arguments: opened. -/
import Derived.Test.YtlbldfdkicofdaaPlV
import Derived.Test.YtlbldfdkicofdaaSxR
import Derived.Test.YtlbldfdkicofdaaFrameU
import Derived.OpenShut
namespace Go.Proofs.Ytlbldfdkicofdaa
open Go.Sx Go.RowKit Go.ChangeShapes Go.WideShapes Go.ChangeAt Go.Joins Go.Deep
set_option linter.unusedVariables false
set_option linter.unusedSimpArgs false
section
variable {H : Type} {enc : TypeId × Value → H} {W : World} {r : Reach} {b0 base : Nat} {spare : Nat → Bool} {held : Bool}
theorem cI : Try.prog.cellsOf 3 = 1 := by kernel_rfl
theorem cA3 : Try.prog.cellsOf 40 = 3 := by kernel_rfl
theorem cPa : Try.prog.cellsOf 42 = 4 := by kernel_rfl
theorem cWn : Try.prog.cellsOf 32 = 3 := by kernel_rfl
theorem cCh : Try.prog.cellsOf 38 = 5 := by kernel_rfl
theorem cPl : Try.prog.cellsOf 26 = 4 := by kernel_rfl
theorem cRp : Try.prog.cellsOf 22 = 1 := by kernel_rfl
theorem cRw : Try.prog.cellsOf 30 = 1 := by kernel_rfl
theorem cRww : Try.prog.cellsOf 23 = 1 := by kernel_rfl
theorem cRc : Try.prog.cellsOf 24 = 1 := by kernel_rfl
theorem intCell {n : Nat} {cs : List Value} {y : DataW H × List MemPlace} (h : DataW.trod enc Try.prog W base spare held n 3 cs = some y) : ∃ a, cs = [.int .i64 a] ∧ -9223372036854775808 ≤ a ∧ a ≤ 9223372036854775807 := by
  obtain ⟨a, e, q, wf⟩ := DataW.trod_int Try.underlying3 h
  exact ⟨a, e, i64_bounds wf⟩
theorem actCells {n : Nat} {cs : List Value} {y : DataW H × List MemPlace} (h : DataW.trod enc Try.prog W base spare held n 40 cs = some y) : ∃ (a b c : Int), cs = [.int .i64 a, .int .i64 b, .int .i64 c] := by
  obtain ⟨ys, m, _, _, hc, hy, hg⟩ := DataW.trod_array Try.underlying40 h
  rw [cA3] at hc
  match cs, hc, ys, hy with
  | [c0, c1, c2], _, [y0, y1, y2], _ =>
    obtain ⟨a, e0, _⟩ := intCell (cs := [c0]) (y := y0) (by simpa [cI] using hg 0 (by decide))
    obtain ⟨b, e1, _⟩ := intCell (cs := [c1]) (y := y1) (by simpa [cI] using hg 1 (by decide))
    obtain ⟨c, e2, _⟩ := intCell (cs := [c2]) (y := y2) (by simpa [cI] using hg 2 (by decide))
    simp at e0 e1 e2
    subst e0 e1 e2
    exact ⟨a, b, c, rfl⟩
theorem partCells {n : Nat} {cs : List Value} {y : DataW H × List MemPlace} (h : DataW.trod enc Try.prog W base spare held n 42 cs = some y) : ∃ x : Pa, cs = paG x := by
  obtain ⟨ys, m, hc, hy, _, hg⟩ := open_subX Try.underlying42 h
  rw [cPa] at hc
  match cs, hc, ys, hy with
  | [c0, c1, c2, c3], _, [y0, y1], _ =>
    obtain ⟨m, e0, _⟩ := intCell (cs := [c0]) (by simpa [cI] using hg 0 _ _ rfl rfl)
    obtain ⟨a, b, c, e1⟩ := actCells (cs := [c1, c2, c3]) (by simpa [cA3] using hg 1 _ _ rfl rfl)
    simp only [List.cons.injEq, and_true] at e0 e1
    subst e0
    obtain ⟨rfl, rfl, rfl⟩ := e1
    exact ⟨⟨m, a, b, c⟩, rfl⟩
theorem winCells {n : Nat} {cs : List Value} {y : DataW H × List MemPlace} (h : DataW.trod enc Try.prog W base spare held n 32 cs = some y) : ∃ x : Wn, cs = wnG x ∧ okWn x := by
  obtain ⟨ys, m, hc, hy, _, hg⟩ := open_subX Try.underlying32 h
  rw [cWn] at hc
  match cs, hc, ys, hy with
  | [c0, c1, c2], _, [y0, y1, y2], _ =>
    obtain ⟨p, e0, _⟩ := intCell (cs := [c0]) (by simpa [cI] using hg 0 _ _ rfl rfl)
    obtain ⟨f, e1, b⟩ := intCell (cs := [c1]) (by simpa [cI] using hg 1 _ _ rfl rfl)
    obtain ⟨l, e2, _⟩ := intCell (cs := [c2]) (by simpa [cI] using hg 2 _ _ rfl rfl)
    simp at e0 e1 e2
    subst e0 e1 e2
    exact ⟨⟨p, f, l⟩, rfl, b.2⟩
theorem chanCells {n : Nat} {cs : List Value} {y : DataW H × List MemPlace} (h : DataW.trod enc Try.prog W base spare held n 38 cs = some y) : ∃ x : Ch, cs = chG x := by
  obtain ⟨ys, m, hc, hy, _, hg⟩ := open_subX Try.underlying38 h
  rw [cCh] at hc
  match cs, hc, ys, hy with
  | [c0, c1, c2, c3, c4], _, [y0, y1, y2, y3, y4], _ =>
    obtain ⟨k, e0, _⟩ := intCell (cs := [c0]) (by simpa [cI] using hg 0 _ _ rfl rfl)
    obtain ⟨f, e1, _⟩ := intCell (cs := [c1]) (by simpa [cI] using hg 1 _ _ rfl rfl)
    obtain ⟨t, e2, _⟩ := intCell (cs := [c2]) (by simpa [cI] using hg 2 _ _ rfl rfl)
    obtain ⟨s, e3, _⟩ := intCell (cs := [c3]) (by simpa [cI] using hg 3 _ _ rfl rfl)
    obtain ⟨d, e4, _⟩ := intCell (cs := [c4]) (by simpa [cI] using hg 4 _ _ rfl rfl)
    simp at e0 e1 e2 e3 e4
    subst e0 e1 e2 e3 e4
    exact ⟨⟨k, f, t, s, d⟩, rfl⟩
theorem planCells {n : Nat} {cs : List Value} {y : DataW H × List MemPlace} (h : DataW.trod enc Try.prog W base spare held n 26 cs = some y) :
    ∃ (va vb vc : Value) (F : Int) (P : List Pa) (S : List RW) (C : List Ch), cs = [va, .int .i64 F, vb, vc] ∧ PlanIn W va vb vc P S C ∧ (-9223372036854775808 ≤ F ∧ F ≤ 9223372036854775807) := by
  obtain ⟨ys, m, hc, hy, _, hg⟩ := open_subX Try.underlying26 h
  rw [cPl] at hc
  match cs, hc, ys, hy with
  | [c0, c1, c2, c3], _, [y0, y1, y2, y3], _ =>
    have g0 : DataW.trod enc Try.prog W base spare held m 22 [c0] = some y0 := by simpa [cRp] using hg 0 _ _ rfl rfl
    obtain ⟨F, e1, bF⟩ := intCell (cs := [c1]) (by simpa [cI] using hg 1 _ _ rfl rfl)
    have g2 : DataW.trod enc Try.prog W base spare held m 23 [c2] = some y2 := by simpa [cRww] using hg 2 _ _ rfl rfl
    have g3 : DataW.trod enc Try.prog W base spare held m 24 [c3] = some y3 := by simpa [cRc] using hg 3 _ _ rfl rfl
    obtain ⟨va, P, e0, ha, _⟩ := open_rowX paC paG paDen (fun _ _ => True) pa0 Try.underlying22 cPa (fun _ => rfl) (by omega) (fun n cs y h => by obtain ⟨x, e⟩ := partCells h; exact ⟨x, e, trivial⟩) g0
    obtain ⟨vb, S, e2, hb, hd⟩ := open_rowsX wnC wnG wnDen (fun x _ => okWn x) wn0 Try.underlying23 Try.underlying30 cRw cWn (fun _ => rfl) (by omega) (fun n cs y h => by obtain ⟨x, e, b⟩ := winCells h; exact ⟨x, e, b⟩) g2
    obtain ⟨vc, C, e3, hcc, _⟩ := open_rowX chC chG chDen (fun _ _ => True) ch0 Try.underlying24 cCh (fun _ => rfl) (by omega) (fun n cs y h => by obtain ⟨x, e⟩ := chanCells h; exact ⟨x, e, trivial⟩) g3
    simp only [List.cons.injEq, and_true] at e0 e1 e2 e3
    subst e0 e1 e2 e3
    refine ⟨_, _, _, F, P, S, C, rfl, ⟨ha, hb, hcc, ?_, ?_⟩, bF⟩
    · intro x hx z hz
      rcases hd with ⟨_, rfl⟩ | ⟨els, sp, _, _, hall⟩
      · cases hx
      · obtain ⟨i, hi⟩ := List.getElem?_of_mem hx
        obtain ⟨d, _, hd⟩ := hall i x hi
        rcases hd with ⟨_, he⟩ | ⟨els, sp, _, _, hall⟩
        · rw [he] at hz; cases hz
        · obtain ⟨j, hj⟩ := List.getElem?_of_mem hz
          obtain ⟨d, _, hd⟩ := hall j z hj
          exact hd
    · obtain ⟨A, cap, hv, h1, h2, _⟩ := (hb ⟨W, none, [], []⟩ ⟨fun _ => none, fun _ => none, fun c sz len cells => InnOk ⟨W, none, [], []⟩ c sz len cells⟩ (fun _ _ _ _ h => h)).form
      have h3 : S.length ≤ cap := h1
      unfold maxLen at h2
      omega
theorem openPlan {v : Value} {dd : DataW H} {p : List MemPlace} (hv : Value.okWide Try.prog W r b0 26 v) (h : DataW.Trod enc Try.prog W base spare held 26 v dd p) :
    ∃ (va vb vc : Value) (F : Int) (P : List Pa) (S : List RW) (C : List Ch), v = .agg #[va, .int .i64 F, vb, vc] ∧ PlanIn W va vb vc P S C ∧ (-9223372036854775808 ≤ F ∧ F ≤ 9223372036854775807) := by
  obtain ⟨cs, ys, m, rfl, _⟩ := open_structX Try.underlying26 hv h
  obtain ⟨fuel, hf⟩ := h
  obtain ⟨va, vb, vc, F, P, S, C, e, hp, bF⟩ := planCells hf
  have e' : cs = [va, .int .i64 F, vb, vc] := by simpa [Value.cells] using e
  subst e'
  exact ⟨va, vb, vc, F, P, S, C, rfl, hp, bF⟩
end
end Go.Proofs.Ytlbldfdkicofdaa
