/- Tables: the argument of whatever table there is, opened. -/
import Derived.Test.YthdpigdbkljiiaaTbO
namespace Go.Proofs.Ythdpigdbkljiiaa
open Go.Sx Go.RowKit Go.ChangeShapes Go.WideShapes Go.ChangeAt Go.Joins Go.Deep
set_option linter.unusedVariables false
set_option linter.unusedSimpArgs false
section
variable {H : Type} {enc : TypeId × Value → H} {W : World} {r : Reach} {b0 base : Nat} {spare : Nat → Bool} {held : Bool}
theorem rowProcs {n : Nat} {cs : List Value} {y : DataW H × List MemPlace} (h : DataW.trod enc Try.prog W base spare held n 22 cs = some y) :
    ∃ (c : Value) (L : List E), cs = [c] ∧ (∀ W' ρ, RowOk W' ρ W c (rowE L)) ∧ ((y.1 = .nil ∧ L.length = 0) ∨ ∃ els sp, y.1 = .slice els sp ∧ els.length = L.length) := by
  obtain ⟨c, L, hc, hr, hd⟩ := open_rowX eC eG eDen (fun x _ => True) e0 Try.underlying22 cP (fun _ => rfl) (by omega)
    (fun n cs y h => by obtain ⟨x, e, b⟩ := procCells h; exact ⟨x, e, trivial⟩) h
  refine ⟨c, L, hc, hr, ?_⟩
  rcases hd with ⟨h1, rfl⟩ | ⟨els, sp, h1, h2, _⟩
  · exact .inl ⟨h1, rfl⟩
  · exact .inr ⟨els, sp, h1, h2⟩
theorem cR : Try.prog.cellsOf 22 = 1 := by kernel_rfl
set_option maxRecDepth 100000 in
theorem openActs {v : Value} {dd : DataW H} {p : List MemPlace} (hv : Value.okWide Try.prog W r b0 35 v) (h : DataW.Trod enc Try.prog W base spare held 35 v dd p) :
    ∃ (c c2 : Value) (L M : List E) (x : E) (pid to : Int) (d d2 : DataW H) (e1 e2 e3 : DataW H), v = .agg (c :: (eG x ++ [.int .i64 pid, .int .i64 to, c2])).toArray ∧ dd = .agg [d, e1, e2, e3, d2] ∧ (∀ W' ρ, RowOk W' ρ W c (rowE L)) ∧ (∀ W' ρ, RowOk W' ρ W c2 (rowE M)) ∧ ((d = .nil ∧ L.length = 0) ∨ ∃ els sp, d = .slice els sp ∧ els.length = L.length) ∧ ((d2 = .nil ∧ M.length = 0) ∨ ∃ els sp, d2 = .slice els sp ∧ els.length = M.length) := by
  obtain ⟨cs, ys, n, rfl, hc, hy, rfl, hg⟩ := open_structX Try.underlying35 hv h
  rw [show Try.prog.cellsOf 35 = 30 by kernel_rfl] at hc
  match cs, hc, ys, hy with
  | [c0, c1, c2, c3, c4, c5, c6, c7, c8, c9, c10, c11, c12, c13, c14, c15, c16, c17, c18, c19, c20, c21, c22, c23, c24, c25, c26, c27, c28, c29], _, [y0, y1, y2, y3, y4], _ =>
    obtain ⟨c, L, e0, hr, hd⟩ := rowProcs (cs := [c0]) (by simpa [cR] using hg 0 _ _ rfl rfl)
    obtain ⟨x, e1, _⟩ := procCells (cs := [c1, c2, c3, c4, c5, c6, c7, c8, c9, c10, c11, c12, c13, c14, c15, c16, c17, c18, c19, c20, c21, c22, c23, c24, c25, c26]) (by simpa [cP] using hg 1 _ _ rfl rfl)
    obtain ⟨pid, e2, _⟩ := intCell (cs := [c27]) (by simpa [cI] using hg 2 _ _ rfl rfl)
    obtain ⟨to, e3, _⟩ := intCell (cs := [c28]) (by simpa [cI] using hg 3 _ _ rfl rfl)
    obtain ⟨c', M, e4, hr2, hd2⟩ := rowProcs (cs := [c29]) (by simpa [cR] using hg 4 _ _ rfl rfl)
    have e5 : [c0, c1, c2, c3, c4, c5, c6, c7, c8, c9, c10, c11, c12, c13, c14, c15, c16, c17, c18, c19, c20, c21, c22, c23, c24, c25, c26, c27, c28, c29] = c0 :: ([c1, c2, c3, c4, c5, c6, c7, c8, c9, c10, c11, c12, c13, c14, c15, c16, c17, c18, c19, c20, c21, c22, c23, c24, c25, c26] ++ [c27, c28, c29]) := rfl
    rw [e5, e1]
    simp only [List.cons.injEq, and_true] at e0 e2 e3 e4
    subst e0 e2 e3 e4
    exact ⟨_, _, L, M, x, pid, to, y0.1, y4.1, y1.1, y2.1, y3.1, rfl, rfl, hr, hr2, hd, hd2⟩
end
end Go.Proofs.Ythdpigdbkljiiaa
