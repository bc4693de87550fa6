/- Pipes, an end and places for ends as one argument: opened. -/
import Derived.Test.YtlhjlomfpgmdmaaPxQ
import Derived.Test.YtlhjlomfpgmdmaaSxR
import Derived.OpenShut
namespace Go.Proofs.Ytlhjlomfpgmdmaa
open Go.Sx Go.RowKit Go.ChangeShapes Go.WideShapes Go.ChangeAt Go.Joins Go.Deep
set_option linter.unusedVariables false
set_option linter.unusedSimpArgs false
section
variable {H : Type} {enc : TypeId × Value → H} {W : World} {r : Reach} {b0 base : Nat} {spare : Nat → Bool} {held : Bool}
theorem cI : Try.prog.cellsOf 3 = 1 := by kernel_rfl
theorem cB : Try.prog.cellsOf 4 = 1 := by kernel_rfl
theorem cE : Try.prog.cellsOf 38 = 2 := by kernel_rfl
theorem cR : Try.prog.cellsOf 36 = 1 := by kernel_rfl
theorem cA4 : Try.prog.cellsOf 39 = 8 := by kernel_rfl
theorem boolCell {n : Nat} {cs : List Value} {y : DataW H × List MemPlace} (h : DataW.trod enc Try.prog W base spare held n 4 cs = some y) : ∃ b : Bool, cs = [.bool b] := by
  obtain ⟨b, e, _⟩ := DataW.trod_bool Try.underlying4 h
  exact ⟨b, e⟩
theorem endCells {n : Nat} {cs : List Value} {y : DataW H × List MemPlace} (h : DataW.trod enc Try.prog W base spare held n 38 cs = some y) : ∃ (p : Int) (w : Bool), cs = [.int .i64 p, .bool w] ∧ -9223372036854775808 ≤ p := by
  obtain ⟨ys, m, hc, hy, _, hg⟩ := open_subX Try.underlying38 h
  rw [cE] at hc
  match cs, hc, ys, hy with
  | [c0, c1], _, [y0, y1], _ =>
    obtain ⟨a, e0, _, b0, _⟩ := intCell (cs := [c0]) (by simpa [cI] using hg 0 _ _ rfl rfl)
    obtain ⟨b, e1⟩ := boolCell (cs := [c1]) (by simpa [cB] using hg 1 _ _ rfl rfl)
    simp only [List.cons.injEq, and_true] at e0 e1
    subst e0 e1
    exact ⟨a, b, rfl, b0⟩
theorem fdsCells {n : Nat} {cs : List Value} {y : DataW H × List MemPlace} (h : DataW.trod enc Try.prog W base spare held n 39 cs = some y) : ∃ (p0 : Int) (w0 : Bool) (p1 : Int) (w1 : Bool) (p2 : Int) (w2 : Bool) (p3 : Int) (w3 : Bool), cs = [.int .i64 p0, .bool w0, .int .i64 p1, .bool w1, .int .i64 p2, .bool w2, .int .i64 p3, .bool w3] := by
  obtain ⟨ys, m, _, _, hc, hy, hg⟩ := DataW.trod_array Try.underlying39 h
  rw [cA4] at hc
  match cs, hc, ys, hy with
  | [c0, c1, c2, c3, c4, c5, c6, c7], _, [y0, y1, y2, y3], _ =>
    obtain ⟨p0, w0, e0, _⟩ := endCells (cs := [c0, c1]) (y := y0) (by simpa [cE] using hg 0 (by decide))
    obtain ⟨p1, w1, e1, _⟩ := endCells (cs := [c2, c3]) (y := y1) (by simpa [cE] using hg 1 (by decide))
    obtain ⟨p2, w2, e2, _⟩ := endCells (cs := [c4, c5]) (y := y2) (by simpa [cE] using hg 2 (by decide))
    obtain ⟨p3, w3, e3, _⟩ := endCells (cs := [c6, c7]) (y := y3) (by simpa [cE] using hg 3 (by decide))
    simp at e0 e1 e2 e3
    obtain ⟨rfl, rfl⟩ := e0
    obtain ⟨rfl, rfl⟩ := e1
    obtain ⟨rfl, rfl⟩ := e2
    obtain ⟨rfl, rfl⟩ := e3
    exact ⟨p0, w0, p1, w1, p2, w2, p3, w3, rfl⟩
theorem rowPipes {n : Nat} {cs : List Value} {y : DataW H × List MemPlace} (h : DataW.trod enc Try.prog W base spare held n 36 cs = some y) :
    ∃ (c : Value) (L : List PP), cs = [c] ∧ (∀ W' ρ, RowOk W' ρ W c (rowP L)) ∧ ((y.1 = .nil ∧ L.length = 0) ∨ ∃ els sp, y.1 = .slice els sp ∧ els.length = L.length) := by
  obtain ⟨c, L, hc, hr, hd⟩ := open_rowX ppC (fun x : PP => [.string x.1, .int .i64 x.2.1, .int .i64 x.2.2]) (fun _ _ => rfl) (fun x _ => True) pp0 Try.underlying36 (by kernel_rfl : Try.prog.cellsOf 23 = 3) (fun _ => rfl) (by omega)
    (fun n cs y h => by obtain ⟨x, e, b⟩ := pipeCells h; exact ⟨x, e, trivial⟩) h
  refine ⟨c, L, hc, hr, ?_⟩
  rcases hd with ⟨h1, rfl⟩ | ⟨els, sp, h1, h2, _⟩
  · exact .inl ⟨h1, rfl⟩
  · exact .inr ⟨els, sp, h1, h2⟩
theorem openRows {v : Value} {dd : DataW H} {p : List MemPlace} (hv : Value.okWide Try.prog W r b0 41 v) (h : DataW.Trod enc Try.prog W base spare held 41 v dd p) :
    ∃ (c : Value) (L : List PP) (p y p0 p1 p2 p3 : Int) (b w0 w1 w2 w3 : Bool) (d e1 e2 e3 : DataW H), v = .agg #[c, .int .i64 p, .bool b, .int .i64 y, .int .i64 p0, .bool w0, .int .i64 p1, .bool w1, .int .i64 p2, .bool w2, .int .i64 p3, .bool w3] ∧ dd = .agg [d, e1, e2, e3] ∧ (∀ W' ρ, RowOk W' ρ W c (rowP L)) ∧ -9223372036854775808 ≤ p ∧ ((d = .nil ∧ L.length = 0) ∨ ∃ els sp, d = .slice els sp ∧ els.length = L.length) := by
  obtain ⟨cs, ys, n, rfl, hc, hy, rfl, hg⟩ := open_structX Try.underlying41 hv h
  rw [show Try.prog.cellsOf 41 = 12 by kernel_rfl] at hc
  match cs, hc, ys, hy with
  | [c0, c1, c2, c3, c4, c5, c6, c7, c8, c9, c10, c11], _, [y0, y1, y2, y3], _ =>
    obtain ⟨c, L, e0, hr, hd⟩ := rowPipes (cs := [c0]) (by simpa [cR] using hg 0 _ _ rfl rfl)
    obtain ⟨p, b, e1, hp⟩ := endCells (cs := [c1, c2]) (by simpa [cE] using hg 1 _ _ rfl rfl)
    obtain ⟨y, e2, _⟩ := intCell (cs := [c3]) (by simpa [cI] using hg 2 _ _ rfl rfl)
    obtain ⟨p0, w0, p1, w1, p2, w2, p3, w3, e3⟩ := fdsCells (cs := [c4, c5, c6, c7, c8, c9, c10, c11]) (by simpa [cA4] using hg 3 _ _ rfl rfl)
    simp only [List.cons.injEq, and_true] at e0 e1 e2 e3
    obtain ⟨rfl, rfl⟩ := e1
    obtain ⟨rfl, rfl, rfl, rfl, rfl, rfl, rfl, rfl⟩ := e3
    subst e0 e2
    exact ⟨_, L, p, y, p0, p1, p2, p3, b, w0, w1, w2, w3, y0.1, y1.1, y2.1, y3.1, rfl, rfl, hr, hp, hd⟩
end
end Go.Proofs.Ytlhjlomfpgmdmaa
