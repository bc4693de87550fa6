/- Ends, and a process's ends, as arguments: opened; PipeSets, walked. -/
import Derived.Test.YtlhjlomfpgmdmaaPipF
import Derived.Test.YtlhjlomfpgmdmaaAggs
namespace Go.Proofs.Ytlhjlomfpgmdmaa
open Go.ChangeShapes Go.WideShapes Go.ChangeAt Go.RowKit Go.Joins Go.Deep
set_option linter.unusedVariables false

theorem openEnd {H : Type} {enc : TypeId × Value → H} {W : World} {r : Reach} {b0 base : Nat} {spare : Nat → Bool} {held : Bool} {v : Value} {dd : DataW H} {p : List MemPlace}
    (hv : Value.okWide Try.prog W r b0 38 v) (h : DataW.Trod enc Try.prog W base spare held 38 v dd p) :
    ∃ (q : Int) (b : Bool), v = endV q b ∧ dd = .agg [.lit (.int .i64 q), .lit (.bool b)] ∧ (-9223372036854775808 ≤ q ∧ q ≤ 9223372036854775807) := by
  obtain ⟨c0, c1, y0, y1, n, rfl, rfl, rfl, hy0, hy1⟩ := open_agg2 Try.underlying38 (by kernel_rfl) (by kernel_rfl) hv h
  obtain ⟨a, e0, rfl, w0⟩ := DataW.trod_int Try.underlying3 hy0
  obtain ⟨b, e1, rfl⟩ := DataW.trod_bool Try.underlying4 hy1
  simp at e0 e1
  subst e0 e1
  exact ⟨a, b, rfl, rfl, i64_bounds w0⟩

theorem endCells {H : Type} {enc : TypeId × Value → H} {W : World} {base n : Nat} {spare : Nat → Bool} {held : Bool} {x : DataW H × List MemPlace} {c0 c1 : Value} (h : DataW.trod enc Try.prog W base spare held n 38 [c0, c1] = some x) :
    ∃ (q : Int) (b : Bool), c0 = .int .i64 q ∧ c1 = .bool b ∧ x.1 = .agg [.lit (.int .i64 q), .lit (.bool b)] := by
  obtain ⟨y0, y1, m, hx, _, h0, h1⟩ := trod_struct2 Try.underlying38 h
  have g0 : DataW.trod enc Try.prog W base spare held m 3 [c0] = some y0 := by simpa [show Try.prog.cellsOf 3 = 1 by kernel_rfl] using h0
  have g1 : DataW.trod enc Try.prog W base spare held m 4 [c1] = some y1 := by simpa [show Try.prog.cellsOf 4 = 1 by kernel_rfl] using h1
  obtain ⟨a, e0, q0, w0⟩ := DataW.trod_int Try.underlying3 g0
  obtain ⟨b, e1, q1⟩ := DataW.trod_bool Try.underlying4 g1
  simp at e0 e1
  refine ⟨a, b, e0, e1, ?_⟩
  rw [hx, q0, q1]

theorem openFds {H : Type} {enc : TypeId × Value → H} {W : World} {r : Reach} {b0 base : Nat} {spare : Nat → Bool} {held : Bool} {v : Value} {dd : DataW H} {p : List MemPlace}
    (hv : Value.okWide Try.prog W r b0 39 v) (h : DataW.Trod enc Try.prog W base spare held 39 v dd p) :
    ∃ (p0 : Int) (b0 : Bool) (p1 : Int) (b1 : Bool) (p2 : Int) (b2 : Bool) (p3 : Int) (b3 : Bool), v = fdsV p0 b0 p1 b1 p2 b2 p3 b3 := by
  simp only [Value.okWide, Try.underlying39] at hv
  obtain ⟨cs, rfl, hsz, _⟩ := hv
  obtain ⟨l⟩ := cs
  obtain ⟨fuel, hf⟩ := h
  obtain ⟨xs, m, _, hx, hlen, hxl, hall⟩ := DataW.trod_array Try.underlying39 hf
  have hl : l.length = 8 := by rw [show Try.prog.cellsOf 39 = 8 by kernel_rfl] at hsz; simpa using hsz
  have hf' : (Value.agg l.toArray).cells.toList = l := by simp [Value.cells]
  rw [hf', cellsEnd] at hall
  match l, hl, xs, hxl with
  | [c0, c1, c2, c3, c4, c5, c6, c7], _, [x0, x1, x2, x3], _ =>
    obtain ⟨p0, b0, rfl, rfl, _⟩ := endCells (hall 0 (by omega))
    obtain ⟨p1, b1, rfl, rfl, _⟩ := endCells (hall 1 (by omega))
    obtain ⟨p2, b2, rfl, rfl, _⟩ := endCells (hall 2 (by omega))
    obtain ⟨p3, b3, rfl, rfl, _⟩ := endCells (hall 3 (by omega))
    exact ⟨p0, b0, p1, b1, p2, b2, p3, b3, rfl⟩

theorem sets_walk (p0 : Int) (b0 : Bool) (p1 : Int) (b1 : Bool) (p2 : Int) (b2 : Bool) (p3 : Int) (b3 : Bool) (p : Int) (b : Bool) (w : World) :
    Calls Try.prog 10 #[fdsV p0 b0 p1 b1 p2 b2 p3 b3, endV p b] w fun e w' => e = .returned (.bool true) ∧ Below w.heap.size w w' := by
  by_cases h0 : p0 = 0
  · subst h0
    exact sets_0 b0 p1 b1 p2 b2 p3 b3 p b w
  by_cases h1 : p1 = 0
  · subst h1
    exact sets_1 p0 b0 b1 p2 b2 p3 b3 p b w (by simpa using h0)
  by_cases h2 : p2 = 0
  · subst h2
    exact sets_2 p0 b0 p1 b1 b2 p3 b3 p b w (by simpa using h0) (by simpa using h1)
  by_cases h3 : p3 = 0
  · subst h3
    exact sets_3 p0 b0 p1 b1 p2 b2 b3 p b w (by simpa using h0) (by simpa using h1) (by simpa using h2)
  exact sets_4 p0 b0 p1 b1 p2 b2 p3 b3 p b w (by simpa using h0) (by simpa using h1) (by simpa using h2) (by simpa using h3)
end Go.Proofs.Ytlhjlomfpgmdmaa
