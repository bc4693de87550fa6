/- Rows of pipes as arguments: opened. -/
import Derived.Test.YtlhjlomfpgmdmaaPxA
import Derived.Test.YtlhjlomfpgmdmaaFrameU
namespace Go.Proofs.Ytlhjlomfpgmdmaa
open Go.Sx Go.RowKit Go.ChangeShapes Go.WideShapes Go.ChangeAt Go.Joins Go.Deep
set_option linter.unusedVariables false
section
variable {H : Type} {enc : TypeId × Value → H} {W : World} {r : Reach} {b0 base : Nat} {spare : Nat → Bool} {held : Bool}
theorem intCell {n : Nat} {cs : List Value} {y : DataW H × List MemPlace} (h : DataW.trod enc Try.prog W base spare held n 3 cs = some y) : ∃ a, cs = [.int .i64 a] ∧ y.1 = .lit (.int .i64 a) ∧ -9223372036854775808 ≤ a ∧ a ≤ 9223372036854775807 := by
  obtain ⟨a, e, q, wf⟩ := DataW.trod_int Try.underlying3 h
  obtain ⟨b1, b2⟩ := i64_bounds wf
  exact ⟨a, e, by rw [q], b1, b2⟩
theorem strCell {n : Nat} {cs : List Value} {y : DataW H × List MemPlace} (h : DataW.trod enc Try.prog W base spare held n 9 cs = some y) : ∃ s : ByteArray, cs = [.string s] ∧ y.1 = .lit (.string s.data.toList) := by
  obtain ⟨s, e, q, _⟩ := DataW.trod_string Try.underlying9 h
  exact ⟨s, e, by rw [q]⟩
theorem pipeCells {n : Nat} {cs : List Value} {y : DataW H × List MemPlace} (h : DataW.trod enc Try.prog W base spare held n 23 cs = some y) :
    ∃ x : PP, cs = [.string x.1, .int .i64 x.2.1, .int .i64 x.2.2] ∧ ((-9223372036854775808 ≤ x.2.1 ∧ x.2.1 ≤ 9223372036854775807) ∧ -9223372036854775808 ≤ x.2.2 ∧ x.2.2 ≤ 9223372036854775807) := by
  obtain ⟨ys, m, hc, hy, _, hg⟩ := open_subX Try.underlying23 h
  rw [show Try.prog.cellsOf 23 = 3 by kernel_rfl] at hc
  match cs, hc, ys, hy with
  | [c0, c1, c2], _, [y0, y1, y2], _ =>
    obtain ⟨s, e0, _⟩ := strCell (cs := [c0]) (by simpa [show Try.prog.cellsOf 9 = 1 by kernel_rfl] using hg 0 _ _ rfl rfl)
    obtain ⟨a, e1, _, b1⟩ := intCell (cs := [c1]) (by simpa [show Try.prog.cellsOf 3 = 1 by kernel_rfl] using hg 1 _ _ rfl rfl)
    obtain ⟨b, e2, _, b2⟩ := intCell (cs := [c2]) (by simpa [show Try.prog.cellsOf 3 = 1 by kernel_rfl] using hg 2 _ _ rfl rfl)
    simp at e0 e1 e2
    subst e0 e1 e2
    exact ⟨(s, a, b), rfl, b1, b2⟩
theorem openPipes {v : Value} {dd : DataW H} {p : List MemPlace} (hv : Value.okWide Try.prog W r b0 36 v) (h : DataW.Trod enc Try.prog W base spare held 36 v dd p) :
    ∃ (L : List PP), (∀ W' ρ, RowOk W' ρ W v (rowP L)) ∧ (∀ i, i < L.length → InB (L.getD i pp0)) ∧ ((dd = .nil ∧ L.length = 0) ∨ ∃ els sp, dd = .slice els sp ∧ els.length = L.length) := by
  obtain ⟨fuel, hf⟩ := h
  obtain ⟨c, L, hc, hr, hd⟩ := open_rowX ppC (fun x : PP => [.string x.1, .int .i64 x.2.1, .int .i64 x.2.2]) (fun _ _ => rfl) (fun x _ => InB x) pp0 Try.underlying36 (by kernel_rfl : Try.prog.cellsOf 23 = 3) (fun _ => rfl) (by omega)
    (fun n cs y h => by obtain ⟨x, e, b⟩ := pipeCells h; exact ⟨x, e, b⟩) hf
  obtain ⟨A', n', cap', rfl⟩ := okWide_slice Try.underlying36 hv
  have hc' : Value.slice A' n' cap' = c := by simpa [Value.cells] using hc
  subst hc'
  refine ⟨L, hr, fun i hi => ?_, ?_⟩
  · rcases hd with ⟨_, rfl⟩ | ⟨els, sp, _, _, hg⟩
    · simp at hi
    · obtain ⟨d, _, hb⟩ := hg i (L.getD i pp0) (by simp [List.getD_eq_getElem?_getD, hi])
      exact hb
  · rcases hd with ⟨h1, rfl⟩ | ⟨els, sp, h1, h2, _⟩
    · exact .inl ⟨h1, rfl⟩
    · exact .inr ⟨els, sp, h1, h2⟩
theorem sizePipes {ts : List TypeId} {ds : List (DataW H)} {j : Nat} {dr : DataW H} {L : List PP} (h : (DataW.weightsEach Try.prog ts ds).all (· ≤ reachBytes) = true) (ht : ts[j]? = some 36) (hd : ds[j]? = some dr)
    (hdr : (dr = .nil ∧ L.length = 0) ∨ ∃ els sp, dr = .slice els sp ∧ els.length = L.length) : L.length ≤ 4398046510976 := by
  have := sized_rowX h ht hd Try.underlying36 (show Try.prog.bytesOf 23 = 32 by kernel_rfl) hdr
  omega
end
end Go.Proofs.Ytlhjlomfpgmdmaa
