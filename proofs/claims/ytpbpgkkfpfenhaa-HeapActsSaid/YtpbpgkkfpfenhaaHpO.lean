/- Heaps as arguments: opened. -/
import Derived.Test.YtpbpgkkfpfenhaaHpF
import Derived.Test.YtpbpgkkfpfenhaaSxR
import Derived.Test.YtpbpgkkfpfenhaaFrameU
namespace Go.Proofs.Ytpbpgkkfpfenhaa
open Go.Sx Go.RowKit Go.ChangeShapes Go.WideShapes Go.ChangeAt Go.Joins Go.Deep
set_option linter.unusedVariables false
set_option linter.unusedSimpArgs false
section
variable {H : Type} {enc : TypeId × Value → H} {W : World} {r : Reach} {b0 base : Nat} {spare : Nat → Bool} {held : Bool}
theorem intCell {n : Nat} {cs : List Value} {y : DataW H × List MemPlace} (h : DataW.trod enc Try.prog W base spare held n 3 cs = some y) : ∃ a, cs = [.int .i64 a] ∧ y.1 = .lit (.int .i64 a) ∧ -9223372036854775808 ≤ a ∧ a ≤ 9223372036854775807 := by
  obtain ⟨a, e, q, wf⟩ := DataW.trod_int Try.underlying3 h
  obtain ⟨b1, b2⟩ := i64_bounds wf
  exact ⟨a, e, by rw [q], b1, b2⟩
theorem spanCells {n : Nat} {cs : List Value} {y : DataW H × List MemPlace} (h : DataW.trod enc Try.prog W base spare held n 45 cs = some y) :
    ∃ x : E, cs = eG x := by
  obtain ⟨ys, m, hc, hy, hy1, hg⟩ := open_subX Try.underlying45 h
  rw [show Try.prog.cellsOf 45 = 3 by kernel_rfl] at hc
  match cs, hc, ys, hy with
  | [c0, c1, c2], _, [y0, y1, y2], _ =>
    obtain ⟨a, e0, q0, b0⟩ := intCell (cs := [c0]) (by simpa [show Try.prog.cellsOf 3 = 1 by kernel_rfl] using hg 0 _ _ rfl rfl)
    obtain ⟨b, e1, q1, b1⟩ := intCell (cs := [c1]) (by simpa [show Try.prog.cellsOf 3 = 1 by kernel_rfl] using hg 1 _ _ rfl rfl)
    obtain ⟨c, e2, q2, b2⟩ := intCell (cs := [c2]) (by simpa [show Try.prog.cellsOf 3 = 1 by kernel_rfl] using hg 2 _ _ rfl rfl)
    simp at e0 e1 e2
    subst e0 e1 e2
    exact ⟨(a, b, c), rfl⟩
theorem rowSpans {n : Nat} {cs : List Value} {y : DataW H × List MemPlace} (h : DataW.trod enc Try.prog W base spare held n 22 cs = some y) :
    ∃ (c : Value) (L : List E), cs = [c] ∧ (∀ W' ρ, RowOk W' ρ W c (rowE L)) ∧ ((y.1 = .nil ∧ L.length = 0) ∨ ∃ els sp, y.1 = .slice els sp ∧ els.length = L.length) := by
  obtain ⟨c, L, hc, hr, hd⟩ := open_rowX eC eG eDen (fun x _ => True) e0 Try.underlying22 (by kernel_rfl : Try.prog.cellsOf 45 = 3) (fun _ => rfl) (by omega)
    (fun n cs y h => by obtain ⟨x, e⟩ := spanCells h; exact ⟨x, e, trivial⟩) h
  refine ⟨c, L, hc, hr, ?_⟩
  rcases hd with ⟨h1, rfl⟩ | ⟨els, sp, h1, h2, _⟩
  · exact .inl ⟨h1, rfl⟩
  · exact .inr ⟨els, sp, h1, h2⟩
theorem sizeSpans {ts : List TypeId} {ds : List (DataW H)} {j : Nat} {dr : DataW H} {L : List E} (h : (DataW.weightsEach Try.prog ts ds).all (· ≤ reachBytes) = true) (ht : ts[j]? = some 22) (hd : ds[j]? = some dr)
    (hdr : (dr = .nil ∧ L.length = 0) ∨ ∃ els sp, dr = .slice els sp ∧ els.length = L.length) : L.length ≤ 5864062014634 := by
  have := sized_rowX h ht hd Try.underlying22 (show Try.prog.bytesOf 45 = 24 by kernel_rfl) hdr
  omega
theorem openHeap {v : Value} {dd : DataW H} {p : List MemPlace} (hv : Value.okWide Try.prog W r b0 24 v) (h : DataW.Trod enc Try.prog W base spare held 24 v dd p) :
    ∃ (sz : Int) (c : Value) (L : List E) (d0 d : DataW H), v = .agg #[.int .i64 sz, c] ∧ dd = .agg [d0, d] ∧ (∀ W' ρ, RowOk W' ρ W c (rowE L)) ∧ sz ≤ 9223372036854775807 ∧ ((d = .nil ∧ L.length = 0) ∨ ∃ els sp, d = .slice els sp ∧ els.length = L.length) := by
  obtain ⟨cs, ys, n, rfl, hc, hy, rfl, hg⟩ := open_structX Try.underlying24 hv h
  rw [show Try.prog.cellsOf 24 = 2 by kernel_rfl] at hc
  match cs, hc, ys, hy with
  | [c0, c1], _, [y0, y1], _ =>
    obtain ⟨sz, e0, q0, _, b0⟩ := intCell (cs := [c0]) (by simpa [show Try.prog.cellsOf 3 = 1 by kernel_rfl] using hg 0 _ _ rfl rfl)
    obtain ⟨c, L, e1, hr, hd⟩ := rowSpans (cs := [c1]) (by simpa [show Try.prog.cellsOf 22 = 1 by kernel_rfl] using hg 1 _ _ rfl rfl)
    simp at e0 e1
    subst e0 e1
    exact ⟨_, _, L, y0.1, y1.1, rfl, rfl, hr, b0, hd⟩
theorem szHeap {ts : List TypeId} {ds : List (DataW H)} {j : Nat} {d0 d : DataW H} {L : List E} (h : (DataW.weightsEach Try.prog ts ds).all (· ≤ reachBytes) = true) (ht : ts[j]? = some 24) (hd : ds[j]? = some (.agg [d0, d]))
    (hdr : (d = .nil ∧ L.length = 0) ∨ ∃ els sp, d = .slice els sp ∧ els.length = L.length) : L.length ≤ 5864062014634 :=
  sizeSpans (Go.Sx.sized_aggX h ht hd Try.underlying24) (j := 1) rfl rfl hdr
end
end Go.Proofs.Ytpbpgkkfpfenhaa
