/- Rows of events as arguments: opened. -/
import Derived.Test.YtajfcpehhhpgeaaTrG
import Derived.Test.YtajfcpehhhpgeaaSxR
import Derived.Test.YtajfcpehhhpgeaaFrameU
import Derived.OpenShut
namespace Go.Proofs.Ytajfcpehhhpgeaa
open Go.Sx Go.RowKit Go.ChangeShapes Go.WideShapes Go.ChangeAt Go.Joins Go.Deep
set_option linter.unusedVariables false
set_option linter.unusedSimpArgs false
section
variable {H : Type} {enc : TypeId × Value → H} {W : World} {r : Reach} {b0 base : Nat} {spare : Nat → Bool} {held : Bool}
theorem cI : Try.prog.cellsOf 3 = 1 := by kernel_rfl
theorem cU : Try.prog.cellsOf 23 = 1 := by kernel_rfl
theorem cV : Try.prog.cellsOf 24 = 1 := by kernel_rfl
theorem cE : Try.prog.cellsOf 40 = 4 := by kernel_rfl
theorem cR : Try.prog.cellsOf 22 = 1 := by kernel_rfl
theorem bytesE : Try.prog.bytesOf 40 = 24 := by kernel_rfl
theorem intCell {n : Nat} {cs : List Value} {y : DataW H × List MemPlace} (h : DataW.trod enc Try.prog W base spare held n 3 cs = some y) : ∃ a, cs = [.int .i64 a] := by
  obtain ⟨a, e, q, wf⟩ := DataW.trod_int Try.underlying3 h
  exact ⟨a, e⟩
theorem u64Cell {n : Nat} {cs : List Value} {y : DataW H × List MemPlace} (h : DataW.trod enc Try.prog W base spare held n 23 cs = some y) : ∃ a, cs = [.int .u64 a] ∧ 0 ≤ a ∧ a ≤ 18446744073709551615 := by
  obtain ⟨a, e, q, wf⟩ := DataW.trod_int Try.underlying23 h
  obtain ⟨b1, b2⟩ := u64_bounds wf
  exact ⟨a, e, b1, by omega⟩
theorem u32Cell {n : Nat} {cs : List Value} {y : DataW H × List MemPlace} (h : DataW.trod enc Try.prog W base spare held n 24 cs = some y) : ∃ a, cs = [.int .u32 a] ∧ 0 ≤ a ∧ a ≤ 4294967295 := by
  obtain ⟨a, e, q, wf⟩ := DataW.trod_int Try.underlying24 h
  obtain ⟨b1, b2⟩ := u32_bounds wf
  exact ⟨a, e, b1, by omega⟩
theorem eventCells {n : Nat} {cs : List Value} {y : DataW H × List MemPlace} (h : DataW.trod enc Try.prog W base spare held n 40 cs = some y) : ∃ x : E, cs = eG x ∧ okE x := by
  obtain ⟨ys, m, hc, hy, _, hg⟩ := open_subX Try.underlying40 h
  rw [cE] at hc
  match cs, hc, ys, hy with
  | [c0, c1, c2, c3], _, [y0, y1, y2, y3], _ =>
    obtain ⟨a, e0⟩ := intCell (cs := [c0]) (by simpa [cI] using hg 0 _ _ rfl rfl)
    obtain ⟨b, e1, _⟩ := u32Cell (cs := [c1]) (by simpa [cV] using hg 1 _ _ rfl rfl)
    obtain ⟨c, e2, c1, c2⟩ := u32Cell (cs := [c2]) (by simpa [cV] using hg 2 _ _ rfl rfl)
    obtain ⟨d, e3, d1, d2⟩ := u64Cell (cs := [c3]) (by simpa [cU] using hg 3 _ _ rfl rfl)
    simp only [List.cons.injEq, and_true] at e0 e1 e2 e3
    subst e0 e1 e2 e3
    exact ⟨⟨a, b, c, d⟩, rfl, ⟨c1, c2⟩, d1, d2⟩
theorem rowEvents {n : Nat} {cs : List Value} {y : DataW H × List MemPlace} (h : DataW.trod enc Try.prog W base spare held n 22 cs = some y) :
    ∃ (c : Value) (L : List E), cs = [c] ∧ (∀ W' ρ, RowOk W' ρ W c (rowE L)) ∧ (∀ x ∈ L, okE x) ∧ ((y.1 = .nil ∧ L.length = 0) ∨ ∃ els sp, y.1 = .slice els sp ∧ els.length = L.length) := by
  obtain ⟨c, L, hc, hr, hd⟩ := open_rowX eC eG eDen (fun x _ => okE x) e0 Try.underlying22 cE (fun _ => rfl) (by omega)
    (fun n cs y h => by obtain ⟨x, e, b⟩ := eventCells h; exact ⟨x, e, b⟩) h
  refine ⟨c, L, hc, hr, fun x hx => ?_, ?_⟩
  · rcases hd with ⟨_, rfl⟩ | ⟨els, sp, _, _, hg⟩
    · simp at hx
    · obtain ⟨i, hi, rfl⟩ := List.getElem_of_mem hx
      obtain ⟨d, _, hb⟩ := hg i L[i] (by simp [hi])
      exact hb
  · rcases hd with ⟨h1, rfl⟩ | ⟨els, sp, h1, h2, _⟩
    · exact .inl ⟨h1, rfl⟩
    · exact .inr ⟨els, sp, h1, h2⟩
theorem openRow {v : Value} {dd : DataW H} {p : List MemPlace} (hv : Value.okWide Try.prog W r b0 22 v) (h : DataW.Trod enc Try.prog W base spare held 22 v dd p) :
    ∃ (L : List E), (∀ W' ρ, RowOk W' ρ W v (rowE L)) ∧ (∀ x ∈ L, okE x) ∧ ((dd = .nil ∧ L.length = 0) ∨ ∃ els sp, dd = .slice els sp ∧ els.length = L.length) := by
  obtain ⟨fuel, hf⟩ := h
  obtain ⟨c, L, hc, hr, ho, hd⟩ := rowEvents hf
  obtain ⟨A', n', cap', rfl⟩ := okWide_slice Try.underlying22 hv
  have hc' : Value.slice A' n' cap' = c := by simpa [Value.cells] using hc
  subst hc'
  exact ⟨L, hr, ho, hd⟩
theorem openTells {v : Value} {dd : DataW H} {p : List MemPlace} (hv : Value.okWide Try.prog W r b0 26 v) (h : DataW.Trod enc Try.prog W base spare held 26 v dd p) :
    ∃ (c : Value) (L : List E) (pid t n : Int) (d e1 e2 e3 : DataW H), v = .agg #[c, .int .i64 pid, .int .u64 t, .int .u32 n] ∧ dd = .agg [d, e1, e2, e3] ∧ (∀ W' ρ, RowOk W' ρ W c (rowE L)) ∧ (∀ x ∈ L, okE x) ∧ ((d = .nil ∧ L.length = 0) ∨ ∃ els sp, d = .slice els sp ∧ els.length = L.length) := by
  obtain ⟨cs, ys, n, rfl, hc, hy, rfl, hg⟩ := open_structX Try.underlying26 hv h
  rw [show Try.prog.cellsOf 26 = 4 by kernel_rfl] at hc
  match cs, hc, ys, hy with
  | [c0, c1, c2, c3], _, [y0, y1, y2, y3], _ =>
    obtain ⟨c, L, e0, hr, ho, hd⟩ := rowEvents (cs := [c0]) (by simpa [cR] using hg 0 _ _ rfl rfl)
    obtain ⟨pid, e1⟩ := intCell (cs := [c1]) (by simpa [cI] using hg 1 _ _ rfl rfl)
    obtain ⟨t, e2, _⟩ := u64Cell (cs := [c2]) (by simpa [cU] using hg 2 _ _ rfl rfl)
    obtain ⟨m, e3, _⟩ := u32Cell (cs := [c3]) (by simpa [cV] using hg 3 _ _ rfl rfl)
    simp only [List.cons.injEq, and_true] at e0 e1 e2 e3
    subst e0 e1 e2 e3
    exact ⟨_, L, pid, t, m, y0.1, y1.1, y2.1, y3.1, rfl, rfl, hr, ho, hd⟩
theorem openJoins {v : Value} {dd : DataW H} {p : List MemPlace} (hv : Value.okWide Try.prog W r b0 37 v) (h : DataW.Trod enc Try.prog W base spare held 37 v dd p) :
    ∃ (c c2 : Value) (L M : List E) (pid n : Int) (d d2 e1 e2 : DataW H), v = .agg #[c, c2, .int .i64 pid, .int .u32 n] ∧ dd = .agg [d, d2, e1, e2] ∧ (∀ W' ρ, RowOk W' ρ W c (rowE L)) ∧ (∀ W' ρ, RowOk W' ρ W c2 (rowE M)) ∧ ((d = .nil ∧ L.length = 0) ∨ ∃ els sp, d = .slice els sp ∧ els.length = L.length) ∧ ((d2 = .nil ∧ M.length = 0) ∨ ∃ els sp, d2 = .slice els sp ∧ els.length = M.length) := by
  obtain ⟨cs, ys, n, rfl, hc, hy, rfl, hg⟩ := open_structX Try.underlying37 hv h
  rw [show Try.prog.cellsOf 37 = 4 by kernel_rfl] at hc
  match cs, hc, ys, hy with
  | [c0, c1, c2, c3], _, [y0, y1, y2, y3], _ =>
    obtain ⟨c, L, e0, hr, ho, hd⟩ := rowEvents (cs := [c0]) (by simpa [cR] using hg 0 _ _ rfl rfl)
    obtain ⟨c', M, e1, hr2, ho2, hd2⟩ := rowEvents (cs := [c1]) (by simpa [cR] using hg 1 _ _ rfl rfl)
    obtain ⟨pid, e2⟩ := intCell (cs := [c2]) (by simpa [cI] using hg 2 _ _ rfl rfl)
    obtain ⟨m, e3, _⟩ := u32Cell (cs := [c3]) (by simpa [cV] using hg 3 _ _ rfl rfl)
    simp only [List.cons.injEq, and_true] at e0 e1 e2 e3
    subst e0 e1 e2 e3
    exact ⟨_, _, L, M, pid, m, y0.1, y1.1, y2.1, y3.1, rfl, rfl, hr, hr2, hd, hd2⟩
theorem sizeEvents {ts : List TypeId} {ds : List (DataW H)} {j : Nat} {dr : DataW H} {L : List E} (h : (DataW.weightsEach Try.prog ts ds).all (· ≤ reachBytes) = true) (ht : ts[j]? = some 22) (hd : ds[j]? = some dr)
    (hdr : (dr = .nil ∧ L.length = 0) ∨ ∃ els sp, dr = .slice els sp ∧ els.length = L.length) : L.length ≤ 5864062014640 := by
  have := sized_rowX h ht hd Try.underlying22 bytesE hdr
  omega
end
end Go.Proofs.Ytajfcpehhhpgeaa
