/- Boxes and rows of acts as arguments: opened. -/
import Derived.Test.YtecpnblhhjndgaaPyG
import Derived.Test.YtecpnblhhjndgaaSxR
import Derived.Test.YtecpnblhhjndgaaFrameU
import Derived.OpenShut
namespace Go.Proofs.Ytecpnblhhjndgaa
open Go.Sx Go.RowKit Go.ChangeShapes Go.WideShapes Go.ChangeAt Go.Joins Go.Deep
set_option linter.unusedVariables false
set_option linter.unusedSimpArgs false
section
variable {H : Type} {enc : TypeId × Value → H} {W : World} {r : Reach} {b0 base : Nat} {spare : Nat → Bool} {held : Bool}
theorem cI : Try.prog.cellsOf 3 = 1 := by kernel_rfl
theorem cU : Try.prog.cellsOf 27 = 1 := by kernel_rfl
theorem cS : Try.prog.cellsOf 9 = 1 := by kernel_rfl
theorem cB : Try.prog.cellsOf 4 = 1 := by kernel_rfl
theorem cM : Try.prog.cellsOf 37 = 2 := by kernel_rfl
theorem cR : Try.prog.cellsOf 24 = 1 := by kernel_rfl
theorem cX : Try.prog.cellsOf 26 = 2 := by kernel_rfl
theorem cC : Try.prog.cellsOf 23 = 5 := by kernel_rfl
theorem cA : Try.prog.cellsOf 52 = 3 := by kernel_rfl
theorem bytesM : Try.prog.bytesOf 37 = 24 := by kernel_rfl
theorem bytesA : Try.prog.bytesOf 52 = 32 := by kernel_rfl
theorem mmDen (ρ : Env) (x : MM) : dens ρ (mmC x) = some [.int .u64 x.1, .string x.2] := rfl
theorem aaDen (ρ : Env) (x : AA) : dens ρ (aaC x) = some [.bool x.1, .int .u64 x.2.1, .string x.2.2] := rfl
theorem intCell {n : Nat} {cs : List Value} {y : DataW H × List MemPlace} (h : DataW.trod enc Try.prog W base spare held n 3 cs = some y) : ∃ a, cs = [.int .i64 a] := by
  obtain ⟨a, e, q, wf⟩ := DataW.trod_int Try.underlying3 h
  exact ⟨a, e⟩
theorem u64Cell {n : Nat} {cs : List Value} {y : DataW H × List MemPlace} (h : DataW.trod enc Try.prog W base spare held n 27 cs = some y) : ∃ a, cs = [.int .u64 a] := by
  obtain ⟨a, e, q, wf⟩ := DataW.trod_int Try.underlying27 h
  exact ⟨a, e⟩
theorem strCell {n : Nat} {cs : List Value} {y : DataW H × List MemPlace} (h : DataW.trod enc Try.prog W base spare held n 9 cs = some y) : ∃ s : ByteArray, cs = [.string s] := by
  obtain ⟨s, e, q, _⟩ := DataW.trod_string Try.underlying9 h
  exact ⟨s, e⟩
theorem boolCell {n : Nat} {cs : List Value} {y : DataW H × List MemPlace} (h : DataW.trod enc Try.prog W base spare held n 4 cs = some y) : ∃ b : Bool, cs = [.bool b] := by
  obtain ⟨b, e, _⟩ := DataW.trod_bool Try.underlying4 h
  exact ⟨b, e⟩
theorem msgCells {n : Nat} {cs : List Value} {y : DataW H × List MemPlace} (h : DataW.trod enc Try.prog W base spare held n 37 cs = some y) : ∃ x : MM, cs = [.int .u64 x.1, .string x.2] := by
  obtain ⟨ys, m, hc, hy, _, hg⟩ := open_subX Try.underlying37 h
  rw [cM] at hc
  match cs, hc, ys, hy with
  | [c0, c1], _, [y0, y1], _ =>
    obtain ⟨a, e0⟩ := u64Cell (cs := [c0]) (by simpa [cU] using hg 0 _ _ rfl rfl)
    obtain ⟨b, e1⟩ := strCell (cs := [c1]) (by simpa [cS] using hg 1 _ _ rfl rfl)
    simp only [List.cons.injEq, and_true] at e0 e1
    subst e0 e1
    exact ⟨(a, b), rfl⟩
theorem actCells {n : Nat} {cs : List Value} {y : DataW H × List MemPlace} (h : DataW.trod enc Try.prog W base spare held n 52 cs = some y) : ∃ x : AA, cs = [.bool x.1, .int .u64 x.2.1, .string x.2.2] := by
  obtain ⟨ys, m, hc, hy, _, hg⟩ := open_subX Try.underlying52 h
  rw [cA] at hc
  match cs, hc, ys, hy with
  | [c0, c1, c2], _, [y0, y1, y2], _ =>
    obtain ⟨a, e0⟩ := boolCell (cs := [c0]) (by simpa [cB] using hg 0 _ _ rfl rfl)
    obtain ⟨b, e1⟩ := u64Cell (cs := [c1]) (by simpa [cU] using hg 1 _ _ rfl rfl)
    obtain ⟨c, e2⟩ := strCell (cs := [c2]) (by simpa [cS] using hg 2 _ _ rfl rfl)
    simp only [List.cons.injEq, and_true] at e0 e1 e2
    subst e0 e1 e2
    exact ⟨(a, b, c), rfl⟩
theorem rowMsgs {n : Nat} {cs : List Value} {y : DataW H × List MemPlace} (h : DataW.trod enc Try.prog W base spare held n 24 cs = some y) :
    ∃ (c : Value) (L : List MM), cs = [c] ∧ (∀ W' ρ, RowOk W' ρ W c (rowM L)) ∧ ((y.1 = .nil ∧ L.length = 0) ∨ ∃ els sp, y.1 = .slice els sp ∧ els.length = L.length) := by
  obtain ⟨c, L, hc, hr, hd⟩ := open_rowX mmC (fun x => [.int .u64 x.1, .string x.2]) mmDen (fun x _ => True) mm0 Try.underlying24 cM (fun _ => rfl) (by omega)
    (fun n cs y h => by obtain ⟨x, e⟩ := msgCells h; exact ⟨x, e, trivial⟩) h
  refine ⟨c, L, hc, hr, ?_⟩
  rcases hd with ⟨h1, rfl⟩ | ⟨els, sp, h1, h2, _⟩
  · exact .inl ⟨h1, rfl⟩
  · exact .inr ⟨els, sp, h1, h2⟩
theorem boxCells {n : Nat} {cs : List Value} {y : DataW H × List MemPlace} (h : DataW.trod enc Try.prog W base spare held n 26 cs = some y) :
    ∃ (c : Value) (L : List MM) (l : Int) (d0 d1 : DataW H), cs = [c, .int .i64 l] ∧ y.1 = .agg [d0, d1] ∧ (∀ W' ρ, RowOk W' ρ W c (rowM L)) ∧ ((d0 = .nil ∧ L.length = 0) ∨ ∃ els sp, d0 = .slice els sp ∧ els.length = L.length) := by
  obtain ⟨ys, m, hc, hy, hy1, hg⟩ := open_subX Try.underlying26 h
  rw [cX] at hc
  match cs, hc, ys, hy with
  | [c0, c1], _, [y0, y1], _ =>
    obtain ⟨c, L, e0, hr, hd⟩ := rowMsgs (cs := [c0]) (by simpa [cR] using hg 0 _ _ rfl rfl)
    obtain ⟨l, e1⟩ := intCell (cs := [c1]) (by simpa [cI] using hg 1 _ _ rfl rfl)
    simp only [List.cons.injEq, and_true] at e0 e1
    subst e0 e1
    exact ⟨_, L, l, y0.1, y1.1, rfl, hy1, hr, hd⟩
theorem chanCells {n : Nat} {cs : List Value} {y : DataW H × List MemPlace} (h : DataW.trod enc Try.prog W base spare held n 23 cs = some y) :
    ∃ (k f t s d : Int), cs = [.int .i64 k, .int .i64 f, .int .i64 t, .int .i64 s, .int .i64 d] := by
  obtain ⟨ys, m, hc, hy, _, hg⟩ := open_subX Try.underlying23 h
  rw [cC] at hc
  match cs, hc, ys, hy with
  | [c0, c1, c2, c3, c4], _, [y0, y1, y2, y3, y4], _ =>
    obtain ⟨k, e0⟩ := intCell (cs := [c0]) (by simpa [cI] using hg 0 _ _ rfl rfl)
    obtain ⟨f, e1⟩ := intCell (cs := [c1]) (by simpa [cI] using hg 1 _ _ rfl rfl)
    obtain ⟨t, e2⟩ := intCell (cs := [c2]) (by simpa [cI] using hg 2 _ _ rfl rfl)
    obtain ⟨s, e3⟩ := intCell (cs := [c3]) (by simpa [cI] using hg 3 _ _ rfl rfl)
    obtain ⟨d, e4⟩ := intCell (cs := [c4]) (by simpa [cI] using hg 4 _ _ rfl rfl)
    simp only [List.cons.injEq, and_true] at e0 e1 e2 e3 e4
    subst e0 e1 e2 e3 e4
    exact ⟨k, f, t, s, d, rfl⟩
theorem openActs {v : Value} {dd : DataW H} {p : List MemPlace} (hv : Value.okWide Try.prog W r b0 29 v) (h : DataW.Trod enc Try.prog W base spare held 29 v dd p) :
    ∃ (c c2 : Value) (L N : List MM) (k f t s d l now l2 : Int) (body : ByteArray) (x0 x1 x2 x3 x4 d0 d1 : DataW H), v = .agg #[.int .i64 k, .int .i64 f, .int .i64 t, .int .i64 s, .int .i64 d, c, .int .i64 l, .int .u64 now, .string body, c2, .int .i64 l2] ∧ dd = .agg [x0, .agg [d0, d1], x2, x3, x4] ∧ (∀ W' ρ, RowOk W' ρ W c (rowM L)) ∧ (∀ W' ρ, RowOk W' ρ W c2 (rowM N)) ∧ ((d0 = .nil ∧ L.length = 0) ∨ ∃ els sp, d0 = .slice els sp ∧ els.length = L.length) := by
  obtain ⟨cs, ys, n, rfl, hc, hy, rfl, hg⟩ := open_structX Try.underlying29 hv h
  rw [show Try.prog.cellsOf 29 = 11 by kernel_rfl] at hc
  match cs, hc, ys, hy with
  | [c0, c1, c2, c3, c4, c5, c6, c7, c8, c9, c10], _, [y0, y1, y2, y3, y4], _ =>
    obtain ⟨k, f, t, s, d, e0⟩ := chanCells (cs := [c0, c1, c2, c3, c4]) (by simpa [cC] using hg 0 _ _ rfl rfl)
    obtain ⟨c, L, l, d0, d1, e1, f1, hr, hd⟩ := boxCells (cs := [c5, c6]) (by simpa [cX] using hg 1 _ _ rfl rfl)
    obtain ⟨now, e2⟩ := u64Cell (cs := [c7]) (by simpa [cU] using hg 2 _ _ rfl rfl)
    obtain ⟨body, e3⟩ := strCell (cs := [c8]) (by simpa [cS] using hg 3 _ _ rfl rfl)
    obtain ⟨c', N, l2, d2, d3, e4, f4, hr2, _⟩ := boxCells (cs := [c9, c10]) (by simpa [cX] using hg 4 _ _ rfl rfl)
    simp only [List.cons.injEq, and_true] at e0 e1 e2 e3 e4
    obtain ⟨rfl, rfl, rfl, rfl, rfl⟩ := e0
    obtain ⟨rfl, rfl⟩ := e1
    obtain ⟨rfl, rfl⟩ := e4
    subst e2 e3
    exact ⟨_, _, L, N, k, f, t, s, d, l, now, l2, body, y0.1, y0.1, y2.1, y3.1, y4.1, d0, d1, rfl, by simp [f1], hr, hr2, hd⟩
theorem openRow {v : Value} {dd : DataW H} {p : List MemPlace} (hv : Value.okWide Try.prog W r b0 50 v) (h : DataW.Trod enc Try.prog W base spare held 50 v dd p) :
    ∃ (L : List AA), (∀ W' ρ, RowOk W' ρ W v (rowA L)) ∧ ((dd = .nil ∧ L.length = 0) ∨ ∃ els sp, dd = .slice els sp ∧ els.length = L.length) := by
  obtain ⟨fuel, hf⟩ := h
  obtain ⟨c, L, hc, hr, hd⟩ := open_rowX aaC (fun x => [.bool x.1, .int .u64 x.2.1, .string x.2.2]) aaDen (fun x _ => True) aa0 Try.underlying50 cA (fun _ => rfl) (by omega)
    (fun n cs y h => by obtain ⟨x, e⟩ := actCells h; exact ⟨x, e, trivial⟩) hf
  obtain ⟨A', n', cap', rfl⟩ := okWide_slice Try.underlying50 hv
  have hc' : Value.slice A' n' cap' = c := by simpa [Value.cells] using hc
  subst hc'
  refine ⟨L, hr, ?_⟩
  rcases hd with ⟨h1, rfl⟩ | ⟨els, sp, h1, h2, _⟩
  · exact .inl ⟨h1, rfl⟩
  · exact .inr ⟨els, sp, h1, h2⟩
theorem sizeMsgs {ts : List TypeId} {ds : List (DataW H)} {j : Nat} {dr : DataW H} {L : List MM} (h : (DataW.weightsEach Try.prog ts ds).all (· ≤ reachBytes) = true) (ht : ts[j]? = some 24) (hd : ds[j]? = some dr)
    (hdr : (dr = .nil ∧ L.length = 0) ∨ ∃ els sp, dr = .slice els sp ∧ els.length = L.length) : L.length ≤ 5864062014640 := by
  have := sized_rowX h ht hd Try.underlying24 bytesM hdr
  omega
theorem sizeActs {ts : List TypeId} {ds : List (DataW H)} {j : Nat} {dr : DataW H} {L : List AA} (h : (DataW.weightsEach Try.prog ts ds).all (· ≤ reachBytes) = true) (ht : ts[j]? = some 50) (hd : ds[j]? = some dr)
    (hdr : (dr = .nil ∧ L.length = 0) ∨ ∃ els sp, dr = .slice els sp ∧ els.length = L.length) : L.length ≤ 5864062014640 := by
  have := sized_rowX h ht hd Try.underlying50 bytesA hdr
  omega
end
end Go.Proofs.Ytecpnblhhjndgaa
