/- Rows of processes as arguments: opened. -/
import Derived.Test.YthdpigdbkljiiaaTbF
import Derived.Test.YthdpigdbkljiiaaSxR
import Derived.Test.YthdpigdbkljiiaaFrameU
import Derived.OpenShut
namespace Go.Proofs.Ythdpigdbkljiiaa
open Go.Sx Go.RowKit Go.ChangeShapes Go.WideShapes Go.ChangeAt Go.Joins Go.Deep
set_option linter.unusedVariables false
set_option linter.unusedSimpArgs false
section
variable {H : Type} {enc : TypeId × Value → H} {W : World} {r : Reach} {b0 base : Nat} {spare : Nat → Bool} {held : Bool}
theorem cI : Try.prog.cellsOf 3 = 1 := by kernel_rfl
theorem cU : Try.prog.cellsOf 23 = 1 := by kernel_rfl
theorem cS : Try.prog.cellsOf 9 = 1 := by kernel_rfl
theorem cB : Try.prog.cellsOf 4 = 1 := by kernel_rfl
theorem cE : Try.prog.cellsOf 28 = 2 := by kernel_rfl
theorem cC : Try.prog.cellsOf 26 = 9 := by kernel_rfl
theorem cW : Try.prog.cellsOf 31 = 4 := by kernel_rfl
theorem cA8 : Try.prog.cellsOf 24 = 8 := by kernel_rfl
theorem cA4 : Try.prog.cellsOf 29 = 8 := by kernel_rfl
theorem cP : Try.prog.cellsOf 33 = 26 := by kernel_rfl
theorem intCell {n : Nat} {cs : List Value} {y : DataW H × List MemPlace} (h : DataW.trod enc Try.prog W base spare held n 3 cs = some y) : ∃ a, cs = [.int .i64 a] ∧ a ≤ 9223372036854775807 := by
  obtain ⟨a, e, q, wf⟩ := DataW.trod_int Try.underlying3 h
  exact ⟨a, e, (i64_bounds wf).2⟩
theorem u32Cell {n : Nat} {cs : List Value} {y : DataW H × List MemPlace} (h : DataW.trod enc Try.prog W base spare held n 23 cs = some y) : ∃ a, cs = [.int .u32 a] := by
  obtain ⟨a, e, q, wf⟩ := DataW.trod_int Try.underlying23 h
  exact ⟨a, e⟩
theorem strCell {n : Nat} {cs : List Value} {y : DataW H × List MemPlace} (h : DataW.trod enc Try.prog W base spare held n 9 cs = some y) : ∃ s : ByteArray, cs = [.string s] := by
  obtain ⟨s, e, q, _⟩ := DataW.trod_string Try.underlying9 h
  exact ⟨s, e⟩
theorem boolCell {n : Nat} {cs : List Value} {y : DataW H × List MemPlace} (h : DataW.trod enc Try.prog W base spare held n 4 cs = some y) : ∃ b : Bool, cs = [.bool b] := by
  obtain ⟨b, e, _⟩ := DataW.trod_bool Try.underlying4 h
  exact ⟨b, e⟩
theorem endCells {n : Nat} {cs : List Value} {y : DataW H × List MemPlace} (h : DataW.trod enc Try.prog W base spare held n 28 cs = some y) : ∃ (p : Int) (w : Bool), cs = [.int .i64 p, .bool w] := by
  obtain ⟨ys, m, hc, hy, _, hg⟩ := open_subX Try.underlying28 h
  rw [cE] at hc
  match cs, hc, ys, hy with
  | [c0, c1], _, [y0, y1], _ =>
    obtain ⟨a, e0, _⟩ := intCell (cs := [c0]) (by simpa [cI] using hg 0 _ _ rfl rfl)
    obtain ⟨b, e1⟩ := boolCell (cs := [c1]) (by simpa [cB] using hg 1 _ _ rfl rfl)
    simp at e0 e1
    subst e0 e1
    exact ⟨a, b, rfl⟩
theorem regCells {n : Nat} {cs : List Value} {y : DataW H × List MemPlace} (h : DataW.trod enc Try.prog W base spare held n 24 cs = some y) : ∃ (r0 r1 r2 r3 r4 r5 r6 r7 : Int), cs = [.int .u32 r0, .int .u32 r1, .int .u32 r2, .int .u32 r3, .int .u32 r4, .int .u32 r5, .int .u32 r6, .int .u32 r7] := by
  obtain ⟨ys, m, _, _, hc, hy, hg⟩ := DataW.trod_array Try.underlying24 h
  rw [cA8] at hc
  match cs, hc, ys, hy with
  | [c0, c1, c2, c3, c4, c5, c6, c7], _, [y0, y1, y2, y3, y4, y5, y6, y7], _ =>
    obtain ⟨r0, e0⟩ := u32Cell (cs := [c0]) (y := y0) (by simpa [cU] using hg 0 (by decide))
    obtain ⟨r1, e1⟩ := u32Cell (cs := [c1]) (y := y1) (by simpa [cU] using hg 1 (by decide))
    obtain ⟨r2, e2⟩ := u32Cell (cs := [c2]) (y := y2) (by simpa [cU] using hg 2 (by decide))
    obtain ⟨r3, e3⟩ := u32Cell (cs := [c3]) (y := y3) (by simpa [cU] using hg 3 (by decide))
    obtain ⟨r4, e4⟩ := u32Cell (cs := [c4]) (y := y4) (by simpa [cU] using hg 4 (by decide))
    obtain ⟨r5, e5⟩ := u32Cell (cs := [c5]) (y := y5) (by simpa [cU] using hg 5 (by decide))
    obtain ⟨r6, e6⟩ := u32Cell (cs := [c6]) (y := y6) (by simpa [cU] using hg 6 (by decide))
    obtain ⟨r7, e7⟩ := u32Cell (cs := [c7]) (y := y7) (by simpa [cU] using hg 7 (by decide))
    simp at e0 e1 e2 e3 e4 e5 e6 e7
    subst e0 e1 e2 e3 e4 e5 e6 e7
    exact ⟨r0, r1, r2, r3, r4, r5, r6, r7, rfl⟩
theorem cpuCells {n : Nat} {cs : List Value} {y : DataW H × List MemPlace} (h : DataW.trod enc Try.prog W base spare held n 26 cs = some y) : ∃ (r0 r1 r2 r3 r4 r5 r6 r7 pc : Int), cs = [.int .u32 r0, .int .u32 r1, .int .u32 r2, .int .u32 r3, .int .u32 r4, .int .u32 r5, .int .u32 r6, .int .u32 r7, .int .u32 pc] := by
  obtain ⟨ys, m, hc, hy, _, hg⟩ := open_subX Try.underlying26 h
  rw [cC] at hc
  match cs, hc, ys, hy with
  | [c0, c1, c2, c3, c4, c5, c6, c7, c8], _, [y0, y1], _ =>
    obtain ⟨r0, r1, r2, r3, r4, r5, r6, r7, e0⟩ := regCells (cs := [c0, c1, c2, c3, c4, c5, c6, c7]) (by simpa [cA8] using hg 0 _ _ rfl rfl)
    obtain ⟨pc, e1⟩ := u32Cell (cs := [c8]) (by simpa [cU] using hg 1 _ _ rfl rfl)
    simp only [List.cons.injEq, and_true] at e0 e1
    obtain ⟨rfl, rfl, rfl, rfl, rfl, rfl, rfl, rfl⟩ := e0
    subst e1
    exact ⟨r0, r1, r2, r3, r4, r5, r6, r7, pc, rfl⟩
theorem fdsCells {n : Nat} {cs : List Value} {y : DataW H × List MemPlace} (h : DataW.trod enc Try.prog W base spare held n 29 cs = some y) : ∃ (p0 : Int) (w0 : Bool) (p1 : Int) (w1 : Bool) (p2 : Int) (w2 : Bool) (p3 : Int) (w3 : Bool), cs = [.int .i64 p0, .bool w0, .int .i64 p1, .bool w1, .int .i64 p2, .bool w2, .int .i64 p3, .bool w3] := by
  obtain ⟨ys, m, _, _, hc, hy, hg⟩ := DataW.trod_array Try.underlying29 h
  rw [cA4] at hc
  match cs, hc, ys, hy with
  | [c0, c1, c2, c3, c4, c5, c6, c7], _, [y0, y1, y2, y3], _ =>
    obtain ⟨p0, w0, e0⟩ := endCells (cs := [c0, c1]) (y := y0) (by simpa [cE] using hg 0 (by decide))
    obtain ⟨p1, w1, e1⟩ := endCells (cs := [c2, c3]) (y := y1) (by simpa [cE] using hg 1 (by decide))
    obtain ⟨p2, w2, e2⟩ := endCells (cs := [c4, c5]) (y := y2) (by simpa [cE] using hg 2 (by decide))
    obtain ⟨p3, w3, e3⟩ := endCells (cs := [c6, c7]) (y := y3) (by simpa [cE] using hg 3 (by decide))
    simp at e0 e1 e2 e3
    obtain ⟨rfl, rfl⟩ := e0
    obtain ⟨rfl, rfl⟩ := e1
    obtain ⟨rfl, rfl⟩ := e2
    obtain ⟨rfl, rfl⟩ := e3
    exact ⟨p0, w0, p1, w1, p2, w2, p3, w3, rfl⟩
theorem callCells {n : Nat} {cs : List Value} {y : DataW H × List MemPlace} (h : DataW.trod enc Try.prog W base spare held n 31 cs = some y) : ∃ (n a b c : Int), cs = [.int .u32 n, .int .u32 a, .int .u32 b, .int .u32 c] := by
  obtain ⟨ys, m, hc, hy, _, hg⟩ := open_subX Try.underlying31 h
  rw [cW] at hc
  match cs, hc, ys, hy with
  | [c0, c1, c2, c3], _, [y0, y1, y2, y3], _ =>
    obtain ⟨a0, e0⟩ := u32Cell (cs := [c0]) (by simpa [cU] using hg 0 _ _ rfl rfl)
    obtain ⟨a1, e1⟩ := u32Cell (cs := [c1]) (by simpa [cU] using hg 1 _ _ rfl rfl)
    obtain ⟨a2, e2⟩ := u32Cell (cs := [c2]) (by simpa [cU] using hg 2 _ _ rfl rfl)
    obtain ⟨a3, e3⟩ := u32Cell (cs := [c3]) (by simpa [cU] using hg 3 _ _ rfl rfl)
    simp at e0 e1 e2 e3
    subst e0 e1 e2 e3
    exact ⟨a0, a1, a2, a3, rfl⟩
theorem procCells {n : Nat} {cs : List Value} {y : DataW H × List MemPlace} (h : DataW.trod enc Try.prog W base spare held n 33 cs = some y) : ∃ x : E, cs = eG x ∧ x.pid ≤ 9223372036854775807 := by
  obtain ⟨ys, m, hc, hy, _, hg⟩ := open_subX Try.underlying33 h
  rw [cP] at hc
  match cs, hc, ys, hy with
  | [c0, c1, c2, c3, c4, c5, c6, c7, c8, c9, c10, c11, c12, c13, c14, c15, c16, c17, c18, c19, c20, c21, c22, c23, c24, c25], _, [y0, y1, y2, y3, y4, y5, y6, y7], _ =>
    obtain ⟨pid, e0, bp⟩ := intCell (cs := [c0]) (by simpa [cI] using hg 0 _ _ rfl rfl)
    obtain ⟨par, e1, _⟩ := intCell (cs := [c1]) (by simpa [cI] using hg 1 _ _ rfl rfl)
    obtain ⟨st, e2, _⟩ := intCell (cs := [c2]) (by simpa [cI] using hg 2 _ _ rfl rfl)
    obtain ⟨r0, r1, r2, r3, r4, r5, r6, r7, pc, e3⟩ := cpuCells (cs := [c3, c4, c5, c6, c7, c8, c9, c10, c11]) (by simpa [cC] using hg 3 _ _ rfl rfl)
    obtain ⟨mem, e4⟩ := strCell (cs := [c12]) (by simpa [cS] using hg 4 _ _ rfl rfl)
    obtain ⟨code, e5, _⟩ := intCell (cs := [c13]) (by simpa [cI] using hg 5 _ _ rfl rfl)
    obtain ⟨p0, w0, p1, w1, p2, w2, p3, w3, e6⟩ := fdsCells (cs := [c14, c15, c16, c17, c18, c19, c20, c21]) (by simpa [cA4] using hg 6 _ _ rfl rfl)
    obtain ⟨n, a, b, c, e7⟩ := callCells (cs := [c22, c23, c24, c25]) (by simpa [cW] using hg 7 _ _ rfl rfl)
    simp only [List.cons.injEq, and_true] at e0 e1 e2 e3 e4 e5 e6 e7
    subst e0 e1 e2 e4 e5
    obtain ⟨rfl, rfl, rfl, rfl, rfl, rfl, rfl, rfl, rfl⟩ := e3
    obtain ⟨rfl, rfl, rfl, rfl, rfl, rfl, rfl, rfl⟩ := e6
    obtain ⟨rfl, rfl, rfl, rfl⟩ := e7
    exact ⟨⟨pid, par, st, r0, r1, r2, r3, r4, r5, r6, r7, pc, mem, code, p0, w0, p1, w1, p2, w2, p3, w3, n, a, b, c⟩, rfl, bp⟩
theorem openProc {v : Value} {dd : DataW H} {p : List MemPlace} (hv : Value.okWide Try.prog W r b0 33 v) (h : DataW.Trod enc Try.prog W base spare held 33 v dd p) : ∃ (x : E) (ds : List (DataW H)), v = .agg (eG x).toArray ∧ dd = .agg ds := by
  obtain ⟨cs, ys, m, rfl, hc, hy, rfl, hg⟩ := open_structX Try.underlying33 hv h
  rw [cP] at hc
  match cs, hc, ys, hy with
  | [c0, c1, c2, c3, c4, c5, c6, c7, c8, c9, c10, c11, c12, c13, c14, c15, c16, c17, c18, c19, c20, c21, c22, c23, c24, c25], _, [y0, y1, y2, y3, y4, y5, y6, y7], _ =>
    obtain ⟨pid, e0, bp⟩ := intCell (cs := [c0]) (by simpa [cI] using hg 0 _ _ rfl rfl)
    obtain ⟨par, e1, _⟩ := intCell (cs := [c1]) (by simpa [cI] using hg 1 _ _ rfl rfl)
    obtain ⟨st, e2, _⟩ := intCell (cs := [c2]) (by simpa [cI] using hg 2 _ _ rfl rfl)
    obtain ⟨r0, r1, r2, r3, r4, r5, r6, r7, pc, e3⟩ := cpuCells (cs := [c3, c4, c5, c6, c7, c8, c9, c10, c11]) (by simpa [cC] using hg 3 _ _ rfl rfl)
    obtain ⟨mem, e4⟩ := strCell (cs := [c12]) (by simpa [cS] using hg 4 _ _ rfl rfl)
    obtain ⟨code, e5, _⟩ := intCell (cs := [c13]) (by simpa [cI] using hg 5 _ _ rfl rfl)
    obtain ⟨p0, w0, p1, w1, p2, w2, p3, w3, e6⟩ := fdsCells (cs := [c14, c15, c16, c17, c18, c19, c20, c21]) (by simpa [cA4] using hg 6 _ _ rfl rfl)
    obtain ⟨n, a, b, c, e7⟩ := callCells (cs := [c22, c23, c24, c25]) (by simpa [cW] using hg 7 _ _ rfl rfl)
    simp only [List.cons.injEq, and_true] at e0 e1 e2 e3 e4 e5 e6 e7
    subst e0 e1 e2 e4 e5
    obtain ⟨rfl, rfl, rfl, rfl, rfl, rfl, rfl, rfl, rfl⟩ := e3
    obtain ⟨rfl, rfl, rfl, rfl, rfl, rfl, rfl, rfl⟩ := e6
    obtain ⟨rfl, rfl, rfl, rfl⟩ := e7
    exact ⟨⟨pid, par, st, r0, r1, r2, r3, r4, r5, r6, r7, pc, mem, code, p0, w0, p1, w1, p2, w2, p3, w3, n, a, b, c⟩, _, rfl, rfl⟩
theorem openProcs {v : Value} {dd : DataW H} {p : List MemPlace} (hv : Value.okWide Try.prog W r b0 22 v) (h : DataW.Trod enc Try.prog W base spare held 22 v dd p) :
    ∃ (L : List E), (∀ W' ρ, RowOk W' ρ W v (rowE L)) ∧ (∀ i, i < L.length → (L.getD i e0).pid ≤ 9223372036854775807) ∧ ((dd = .nil ∧ L.length = 0) ∨ ∃ els sp, dd = .slice els sp ∧ els.length = L.length) := by
  obtain ⟨fuel, hf⟩ := h
  obtain ⟨c, L, hc, hr, hd⟩ := open_rowX eC eG eDen (fun x _ => x.pid ≤ 9223372036854775807) e0 Try.underlying22 cP (fun _ => rfl) (by omega)
    (fun n cs y h => by obtain ⟨x, e, b⟩ := procCells h; exact ⟨x, e, b⟩) hf
  obtain ⟨A', n', cap', rfl⟩ := okWide_slice Try.underlying22 hv
  have hc' : Value.slice A' n' cap' = c := by simpa [Value.cells] using hc
  subst hc'
  refine ⟨L, hr, fun i hi => ?_, ?_⟩
  · rcases hd with ⟨_, rfl⟩ | ⟨els, sp, _, _, hg⟩
    · simp at hi
    · obtain ⟨d, _, hb⟩ := hg i (L.getD i e0) (by simp [List.getD_eq_getElem?_getD, hi])
      exact hb
  · rcases hd with ⟨h1, rfl⟩ | ⟨els, sp, h1, h2, _⟩
    · exact .inl ⟨h1, rfl⟩
    · exact .inr ⟨els, sp, h1, h2⟩
theorem sizeProcs {ts : List TypeId} {ds : List (DataW H)} {j : Nat} {dr : DataW H} {L : List E} (h : (DataW.weightsEach Try.prog ts ds).all (· ≤ reachBytes) = true) (ht : ts[j]? = some 22) (hd : ds[j]? = some dr)
    (hdr : (dr = .nil ∧ L.length = 0) ∨ ∃ els sp, dr = .slice els sp ∧ els.length = L.length) : L.length ≤ 837723144947 := by
  have := sized_rowX h ht hd Try.underlying22 bytesE hdr
  omega
end
end Go.Proofs.Ythdpigdbkljiiaa
