/- Rows of alarms as arguments: opened. -/
import Derived.Test.YtjelflknbhklnaaSlB
import Derived.Test.YtjelflknbhklnaaSxR
import Derived.Test.YtjelflknbhklnaaFrameU
namespace Go.Proofs.Ytjelflknbhklnaa
open Go.Sx Go.RowKit Go.ChangeShapes Go.WideShapes Go.ChangeAt Go.Joins Go.Deep
set_option linter.unusedVariables false
set_option linter.unusedSimpArgs false
section
variable {H : Type} {enc : TypeId × Value → H} {W : World} {r : Reach} {b0 base : Nat} {spare : Nat → Bool} {held : Bool}
theorem intCell {n : Nat} {cs : List Value} {y : DataW H × List MemPlace} (h : DataW.trod enc Try.prog W base spare held n 3 cs = some y) : ∃ a, cs = [.int .i64 a] ∧ y.1 = .lit (.int .i64 a) ∧ -9223372036854775808 ≤ a ∧ a ≤ 9223372036854775807 := by
  obtain ⟨a, e, q, wf⟩ := DataW.trod_int Try.underlying3 h
  obtain ⟨b1, b2⟩ := i64_bounds wf
  exact ⟨a, e, by rw [q], b1, b2⟩
theorem u64Cell {n : Nat} {cs : List Value} {y : DataW H × List MemPlace} (h : DataW.trod enc Try.prog W base spare held n 23 cs = some y) : ∃ a, cs = [.int .u64 a] ∧ y.1 = .lit (.int .u64 a) ∧ 0 ≤ a ∧ a ≤ 18446744073709551615 := by
  obtain ⟨a, e, q, wf⟩ := DataW.trod_int Try.underlying23 h
  obtain ⟨b1, b2⟩ := u64_bounds wf
  exact ⟨a, e, by rw [q], b1, by omega⟩
theorem u32Cell {n : Nat} {cs : List Value} {y : DataW H × List MemPlace} (h : DataW.trod enc Try.prog W base spare held n 26 cs = some y) : ∃ a, cs = [.int .u32 a] ∧ y.1 = .lit (.int .u32 a) ∧ 0 ≤ a ∧ a ≤ 4294967295 := by
  obtain ⟨a, e, q, wf⟩ := DataW.trod_int Try.underlying26 h
  obtain ⟨b1, b2⟩ := u32_bounds wf
  exact ⟨a, e, by rw [q], b1, by omega⟩
theorem alarmCells {n : Nat} {cs : List Value} {y : DataW H × List MemPlace} (h : DataW.trod enc Try.prog W base spare held n 25 cs = some y) :
    ∃ x : E, cs = eG x ∧ y.1 = .agg [.lit (.int .u64 x.1), .lit (.int .i64 x.2)] ∧ (0 ≤ x.1 ∧ x.1 ≤ 18446744073709551615) ∧ -9223372036854775808 ≤ x.2 ∧ x.2 ≤ 9223372036854775807 := by
  obtain ⟨ys, m, hc, hy, hy1, hg⟩ := open_subX Try.underlying25 h
  rw [show Try.prog.cellsOf 25 = 2 by kernel_rfl] at hc
  match cs, hc, ys, hy with
  | [c0, c1], _, [y0, y1], _ =>
    obtain ⟨a, e0, q0, b0⟩ := u64Cell (cs := [c0]) (by simpa [show Try.prog.cellsOf 23 = 1 by kernel_rfl] using hg 0 _ _ rfl rfl)
    obtain ⟨b, e1, q1, b1⟩ := intCell (cs := [c1]) (by simpa [show Try.prog.cellsOf 3 = 1 by kernel_rfl] using hg 1 _ _ rfl rfl)
    simp at e0 e1
    subst e0 e1
    exact ⟨(a, b), rfl, by rw [hy1]; simp [q0, q1], b0, b1⟩
theorem rowAlarms {n : Nat} {cs : List Value} {y : DataW H × List MemPlace} (h : DataW.trod enc Try.prog W base spare held n 22 cs = some y) :
    ∃ (c : Value) (L : List E), cs = [c] ∧ (∀ W' ρ, RowOk W' ρ W c (rowE L)) ∧ ((y.1 = .nil ∧ L.length = 0) ∨ ∃ els sp, y.1 = .slice els sp ∧ els.length = L.length) := by
  obtain ⟨c, L, hc, hr, hd⟩ := open_rowX eC eG eDen (fun x _ => True) e0 Try.underlying22 (by kernel_rfl : Try.prog.cellsOf 25 = 2) (fun _ => rfl) (by omega)
    (fun n cs y h => by obtain ⟨x, e, _⟩ := alarmCells h; exact ⟨x, e, trivial⟩) h
  refine ⟨c, L, hc, hr, ?_⟩
  rcases hd with ⟨h1, rfl⟩ | ⟨els, sp, h1, h2, _⟩
  · exact .inl ⟨h1, rfl⟩
  · exact .inr ⟨els, sp, h1, h2⟩
theorem openAlarms {v : Value} {dd : DataW H} {p : List MemPlace} (hv : Value.okWide Try.prog W r b0 22 v) (h : DataW.Trod enc Try.prog W base spare held 22 v dd p) :
    ∃ (L : List E), (∀ W' ρ, RowOk W' ρ W v (rowE L)) ∧ ((dd = .nil ∧ L.length = 0) ∨ ∃ els sp, dd = .slice els sp ∧ els.length = L.length) := by
  obtain ⟨fuel, hf⟩ := h
  obtain ⟨c, L, hc, hr, hd⟩ := rowAlarms hf
  obtain ⟨A', n', cap', rfl⟩ := okWide_slice Try.underlying22 hv
  have hc' : Value.slice A' n' cap' = c := by simpa [Value.cells] using hc
  subst hc'
  exact ⟨L, hr, hd⟩
theorem openAlarm {v : Value} {dd : DataW H} {p : List MemPlace} (hv : Value.okWide Try.prog W r b0 25 v) (h : DataW.Trod enc Try.prog W base spare held 25 v dd p) :
    ∃ x : E, v = .agg #[.int .u64 x.1, .int .i64 x.2] ∧ dd = .agg [.lit (.int .u64 x.1), .lit (.int .i64 x.2)] := by
  obtain ⟨cs, ys, n, rfl, hc, hy, rfl, hg⟩ := open_structX Try.underlying25 hv h
  rw [show Try.prog.cellsOf 25 = 2 by kernel_rfl] at hc
  match cs, hc, ys, hy with
  | [c0, c1], _, [y0, y1], _ =>
    obtain ⟨a, e0, q0, _⟩ := u64Cell (cs := [c0]) (by simpa [show Try.prog.cellsOf 23 = 1 by kernel_rfl] using hg 0 _ _ rfl rfl)
    obtain ⟨b, e1, q1, _⟩ := intCell (cs := [c1]) (by simpa [show Try.prog.cellsOf 3 = 1 by kernel_rfl] using hg 1 _ _ rfl rfl)
    simp at e0 e1
    subst e0 e1
    exact ⟨(a, b), rfl, by simp [q0, q1]⟩
theorem sizeAlarms {ts : List TypeId} {ds : List (DataW H)} {j : Nat} {dr : DataW H} {L : List E} (h : (DataW.weightsEach Try.prog ts ds).all (· ≤ reachBytes) = true) (ht : ts[j]? = some 22) (hd : ds[j]? = some dr)
    (hdr : (dr = .nil ∧ L.length = 0) ∨ ∃ els sp, dr = .slice els sp ∧ els.length = L.length) : L.length ≤ 8796093021952 := by
  have := sized_rowX h ht hd Try.underlying22 (show Try.prog.bytesOf 25 = 16 by kernel_rfl) hdr
  omega
theorem openActs {v : Value} {dd : DataW H} {p : List MemPlace} (hv : Value.okWide Try.prog W r b0 28 v) (h : DataW.Trod enc Try.prog W base spare held 28 v dd p) :
    ∃ (c : Value) (L : List E) (x : E) (pid now n : Int) (d : DataW H) (ds : List (DataW H)), v = .agg #[c, .int .u64 x.1, .int .i64 x.2, .int .i64 pid, .int .u64 now, .int .u32 n] ∧ dd = .agg (d :: ds) ∧ (∀ W' ρ, RowOk W' ρ W c (rowE L)) ∧ (0 ≤ now ∧ now ≤ 18446744073709551615) ∧ (0 ≤ n ∧ n ≤ 4294967295) ∧ ((d = .nil ∧ L.length = 0) ∨ ∃ els sp, d = .slice els sp ∧ els.length = L.length) := by
  obtain ⟨cs, ys, n, rfl, hc, hy, rfl, hg⟩ := open_structX Try.underlying28 hv h
  rw [show Try.prog.cellsOf 28 = 6 by kernel_rfl] at hc
  match cs, hc, ys, hy with
  | [c0, c1, c2, c3, c4, c5], _, [y0, y1, y2, y3, y4], _ =>
    obtain ⟨c, L, e0, hr, hd⟩ := rowAlarms (cs := [c0]) (by simpa [show Try.prog.cellsOf 22 = 1 by kernel_rfl] using hg 0 _ _ rfl rfl)
    obtain ⟨x, e1, _⟩ := alarmCells (cs := [c1, c2]) (by simpa [show Try.prog.cellsOf 25 = 2 by kernel_rfl] using hg 1 _ _ rfl rfl)
    obtain ⟨pid, e2, _⟩ := intCell (cs := [c3]) (by simpa [show Try.prog.cellsOf 3 = 1 by kernel_rfl] using hg 2 _ _ rfl rfl)
    obtain ⟨now, e3, _, b3⟩ := u64Cell (cs := [c4]) (by simpa [show Try.prog.cellsOf 23 = 1 by kernel_rfl] using hg 3 _ _ rfl rfl)
    obtain ⟨m, e4, _, b4⟩ := u32Cell (cs := [c5]) (by simpa [show Try.prog.cellsOf 26 = 1 by kernel_rfl] using hg 4 _ _ rfl rfl)
    simp [eG] at e0 e1 e2 e3 e4
    obtain ⟨rfl, rfl⟩ := e1
    subst e0 e2 e3 e4
    exact ⟨_, L, x, pid, now, m, y0.1, [y1.1, y2.1, y3.1, y4.1], rfl, rfl, hr, b3, b4, hd⟩
theorem openStays {v : Value} {dd : DataW H} {p : List MemPlace} (hv : Value.okWide Try.prog W r b0 41 v) (h : DataW.Trod enc Try.prog W base spare held 41 v dd p) :
    ∃ (c : Value) (L : List E) (x : E) (pid now : Int) (d : DataW H) (ds : List (DataW H)), v = .agg #[c, .int .u64 x.1, .int .i64 x.2, .int .i64 pid, .int .u64 now] ∧ dd = .agg (d :: ds) ∧ (∀ W' ρ, RowOk W' ρ W c (rowE L)) ∧ ((d = .nil ∧ L.length = 0) ∨ ∃ els sp, d = .slice els sp ∧ els.length = L.length) := by
  obtain ⟨cs, ys, n, rfl, hc, hy, rfl, hg⟩ := open_structX Try.underlying41 hv h
  rw [show Try.prog.cellsOf 41 = 5 by kernel_rfl] at hc
  match cs, hc, ys, hy with
  | [c0, c1, c2, c3, c4], _, [y0, y1, y2, y3], _ =>
    obtain ⟨c, L, e0, hr, hd⟩ := rowAlarms (cs := [c0]) (by simpa [show Try.prog.cellsOf 22 = 1 by kernel_rfl] using hg 0 _ _ rfl rfl)
    obtain ⟨x, e1, _⟩ := alarmCells (cs := [c1, c2]) (by simpa [show Try.prog.cellsOf 25 = 2 by kernel_rfl] using hg 1 _ _ rfl rfl)
    obtain ⟨pid, e2, _⟩ := intCell (cs := [c3]) (by simpa [show Try.prog.cellsOf 3 = 1 by kernel_rfl] using hg 2 _ _ rfl rfl)
    obtain ⟨now, e3, _, b3⟩ := u64Cell (cs := [c4]) (by simpa [show Try.prog.cellsOf 23 = 1 by kernel_rfl] using hg 3 _ _ rfl rfl)
    simp [eG] at e0 e1 e2 e3
    obtain ⟨rfl, rfl⟩ := e1
    subst e0 e2 e3
    exact ⟨_, L, x, pid, now, y0.1, [y1.1, y2.1, y3.1], rfl, rfl, hr, hd⟩
end
end Go.Proofs.Ytjelflknbhklnaa
