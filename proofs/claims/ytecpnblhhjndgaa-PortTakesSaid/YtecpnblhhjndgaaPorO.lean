/- Channels, boxes, messages and the laws' structs, as arguments: opened. -/
import Derived.Test.YtecpnblhhjndgaaPorA
import Derived.Test.YtecpnblhhjndgaaOpenR
namespace Go.Proofs.Ytecpnblhhjndgaa
open Go.ChangeShapes Go.WideShapes Go.ChangeAt Go.RowKit Go.Joins Go.Deep
set_option linter.unusedVariables false
theorem cellsInt : Try.prog.cellsOf 3 = 1 := by kernel_rfl
theorem cellsU64 : Try.prog.cellsOf 27 = 1 := by kernel_rfl
theorem cellsStr : Try.prog.cellsOf 9 = 1 := by kernel_rfl
theorem cellsMsgs : Try.prog.cellsOf 24 = 1 := by kernel_rfl
theorem cellsMsg : Try.prog.cellsOf 37 = 2 := by kernel_rfl
theorem cellsBox : Try.prog.cellsOf 26 = 2 := by kernel_rfl
theorem cellsChan : Try.prog.cellsOf 23 = 5 := by kernel_rfl
section
variable {H : Type} {enc : TypeId × Value → H} {W : World} {base : Nat} {spare : Nat → Bool} {held : Bool}

theorem intCell {n : Nat} {c : Value} {y : DataW H × List MemPlace} (h : DataW.trod enc Try.prog W base spare held n 3 [c] = some y) : ∃ a, c = .int .i64 a ∧ y.1 = .lit (.int .i64 a) ∧ -9223372036854775808 ≤ a ∧ a ≤ 9223372036854775807 := by
  obtain ⟨a, e, q, wf⟩ := DataW.trod_int Try.underlying3 h
  simp at e
  obtain ⟨b1, b2⟩ := i64_bounds wf
  exact ⟨a, e, by rw [q], b1, b2⟩
theorem u64Cell {n : Nat} {c : Value} {y : DataW H × List MemPlace} (h : DataW.trod enc Try.prog W base spare held n 27 [c] = some y) : ∃ a, c = .int .u64 a ∧ y.1 = .lit (.int .u64 a) ∧ 0 ≤ a ∧ a < 18446744073709551616 := by
  obtain ⟨a, e, q, wf⟩ := DataW.trod_int Try.underlying27 h
  simp at e
  obtain ⟨b1, b2⟩ := u64_bounds wf
  exact ⟨a, e, by rw [q], b1, b2⟩
theorem strCell {n : Nat} {c : Value} {y : DataW H × List MemPlace} (h : DataW.trod enc Try.prog W base spare held n 9 [c] = some y) : ∃ s : ByteArray, c = .string s ∧ y.1 = .lit (.string s.data.toList) := by
  obtain ⟨s, e, q, _⟩ := DataW.trod_string Try.underlying9 h
  simp at e
  exact ⟨s, e, by rw [q]⟩

theorem msgCells {n : Nat} {cs : List Value} {y : DataW H × List MemPlace} (h : DataW.trod enc Try.prog W base spare held n 37 cs = some y) : ∃ x : Msg, cs = msgC x := by
  obtain ⟨ys, m, hc, hy, _, hg⟩ := open_sub Try.underlying37 h
  rw [cellsMsg] at hc
  match cs, hc, ys, hy with
  | [c0, c1], _, [y0, y1], _ =>
    obtain ⟨a, rfl, _⟩ := u64Cell (c := c0) (by simpa [cellsU64] using hg 0 _ _ rfl rfl)
    obtain ⟨s, rfl, _⟩ := strCell (c := c1) (by simpa [cellsStr] using hg 1 _ _ rfl rfl)
    exact ⟨(a, s), rfl⟩
theorem rowCell {n : Nat} {c : Value} {y : DataW H × List MemPlace} (h : DataW.trod enc Try.prog W base spare held n 24 [c] = some y) :
    ∃ (L : List Msg), RowM W c L ∧ ((y.1 = .nil ∧ L = []) ∨ ∃ els sp, y.1 = .slice els sp ∧ els.length = L.length) := by
  obtain ⟨A, cap, L, hc, hs, hd⟩ := open_row msgC (0, ⟨#[]⟩) Try.underlying24 cellsMsg (by omega) msgC_len (fun n cs y h => msgCells h) h
  simp at hc
  subst hc
  exact ⟨L, hs, hd⟩
theorem boxCells {n : Nat} {c0 c1 : Value} {y : DataW H × List MemPlace} (h : DataW.trod enc Try.prog W base spare held n 26 [c0, c1] = some y) :
    ∃ (L : List Msg) (l : Int) (dr : DataW H), c1 = .int .i64 l ∧ RowM W c0 L ∧ y.1 = .agg [dr, .lit (.int .i64 l)] ∧ (-9223372036854775808 ≤ l ∧ l ≤ 9223372036854775807) ∧ ((dr = .nil ∧ L = []) ∨ ∃ els sp, dr = .slice els sp ∧ els.length = L.length) := by
  obtain ⟨ys, m, hc, hy, hd, hg⟩ := open_sub Try.underlying26 h
  match ys, hy with
  | [y0, y1], _ =>
    obtain ⟨L, hr, hdr⟩ := rowCell (c := c0) (by simpa [cellsMsgs] using hg 0 _ _ rfl rfl)
    obtain ⟨l, rfl, q, b1, b2⟩ := intCell (c := c1) (by simpa [cellsInt] using hg 1 _ _ rfl rfl)
    exact ⟨L, l, y0.1, rfl, hr, by rw [hd]; simp [q], ⟨b1, b2⟩, hdr⟩
theorem chanCells {n : Nat} {c0 c1 c2 c3 c4 : Value} {y : DataW H × List MemPlace} (h : DataW.trod enc Try.prog W base spare held n 23 [c0, c1, c2, c3, c4] = some y) :
    ∃ k f t s d : Int, c0 = .int .i64 k ∧ c1 = .int .i64 f ∧ c2 = .int .i64 t ∧ c3 = .int .i64 s ∧ c4 = .int .i64 d := by
  obtain ⟨ys, m, hc, hy, hd, hg⟩ := open_sub Try.underlying23 h
  match ys, hy with
  | [y0, y1, y2, y3, y4], _ =>
    obtain ⟨k, rfl, _⟩ := intCell (c := c0) (by simpa [cellsInt] using hg 0 _ _ rfl rfl)
    obtain ⟨f, rfl, _⟩ := intCell (c := c1) (by simpa [cellsInt] using hg 1 _ _ rfl rfl)
    obtain ⟨t, rfl, _⟩ := intCell (c := c2) (by simpa [cellsInt] using hg 2 _ _ rfl rfl)
    obtain ⟨s, rfl, _⟩ := intCell (c := c3) (by simpa [cellsInt] using hg 3 _ _ rfl rfl)
    obtain ⟨d, rfl, _⟩ := intCell (c := c4) (by simpa [cellsInt] using hg 4 _ _ rfl rfl)
    exact ⟨k, f, t, s, d, rfl, rfl, rfl, rfl, rfl⟩
/-- How long a row is that lies in an argument's field. -/
theorem rowLen {ts : List TypeId} {ds : List (DataW H)} {j : Nat} {dr : DataW H} {L : List Msg} (h : (DataW.weightsEach Try.prog ts ds).all (· ≤ reachBytes) = true) (ht : ts[j]? = some 24) (hd : ds[j]? = some dr)
    (hdr : (dr = .nil ∧ L = []) ∨ ∃ els sp, dr = .slice els sp ∧ els.length = L.length) : L.length ≤ 5864062014634 := by
  rcases hdr with ⟨_, rfl⟩ | ⟨els, sp, rfl, hl⟩
  · simp
  · have h1 := sized_slice h ht hd Try.underlying24
    rw [show Try.prog.bytesOf 37 = 24 by kernel_rfl] at h1
    have : reachBytes = 140737488351232 := by decide
    omega
end
end Go.Proofs.Ytecpnblhhjndgaa
