/- PortBlind's struct, opened. -/
import Derived.Test.YtecpnblhhjndgaaPorO
import Derived.Test.YtecpnblhhjndgaaPorF
namespace Go.Proofs.Ytecpnblhhjndgaa
open Go.ChangeShapes Go.WideShapes Go.ChangeAt Go.RowKit Go.Joins Go.Deep
set_option linter.unusedVariables false
theorem openBlindIn {H : Type} {enc : TypeId × Value → H} {W : World} {r : Reach} {b0 base : Nat} {spare : Nat → Bool} {held : Bool} {v : Value} {dd : DataW H} {p : List MemPlace}
    (hv : Value.okWide Try.prog W r b0 48 v) (h : DataW.Trod enc Try.prog W base spare held 48 v dd p)
    (hsz : (DataW.weightsEach Try.prog [48] [dd]).all (· ≤ reachBytes) = true) :
    ∃ (k f t s d : Int) (v1 : Value) (l : Int) (v2 : Value) (l' now then_ : Int) (body : ByteArray) (L L' : List Msg), v = blindV k f t s d v1 l v2 l' now then_ body ∧ RowM W v1 L ∧ RowM W v2 L' ∧ L.length ≤ 5864062014634 ∧ L'.length ≤ 5864062014634 ∧ body.size ≤ 140737488351232 := by
  obtain ⟨cs, ys, n, rfl, hc, hy, rfl, hg⟩ := open_struct Try.underlying48 hv h
  rw [show Try.prog.cellsOf 48 = 12 by kernel_rfl] at hc
  match cs, hc, ys, hy with
  | [c0, c1, c2, c3, c4, c5, c6, c7, c8, c9, c10, c11], _, [y0, y1, y2, y3, y4, y5], _ =>
    obtain ⟨k, f, t, s, d, rfl, rfl, rfl, rfl, rfl⟩ := chanCells (c0 := c0) (c1 := c1) (c2 := c2) (c3 := c3) (c4 := c4) (by simpa [cellsChan] using hg 0 _ _ rfl rfl)
    obtain ⟨L, l, dr, rfl, hr, q1, _, hdr⟩ := boxCells (c0 := c5) (c1 := c6) (by simpa [cellsBox] using hg 1 _ _ rfl rfl)
    obtain ⟨L', l', dr', rfl, hr', q2, _, hdr'⟩ := boxCells (c0 := c7) (c1 := c8) (by simpa [cellsBox] using hg 2 _ _ rfl rfl)
    obtain ⟨now, rfl, _⟩ := u64Cell (c := c9) (by simpa [cellsU64] using hg 3 _ _ rfl rfl)
    obtain ⟨then_, rfl, _⟩ := u64Cell (c := c10) (by simpa [cellsU64] using hg 4 _ _ rfl rfl)
    obtain ⟨body, rfl, q5⟩ := strCell (c := c11) (by simpa [cellsStr] using hg 5 _ _ rfl rfl)
    have h1 := sized_agg hsz (j := 0) rfl rfl Try.underlying48
    have h2 := sized_agg h1 (j := 1) rfl (by simp [q1]; rfl) Try.underlying26
    have h3 := sized_agg h1 (j := 2) rfl (by simp [q2]; rfl) Try.underlying26
    have h4 := sized_string h1 (j := 5) (bytes := body.data.toList) rfl (by simp [q5])
    exact ⟨k, f, t, s, d, c5, l, c7, l', now, then_, body, L, L', rfl, hr, hr', rowLen h2 (j := 0) rfl rfl hdr, rowLen h3 (j := 0) rfl rfl hdr', by rw [Lib.size_eq]; exact h4⟩
end Go.Proofs.Ytecpnblhhjndgaa
