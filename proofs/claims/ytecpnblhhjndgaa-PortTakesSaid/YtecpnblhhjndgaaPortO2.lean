/- PortAdds', PortFull's structs; a channel, a box: opened. -/
import Derived.Test.YtecpnblhhjndgaaPorO
import Derived.Test.YtecpnblhhjndgaaPorG
namespace Go.Proofs.Ytecpnblhhjndgaa
open Go.ChangeShapes Go.WideShapes Go.ChangeAt Go.RowKit Go.Joins Go.Deep
set_option linter.unusedVariables false
theorem openAddsIn {H : Type} {enc : TypeId × Value → H} {W : World} {r : Reach} {b0 base : Nat} {spare : Nat → Bool} {held : Bool} {v : Value} {dd : DataW H} {p : List MemPlace}
    (hv : Value.okWide Try.prog W r b0 56 v) (h : DataW.Trod enc Try.prog W base spare held 56 v dd p)
    (hsz : (DataW.weightsEach Try.prog [56] [dd]).all (· ≤ reachBytes) = true) :
    ∃ (k f t s d : Int) (v1 : Value) (l now : Int) (body : ByteArray) (L : List Msg), v = addV k f t s d v1 l now body ∧ RowM W v1 L ∧ L.length ≤ 5864062014634 ∧ body.size ≤ 140737488351232 := by
  obtain ⟨cs, ys, n, rfl, hc, hy, rfl, hg⟩ := open_struct Try.underlying56 hv h
  rw [show Try.prog.cellsOf 56 = 9 by kernel_rfl] at hc
  match cs, hc, ys, hy with
  | [c0, c1, c2, c3, c4, c5, c6, c7, c8], _, [y0, y1, y2, y3], _ =>
    obtain ⟨k, f, t, s, d, rfl, rfl, rfl, rfl, rfl⟩ := chanCells (c0 := c0) (c1 := c1) (c2 := c2) (c3 := c3) (c4 := c4) (by simpa [cellsChan] using hg 0 _ _ rfl rfl)
    obtain ⟨L, l, dr, rfl, hr, q1, _, hdr⟩ := boxCells (c0 := c5) (c1 := c6) (by simpa [cellsBox] using hg 1 _ _ rfl rfl)
    obtain ⟨now, rfl, _⟩ := u64Cell (c := c7) (by simpa [cellsU64] using hg 2 _ _ rfl rfl)
    obtain ⟨body, rfl, q5⟩ := strCell (c := c8) (by simpa [cellsStr] using hg 3 _ _ rfl rfl)
    have h1 := sized_agg hsz (j := 0) rfl rfl Try.underlying56
    have h2 := sized_agg h1 (j := 1) rfl (by simp [q1]; rfl) Try.underlying26
    have h4 := sized_string h1 (j := 3) (bytes := body.data.toList) rfl (by simp [q5])
    exact ⟨k, f, t, s, d, c5, l, now, body, L, rfl, hr, rowLen h2 (j := 0) rfl rfl hdr, by rw [Lib.size_eq]; exact h4⟩
theorem openFullIn {H : Type} {enc : TypeId × Value → H} {W : World} {r : Reach} {b0 base : Nat} {spare : Nat → Bool} {held : Bool} {v : Value} {dd : DataW H} {p : List MemPlace}
    (hv : Value.okWide Try.prog W r b0 59 v) (h : DataW.Trod enc Try.prog W base spare held 59 v dd p)
    (hsz : (DataW.weightsEach Try.prog [59] [dd]).all (· ≤ reachBytes) = true) :
    ∃ (k f t s d : Int) (v1 : Value) (l now : Int) (body : ByteArray) (L : List Msg), v = addV k f t s d v1 l now body ∧ RowM W v1 L ∧ L.length ≤ 5864062014634 ∧ body.size ≤ 140737488351232 := by
  obtain ⟨cs, ys, n, rfl, hc, hy, rfl, hg⟩ := open_struct Try.underlying59 hv h
  rw [show Try.prog.cellsOf 59 = 9 by kernel_rfl] at hc
  match cs, hc, ys, hy with
  | [c0, c1, c2, c3, c4, c5, c6, c7, c8], _, [y0, y1, y2, y3], _ =>
    obtain ⟨k, f, t, s, d, rfl, rfl, rfl, rfl, rfl⟩ := chanCells (c0 := c0) (c1 := c1) (c2 := c2) (c3 := c3) (c4 := c4) (by simpa [cellsChan] using hg 0 _ _ rfl rfl)
    obtain ⟨L, l, dr, rfl, hr, q1, _, hdr⟩ := boxCells (c0 := c5) (c1 := c6) (by simpa [cellsBox] using hg 1 _ _ rfl rfl)
    obtain ⟨now, rfl, _⟩ := u64Cell (c := c7) (by simpa [cellsU64] using hg 2 _ _ rfl rfl)
    obtain ⟨body, rfl, q5⟩ := strCell (c := c8) (by simpa [cellsStr] using hg 3 _ _ rfl rfl)
    have h1 := sized_agg hsz (j := 0) rfl rfl Try.underlying59
    have h2 := sized_agg h1 (j := 1) rfl (by simp [q1]; rfl) Try.underlying26
    have h4 := sized_string h1 (j := 3) (bytes := body.data.toList) rfl (by simp [q5])
    exact ⟨k, f, t, s, d, c5, l, now, body, L, rfl, hr, rowLen h2 (j := 0) rfl rfl hdr, by rw [Lib.size_eq]; exact h4⟩
theorem openChan {H : Type} {enc : TypeId × Value → H} {W : World} {r : Reach} {b0 base : Nat} {spare : Nat → Bool} {held : Bool} {v : Value} {dd : DataW H} {p : List MemPlace}
    (hv : Value.okWide Try.prog W r b0 23 v) (h : DataW.Trod enc Try.prog W base spare held 23 v dd p) :
    ∃ k f t s d : Int, v = chanV k f t s d := by
  obtain ⟨cs, rfl, hsz⟩ := okWide_struct Try.underlying23 hv
  obtain ⟨l⟩ := cs
  obtain ⟨fuel, hf⟩ := h
  rw [cellsChan] at hsz
  match l, hsz with
  | [c0, c1, c2, c3, c4], _ =>
    obtain ⟨k, f, t, s, d, rfl, rfl, rfl, rfl, rfl⟩ := chanCells (c0 := c0) (c1 := c1) (c2 := c2) (c3 := c3) (c4 := c4) hf
    exact ⟨k, f, t, s, d, rfl⟩
theorem openBox {H : Type} {enc : TypeId × Value → H} {W : World} {r : Reach} {b0 base : Nat} {spare : Nat → Bool} {held : Bool} {v : Value} {dd : DataW H} {p : List MemPlace} {ts : List TypeId} {ds : List (DataW H)} {j : Nat}
    (hv : Value.okWide Try.prog W r b0 26 v) (h : DataW.Trod enc Try.prog W base spare held 26 v dd p)
    (hsz : (DataW.weightsEach Try.prog ts ds).all (· ≤ reachBytes) = true) (ht : ts[j]? = some 26) (hd : ds[j]? = some dd) :
    ∃ (v1 : Value) (l : Int) (L : List Msg), v = boxV v1 l ∧ RowM W v1 L ∧ L.length ≤ 5864062014634 ∧ (-9223372036854775808 ≤ l ∧ l ≤ 9223372036854775807) := by
  obtain ⟨cs, rfl, hcs⟩ := okWide_struct Try.underlying26 hv
  obtain ⟨l⟩ := cs
  obtain ⟨fuel, hf⟩ := h
  rw [cellsBox] at hcs
  match l, hcs with
  | [c0, c1], _ =>
    obtain ⟨L, l, dr, rfl, hr, q1, hb, hdr⟩ := boxCells (c0 := c0) (c1 := c1) hf
    simp only at q1
    have h2 := sized_agg hsz (j := j) ht (by rw [hd, q1]) Try.underlying26
    exact ⟨c0, l, L, rfl, hr, rowLen h2 (j := 0) rfl rfl hdr, hb⟩
end Go.Proofs.Ytecpnblhhjndgaa
