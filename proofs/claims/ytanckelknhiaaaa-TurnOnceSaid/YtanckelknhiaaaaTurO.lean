/- Turns and rows of numbers, as arguments: opened. -/
import Derived.Test.YtanckelknhiaaaaTurA
import Derived.Test.YtanckelknhiaaaaSxR
import Derived.Test.YtanckelknhiaaaaFrameU
namespace Go.Proofs.Ytanckelknhiaaaa
open Go.Sx Go.RowKit Go.ChangeShapes Go.WideShapes Go.ChangeAt Go.Joins Go.Deep
set_option linter.unusedVariables false
set_option linter.unusedSimpArgs false
section
variable {H : Type} {enc : TypeId × Value → H} {W : World} {r : Reach} {b0 base : Nat} {spare : Nat → Bool} {held : Bool}
theorem intCell {n : Nat} {cs : List Value} {y : DataW H × List MemPlace} (h : DataW.trod enc Try.prog W base spare held n 3 cs = some y) : ∃ a, cs = [.int .i64 a] ∧ y.1 = .lit (.int .i64 a) ∧ -9223372036854775808 ≤ a ∧ a ≤ 9223372036854775807 := by
  obtain ⟨a, e, q, wf⟩ := DataW.trod_int Try.underlying3 h
  obtain ⟨b1, b2⟩ := i64_bounds wf
  exact ⟨a, e, by rw [q], b1, b2⟩
theorem rowInts {n : Nat} {cs : List Value} {y : DataW H × List MemPlace} (h : DataW.trod enc Try.prog W base spare held n 22 cs = some y) :
    ∃ (c : Value) (L : List Int), cs = [c] ∧ (∀ W' ρ, RowOk W' ρ W c (rowI L)) ∧ (∀ x ∈ L, -9223372036854775808 ≤ x ∧ x ≤ 9223372036854775807) ∧ ((y.1 = .nil ∧ L.length = 0) ∨ ∃ els sp, y.1 = .slice els sp ∧ els.length = L.length) := by
  obtain ⟨c, L, hc, hr, hd⟩ := open_rowX (fun x : Int => [.v (.int .i64 x)]) (fun x => [.int .i64 x]) (fun _ _ => rfl) (fun x _ => -9223372036854775808 ≤ x ∧ x ≤ 9223372036854775807) 0 Try.underlying22 (by kernel_rfl : Try.prog.cellsOf 3 = 1) (fun _ => rfl) (by omega)
    (fun n cs y h => by obtain ⟨a, e, _, b⟩ := intCell h; exact ⟨a, e, b⟩) h
  refine ⟨c, L, hc, hr, ?_, ?_⟩
  · intro x hx
    obtain ⟨i, hi⟩ := List.getElem?_of_mem hx
    rcases hd with ⟨_, rfl⟩ | ⟨els, sp, _, _, hall⟩
    · simp at hi
    · obtain ⟨d, _, hb⟩ := hall i x hi
      exact hb
  · rcases hd with ⟨h1, rfl⟩ | ⟨els, sp, h1, h2, _⟩
    · exact .inl ⟨h1, rfl⟩
    · exact .inr ⟨els, sp, h1, h2⟩
theorem openTurn {v : Value} {dd : DataW H} {p : List MemPlace} (hv : Value.okWide Try.prog W r b0 24 v) (h : DataW.Trod enc Try.prog W base spare held 24 v dd p) :
    ∃ (c : Value) (L : List Int) (l : Int) (d : DataW H), v = .agg #[c, .int .i64 l] ∧ dd = .agg [d, .lit (.int .i64 l)] ∧ (∀ W' ρ, RowOk W' ρ W c (rowI L)) ∧ (-9223372036854775808 ≤ l ∧ l ≤ 9223372036854775807) ∧ (∀ x ∈ L, -9223372036854775808 ≤ x ∧ x ≤ 9223372036854775807) ∧ ((d = .nil ∧ L.length = 0) ∨ ∃ els sp, d = .slice els sp ∧ els.length = L.length) := by
  obtain ⟨cs, ys, n, rfl, hc, hy, rfl, hg⟩ := open_structX Try.underlying24 hv h
  rw [show Try.prog.cellsOf 24 = 2 by kernel_rfl] at hc
  match cs, hc, ys, hy with
  | [c0, c1], _, [y0, y1], _ =>
    obtain ⟨c, L, e0, hr, hb, hd⟩ := rowInts (cs := [c0]) (by simpa [show Try.prog.cellsOf 22 = 1 by kernel_rfl] using hg 0 _ _ rfl rfl)
    obtain ⟨l, e1, q, b⟩ := intCell (cs := [c1]) (by simpa [show Try.prog.cellsOf 3 = 1 by kernel_rfl] using hg 1 _ _ rfl rfl)
    simp at e0 e1
    subst e0 e1
    exact ⟨_, L, l, y0.1, rfl, by simp [q], hr, b, hb, hd⟩
theorem openInts {v : Value} {dd : DataW H} {p : List MemPlace} (hv : Value.okWide Try.prog W r b0 22 v) (h : DataW.Trod enc Try.prog W base spare held 22 v dd p) :
    ∃ (L : List Int), (∀ W' ρ, RowOk W' ρ W v (rowI L)) ∧ (∀ i, -9223372036854775808 ≤ L.getD i 0 ∧ L.getD i 0 ≤ 9223372036854775807) ∧ ((dd = .nil ∧ L.length = 0) ∨ ∃ els sp, dd = .slice els sp ∧ els.length = L.length) := by
  obtain ⟨fuel, hf⟩ := h
  obtain ⟨c, L, hc, hr, hb, hd⟩ := rowInts hf
  obtain ⟨A', n', cap', rfl⟩ := okWide_slice Try.underlying22 hv
  have hc' : Value.slice A' n' cap' = c := by simpa [Value.cells] using hc
  subst hc'
  refine ⟨L, hr, fun i => ?_, hd⟩
  by_cases hi : i < L.length
  · exact hb _ (by simp [List.getD_eq_getElem?_getD, hi])
  · have : L.getD i 0 = 0 := by simp [List.getD_eq_getElem?_getD, Nat.le_of_not_lt hi]
    rw [this]; omega
theorem sizeInts {ts : List TypeId} {ds : List (DataW H)} {j : Nat} {dr : DataW H} {L : List Int} (h : (DataW.weightsEach Try.prog ts ds).all (· ≤ reachBytes) = true) (ht : ts[j]? = some 22) (hd : ds[j]? = some dr)
    (hdr : (dr = .nil ∧ L.length = 0) ∨ ∃ els sp, dr = .slice els sp ∧ els.length = L.length) : L.length ≤ 17592186043904 := by
  have := sized_rowX h ht hd Try.underlying22 (show Try.prog.bytesOf 3 = 8 by kernel_rfl) hdr
  omega
theorem sizeTurn {ts : List TypeId} {ds : List (DataW H)} {j : Nat} {dr y : DataW H} {L : List Int} (h : (DataW.weightsEach Try.prog ts ds).all (· ≤ reachBytes) = true) (ht : ts[j]? = some 24) (hd : ds[j]? = some (.agg [dr, y]))
    (hdr : (dr = .nil ∧ L.length = 0) ∨ ∃ els sp, dr = .slice els sp ∧ els.length = L.length) : L.length ≤ 17592186043904 :=
  sizeInts (sized_aggX h ht hd Try.underlying24) (j := 0) rfl rfl hdr
end
end Go.Proofs.Ytanckelknhiaaaa
