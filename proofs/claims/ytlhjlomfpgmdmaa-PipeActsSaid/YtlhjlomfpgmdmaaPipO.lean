/- Pipes, and the laws' structs, as arguments: opened. -/
import Derived.Test.YtlhjlomfpgmdmaaPipB
import Derived.Test.YtlhjlomfpgmdmaaAggs
namespace Go.Proofs.Ytlhjlomfpgmdmaa
open Go.ChangeShapes Go.WideShapes Go.ChangeAt Go.RowKit Go.Joins Go.Deep
set_option linter.unusedVariables false

theorem openPipe {H : Type} {enc : TypeId × Value → H} {W : World} {r : Reach} {b0 base : Nat} {spare : Nat → Bool} {held : Bool} {v : Value} {dd : DataW H} {p : List MemPlace}
    (hv : Value.okWide Try.prog W r b0 23 v) (h : DataW.Trod enc Try.prog W base spare held 23 v dd p) :
    ∃ (d : ByteArray) (m x : Int), v = pipV d m x ∧ dd = .agg [.lit (.string d.data.toList), .lit (.int .i64 m), .lit (.int .i64 x)] ∧ (-9223372036854775808 ≤ m ∧ m ≤ 9223372036854775807) ∧ (-9223372036854775808 ≤ x ∧ x ≤ 9223372036854775807) := by
  obtain ⟨c0, c1, c2, y0, y1, y2, n, rfl, rfl, rfl, hy0, hy1, hy2⟩ := open_agg3 Try.underlying23 (by kernel_rfl) (by kernel_rfl) hv h
  obtain ⟨s, e0, rfl, _⟩ := DataW.trod_string Try.underlying9 hy0
  obtain ⟨a, e1, rfl, w1⟩ := DataW.trod_int Try.underlying3 hy1
  obtain ⟨b, e2, rfl, w2⟩ := DataW.trod_int Try.underlying3 hy2
  simp at e0 e1 e2
  subst e0 e1 e2
  exact ⟨s, a, b, rfl, rfl, i64_bounds w1, i64_bounds w2⟩
theorem sizePipe {H : Type} {ts : List TypeId} {ds : List (DataW H)} {j : Nat} {d : ByteArray} {y1 y2 : DataW H} (h : (DataW.weightsEach Try.prog ts ds).all (· ≤ reachBytes) = true) (ht : ts[j]? = some 23) (hd : ds[j]? = some (.agg [.lit (.string d.data.toList), y1, y2])) : d.size ≤ 140737488351232 := by
  rw [Lib.size_eq]
  exact sized_string (sized_agg h ht hd Try.underlying23) (j := 0) rfl rfl

theorem openEndsIn {H : Type} {enc : TypeId × Value → H} {W : World} {r : Reach} {b0 base : Nat} {spare : Nat → Bool} {held : Bool} {v : Value} {dd : DataW H} {p : List MemPlace}
    (hv : Value.okWide Try.prog W r b0 58 v) (h : DataW.Trod enc Try.prog W base spare held 58 v dd p) :
    ∃ (d : ByteArray) (n : Int) (s : ByteArray) (m x : Int), v = endsV d n s m x ∧ dd = .agg [.lit (.string d.data.toList), .lit (.int .i64 n), .lit (.string s.data.toList), .lit (.int .i64 m), .lit (.int .i64 x)] := by
  obtain ⟨cs, ys, n, rfl, hc, hy, rfl, rfl, hg⟩ := open_aggs Try.underlying58 (by kernel_rfl) (by kernel_rfl) hv h
  match cs, hc, ys, hy with
  | [c0, c1, c2, c3, c4], _, [y0, y1, y2, y3, y4], _ =>
    obtain ⟨s, e0, q0, _⟩ := DataW.trod_string Try.underlying9 (hg 0 _ _ _ rfl rfl rfl)
    obtain ⟨a, e1, q1, w1⟩ := DataW.trod_int Try.underlying3 (hg 1 _ _ _ rfl rfl rfl)
    obtain ⟨b, e2, q2, _⟩ := DataW.trod_string Try.underlying9 (hg 2 _ _ _ rfl rfl rfl)
    obtain ⟨f, e3, q3, w3⟩ := DataW.trod_int Try.underlying3 (hg 3 _ _ _ rfl rfl rfl)
    obtain ⟨g, e4, q4, w4⟩ := DataW.trod_int Try.underlying3 (hg 4 _ _ _ rfl rfl rfl)
    simp at e0 e1 e2 e3 e4
    subst e0 e1 e2 e3 e4 q0 q1 q2 q3 q4
    exact ⟨s, a, b, f, g, rfl, rfl⟩
theorem sizeEndsIn {H : Type} {ts : List TypeId} {ds : List (DataW H)} {j : Nat} {d s : ByteArray} {y1 y2 y3 : DataW H} (h : (DataW.weightsEach Try.prog ts ds).all (· ≤ reachBytes) = true) (ht : ts[j]? = some 58) (hd : ds[j]? = some (.agg [.lit (.string d.data.toList), y1, .lit (.string s.data.toList), y2, y3])) : d.size ≤ 140737488351232 ∧ s.size ≤ 140737488351232 := by
  rw [Lib.size_eq, Lib.size_eq]
  exact ⟨sized_string (sized_agg h ht hd Try.underlying58) (j := 0) rfl rfl, sized_string (sized_agg h ht hd Try.underlying58) (j := 2) rfl rfl⟩
end Go.Proofs.Ytlhjlomfpgmdmaa
