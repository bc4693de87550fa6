/- PipeOrder: no acts; the argument, opened. -/
import Derived.Test.YtlhjlomfpgmdmaaPipH
import Derived.Test.YtlhjlomfpgmdmaaOpenS
namespace Go.Proofs.Ytlhjlomfpgmdmaa
open Go.ChangeShapes Go.WideShapes Go.ChangeAt Go.RowKit Go.Joins Go.Deep
set_option linter.unusedVariables false
set_option maxRecDepth 100000 in
set_option maxHeartbeats 20000000 in
theorem order_zero (A : Option Addr) (cap : Nat) (w : World) : Calls Try.prog 5 #[.slice A 0 cap] w fun e w' => e = .returned (.bool true) ∧ Below w.heap.size w w' := by
  go_enter Try.func5, Try.ntmps5
  go_wp2_with fail
  refine (shown_any _).mono ?_
  rintro e w1 ⟨rfl, hb1⟩
  obtain ⟨hc1, hf1⟩ := bcell hb1
  have s1 := hb1.size
  try simp at s1
  try have hd1 := fun b o (h : b < w.heap.size) => hc1 b o (by first | omega | (simp; omega) | simp)
  try have he1 := fun b o (h : b < w.heap.size) => hf1 b o (by first | omega | (simp; omega) | simp)
  try have z1_0 : w.heap.size < w1.heap.size := by omega
  try have z1_1 : w.heap.size + 1 < w1.heap.size := by omega
  try have z1_2 : w.heap.size + 1 + 1 < w1.heap.size := by omega
  try have z1_3 : w.heap.size + 1 + 1 + 1 < w1.heap.size := by omega
  have HB1 := Lib.hid hb1
  clear hb1 hc1 hf1 hd1 he1
  have ha := fun W => run_string_add_sum (P := Try.prog) W ⟨#[]⟩ ⟨#[]⟩ (by decide)
  have hxy : (⟨#[]⟩ : ByteArray) ++ ⟨#[]⟩ = ⟨#[]⟩ := by decide
  go_wp2
  go_loopw [5, 6, 7] (fun vi vo vk wr => vk = .int .i64 0 ∧ vi = .string ⟨#[]⟩ ∧ vo = .string ⟨#[]⟩ ∧ Hid (Below w.heap.size w wr) ∧ Hid (pipAt wr w1.heap.size ⟨#[]⟩)) (fun _ _ vk _ => 0)
  case atStart =>
    refine ⟨rfl, rfl, rfl, HB1.out.alloc HB1.out.size _, ?_, ⟨?_, ?_, ?_⟩, ?_, ?_, ?_⟩
    · show w1.heap.size < (w1.alloc _).heap.size
      simp
    all_goals first | (rw [new_cell _ _ _ _ _ rfl]; rfl) | (exact new_free _ _ _ _ _ rfl)
  case round =>
    obtain ⟨rfl, rfl, rfl, HB, HP⟩ := hrel
    obtain ⟨HPw, ⟨p0, p1, p2⟩, f0, f1, f2⟩ := HP.out
    go_wp2_with fail
    go_ret
    exact ⟨rfl, HB.out⟩

theorem order_any (v : Value) (L : List Act) (w : World) (h : Sl w 3 v L.length (L.flatMap actC)) (hs : ∀ x ∈ L, x.2.2.size ≤ 140737488351232) :
    Calls Try.prog 5 #[v] w fun e w' => e = .returned (.bool true) ∧ Below w.heap.size w w' := by
  obtain ⟨_, A, cap, rfl, hc, hm, _, hx⟩ := h
  by_cases h0 : 0 < L.length
  · obtain ⟨b, o, rfl, hlt, hcell⟩ := hx h0
    exact order_at b o cap L w hlt h0 hc hm (by have : maxLen ≤ 9223372036854775807 := by decide
                                                omega) hs hcell
  · rw [show L.length = 0 by omega]
    exact order_zero A cap w

theorem cellsAct : Try.prog.cellsOf 55 = 3 := by kernel_rfl
section
variable {H : Type} {enc : TypeId × Value → H} {W : World} {base : Nat} {spare : Nat → Bool} {held : Bool}
theorem actCells {n : Nat} {cs : List Value} {y : DataW H × List MemPlace} (h : DataW.trod enc Try.prog W base spare held n 55 cs = some y) :
    ∃ x : Act, cs = actC x ∧ ∃ a b, y.1 = .agg [a, b, .lit (.string x.2.2.data.toList)] := by
  obtain ⟨ys, m, hc, hy, hd, hg⟩ := open_sub Try.underlying55 h
  rw [cellsAct] at hc
  match cs, hc, ys, hy with
  | [c0, c1, c2], _, [y0, y1, y2], _ =>
    have k0 : DataW.trod enc Try.prog W base spare held m 4 [c0] = some y0 := by simpa [show Try.prog.cellsOf 4 = 1 by kernel_rfl] using hg 0 _ _ rfl rfl
    have k1 : DataW.trod enc Try.prog W base spare held m 3 [c1] = some y1 := by simpa [show Try.prog.cellsOf 3 = 1 by kernel_rfl] using hg 1 _ _ rfl rfl
    have k2 : DataW.trod enc Try.prog W base spare held m 9 [c2] = some y2 := by simpa [show Try.prog.cellsOf 9 = 1 by kernel_rfl] using hg 2 _ _ rfl rfl
    obtain ⟨a, e0, _⟩ := DataW.trod_bool Try.underlying4 k0
    obtain ⟨n, e1, _, _⟩ := DataW.trod_int Try.underlying3 k1
    obtain ⟨s, e2, q2, _⟩ := DataW.trod_string Try.underlying9 k2
    simp at e0 e1 e2
    subst e0 e1 e2
    exact ⟨(a, n, s), rfl, y0.1, y1.1, by rw [hd]; simp [q2]⟩
theorem openActs {r : Reach} {b0 : Nat} {v : Value} {dd : DataW H} {p : List MemPlace} 
    (hv : Value.okWide Try.prog W r b0 53 v) (h : DataW.Trod enc Try.prog W base spare held 53 v dd p) (hsz : (DataW.weightsEach Try.prog [53] [dd]).all (· ≤ reachBytes) = true) :
    ∃ L : List Act, Sl W 3 v L.length (L.flatMap actC) ∧ ∀ x ∈ L, x.2.2.size ≤ 140737488351232 := by
  obtain ⟨fuel, hf⟩ := h
  obtain ⟨A, cap, L, hc, hs, hd⟩ := open_rowD actC (fun x d => ∃ a b, d = .agg [a, b, .lit (.string x.2.2.data.toList)]) (false, 0, ⟨#[]⟩) Try.underlying53 cellsAct (by omega) actC_len (fun n cs y h => actCells h) hf
  obtain ⟨A', n', cap', rfl⟩ := okWide_slice Try.underlying53 hv
  have hc' : Value.slice A' n' cap' = Value.slice A L.length cap := by simpa [Value.cells] using hc
  rw [hc']
  refine ⟨L, hs, fun x hx => ?_⟩
  obtain ⟨i, hi⟩ := List.mem_iff_getElem?.1 hx
  rcases hd with ⟨_, rfl⟩ | ⟨els, sp, hd, _, hg⟩
  · simp at hx
  · obtain ⟨d, hdi, a, b, rfl⟩ := hg i x hi
    simp only at hd
    have h1 := sized_el hsz (j := 0) rfl (by rw [hd]; rfl) Try.underlying53 (List.mem_of_getElem? hdi)
    rw [Lib.size_eq]
    exact sized_string (sized_agg h1 (j := 0) rfl rfl Try.underlying55) (j := 2) rfl rfl
end
end Go.Proofs.Ytlhjlomfpgmdmaa
