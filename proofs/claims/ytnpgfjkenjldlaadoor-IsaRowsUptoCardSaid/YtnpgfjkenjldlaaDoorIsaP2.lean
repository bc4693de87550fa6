/- A program as an argument, opened, with what 'append' reads of it; IsaRows at once. -/
import Derived.Test.YtnpgfjkenjldlaaDoorIsaP
import Derived.Test.YtnpgfjkenjldlaaDoorIsaL8
namespace Go.Proofs.YtnpgfjkenjldlaaDoor
open Go.ChangeShapes Go.WideShapes Go.ChangeAt Go.RowKit Go.Joins Go.Deep
set_option linter.unusedVariables false

theorem rows_walk (A B : List I4) (va vb : Value) (w : World) (hT : UsesAt w) (ga : progAt w va A ∧ progArg w va A) (gb : progAt w vb B ∧ progArg w vb B) (hl : A.length + B.length ≤ 1048576) :
    Calls Tryd.prog 7 #[va, vb] w fun e w' => e = .returned (.bool true) ∧ Below w.heap.size w w' := by
  cases hA : allOk A with
  | false => exact rows_no A B va vb w hT ga.1 gb.1 hl hA
  | true =>
    cases hB : allOk B with
    | false => exact rows_no2 A B va vb w hT ga.1 gb.1 hl hA hB
    | true => exact rows_yes A B va vb w hT ga.1 gb.1 ga.2 gb.2 hl hA hB

theorem openProg2 {H : Type} {enc : TypeId × Value → H} {W : World} {r : Reach} {b0 base : Nat} {spare : Nat → Bool} {held : Bool} {v : Value} {d : DataW H} {p : List MemPlace}
    (hv : Value.okWide Tryd.prog W r b0 37 v) (h : DataW.Trod enc Tryd.prog W base spare held 37 v d p) :
    ∃ L : List I4, (progAt W v L ∧ progArg W v L) ∧ L.length ≤ Rows.uptoBulk d := by
  obtain ⟨a0, len, cap, rfl⟩ := okWide_slice Tryd.underlying37 hv
  obtain ⟨fuel, hf⟩ := h
  rcases open_slice Tryd.underlying37 hf with ⟨hc, hx⟩ | ⟨a, len', cap', m, n, D, Pl, hc, _, hl, hm, hmm, hx, hall⟩
  · obtain ⟨rfl, rfl, rfl⟩ : a0 = none ∧ len = 0 ∧ cap = 0 := by simpa [Value.cells] using hc
    exact ⟨[], ⟨.inl ⟨_, _, rfl, rfl⟩, .inl ⟨rfl, rfl⟩⟩, Nat.zero_le _⟩
  · obtain ⟨rfl, rfl, rfl⟩ : a0 = some a ∧ len = len' ∧ cap = cap' := by simpa [Value.cells] using hc
    have hlm : len ≤ m := by rw [hmm]; split <;> omega
    by_cases hz : len = 0
    · subst hz
      exact ⟨[], ⟨.inl ⟨_, _, rfl, rfl⟩, .inr ⟨a, cap, rfl, .inl rfl, fun j u hu => by simp [flatI] at hu⟩⟩, Nat.zero_le _⟩
    · obtain ⟨b, o, spot⟩ := a
      have hspot : spot = none := by
        obtain ⟨cs', hcs, _⟩ := hall 0 (by omega)
        rw [cellsIns] at hcs
        obtain ⟨hb, hlen, hcell⟩ := World.cells?_some hcs
        have k0 := hcell 0 (by omega)
        rw [List.getElem?_eq_getElem (by omega)] at k0
        simpa [Addr.add] using World.cell?_spot k0
      subst hspot
      have hadd : ∀ i, (⟨b, o, none⟩ : Addr).add i = ⟨b, o + i, none⟩ := fun i => by unfold Addr.add; split <;> simp_all
      have hadd2 : ∀ i j, (⟨b, o + i, none⟩ : Addr).add j = ⟨b, o + i + j, none⟩ := fun i j => by unfold Addr.add; split <;> simp_all
      have key : ∀ i, ∃ x : I4, i < len → b < W.heap.size ∧ W.cell? ⟨b, o + i * 4, none⟩ = some (.int .i64 x.1) ∧ W.cell? ⟨b, o + i * 4 + 1, none⟩ = some (.int .i64 x.2.1) ∧ W.cell? ⟨b, o + i * 4 + 2, none⟩ = some (.int .i64 x.2.2.1) ∧ W.cell? ⟨b, o + i * 4 + 3, none⟩ = some (.int .i64 x.2.2.2) := fun i => by
        by_cases hi : i < len
        · obtain ⟨cs', hcs, ht⟩ := hall i (by omega)
          rw [cellsIns] at hcs
          obtain ⟨hb, hlen, hcell⟩ := World.cells?_some hcs
          obtain ⟨l0, l1, l2, l3, rfl⟩ : ∃ c0 c1 c2 c3, cs' = [c0, c1, c2, c3] := by
            match cs', hlen with
            | [c0, c1, c2, c3], _ => exact ⟨c0, c1, c2, c3, rfl⟩
          have k0 : W.cell? _ = some l0 := hcell 0 (by omega)
          have k1 : W.cell? _ = some l1 := hcell 1 (by omega)
          have k2 : W.cell? _ = some l2 := hcell 2 (by omega)
          have k3 : W.cell? _ = some l3 := hcell 3 (by omega)
          rw [hadd, hadd2] at k0 k1 k2 k3
          have hbl := block_of_cell k0
          obtain ⟨y0, y1, y2, y3, n', hy, _, h0, h1, h2, h3⟩ := trod_struct4 Tryd.underlying23 ht
          have g0 : DataW.trod enc Tryd.prog W base spare held n' 3 [l0] = some y0 := by simpa [cellsInt] using h0
          have g1 : DataW.trod enc Tryd.prog W base spare held n' 3 [l1] = some y1 := by simpa [cellsInt] using h1
          have g2 : DataW.trod enc Tryd.prog W base spare held n' 3 [l2] = some y2 := by simpa [cellsInt] using h2
          have g3 : DataW.trod enc Tryd.prog W base spare held n' 3 [l3] = some y3 := by simpa [cellsInt] using h3
          obtain ⟨x0, e0, _, w0⟩ := DataW.trod_int Tryd.underlying3 g0
          obtain ⟨x1, e1, _, w1⟩ := DataW.trod_int Tryd.underlying3 g1
          obtain ⟨x2, e2, _, w2⟩ := DataW.trod_int Tryd.underlying3 g2
          obtain ⟨x3, e3, _, w3⟩ := DataW.trod_int Tryd.underlying3 g3
          simp at e0 e1 e2 e3
          subst e0 e1 e2 e3
          exact ⟨(x0, x1, x2, x3), fun _ => ⟨hbl, k0, k1, k2, k3⟩⟩
        · exact ⟨(0, 0, 0, 0), fun h => absurd h hi⟩
      obtain ⟨f, hfx⟩ := Classical.axiomOfChoice key
      have hins : insAt W b o ((List.range len).map f) := fun k x hk => by
        simp only [List.getElem?_map, Option.map_eq_some_iff] at hk
        obtain ⟨k', hk', rfl⟩ := hk
        obtain ⟨hlt, rfl⟩ := List.getElem?_eq_some_iff.1 hk'
        simp only [List.length_range] at hlt
        simp only [List.getElem_range]
        exact (hfx k hlt).2
      refine ⟨(List.range len).map f, ⟨.inr ⟨b, o, cap, by simp, (hfx 0 (by omega)).1, hins⟩, .inr ⟨⟨b, o, none⟩, cap, by simp, .inr (hfx 0 (by omega)).1, fun j u hu => by rw [hadd]; exact insAt_flat _ o hins j u hu⟩⟩, ?_⟩
      · simp only [Prod.mk.injEq] at hx
        rw [hx.1]
        have hbulk : ∀ l : List (DataW H), l.length ≤ Rows.uptoBulkAll l := fun l => by
          induction l with
          | nil => simp [Rows.uptoBulkAll]
          | cons y l ih =>
            have h1 : 1 ≤ Rows.uptoBulk y := by
              cases y with
              | lit l => cases l <;> simp [Rows.uptoBulk]
              | _ => simp [Rows.uptoBulk]
            simp only [Rows.uptoBulkAll, List.length_cons]
            omega
        have h2 := hbulk ((List.range len).map D)
        simp only [List.length_map, List.length_range] at h2 ⊢
        simp only [Rows.uptoBulk]
        omega
end Go.Proofs.YtnpgfjkenjldlaaDoor
