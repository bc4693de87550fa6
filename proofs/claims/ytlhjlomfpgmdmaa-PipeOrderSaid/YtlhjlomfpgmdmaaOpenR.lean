/- Arguments: structs with fields of any number of cells; slices of elements of any number of cells. -/
import Derived.Test.YtlhjlomfpgmdmaaAggs
import Derived.Test.YtlhjlomfpgmdmaaRow
import Derived.Deep.Slices
import Derived.Deep.Fields
import Derived.Lib.SmallJoins
namespace Go.Proofs.Ytlhjlomfpgmdmaa
open Go.ChangeShapes Go.WideShapes Go.ChangeAt Go.RowKit Go.Joins Go.Deep
set_option linter.unusedVariables false
section
variable {H : Type} {enc : TypeId × Value → H} {P : Program} {w : World} {base : Nat} {spare : Nat → Bool} {held : Bool}

theorem open_struct {r : Reach} {b0 : Nat} {t : TypeId} {fs : Array Field} {v : Value} {d : DataW H} {p : List MemPlace} (hs : P.underlying t = some (.struct fs))
    (hv : Value.okWide P w r b0 t v) (h : DataW.Trod enc P w base spare held t v d p) :
    ∃ (cs : List Value) (ys : List (DataW H × List MemPlace)) (n : Nat), v = .agg cs.toArray ∧ cs.length = P.cellsOf t ∧ ys.length = fs.size ∧ d = .agg (ys.map (·.1)) ∧
      ∀ (j : Nat) (f : Field) (y : DataW H × List MemPlace), fs[j]? = some f → ys[j]? = some y → DataW.trod enc P w base spare held n f.type ((cs.drop f.offset).take (P.cellsOf f.type)) = some y := by
  obtain ⟨cs, rfl, hsz⟩ := okWide_struct hs hv
  obtain ⟨l⟩ := cs
  obtain ⟨fuel, hf⟩ := h
  obtain ⟨xs, n, _, hx, _, hlen, hg⟩ := DataW.trod_struct hs hf
  simp only [Prod.mk.injEq] at hx
  refine ⟨l, xs, n, rfl, hsz, hlen, hx.1, fun j f y hfj hy => ?_⟩
  have h1 := hg j f hfj
  rw [hy] at h1
  exact h1
theorem open_sub {t : TypeId} {fs : Array Field} {fuel : Nat} {cs : List Value} {y : DataW H × List MemPlace} (hs : P.underlying t = some (.struct fs)) (h : DataW.trod enc P w base spare held fuel t cs = some y) :
    ∃ (ys : List (DataW H × List MemPlace)) (n : Nat), cs.length = P.cellsOf t ∧ ys.length = fs.size ∧ y.1 = .agg (ys.map (·.1)) ∧
      ∀ (j : Nat) (f : Field) (y : DataW H × List MemPlace), fs[j]? = some f → ys[j]? = some y → DataW.trod enc P w base spare held n f.type ((cs.drop f.offset).take (P.cellsOf f.type)) = some y := by
  obtain ⟨xs, n, _, hx, hc, hlen, hg⟩ := DataW.trod_struct hs h
  refine ⟨xs, n, hc, hlen, by rw [hx], fun j f y hfj hy => ?_⟩
  have h1 := hg j f hfj
  rw [hy] at h1
  exact h1

theorem block_lt {W : World} {a : Addr} {v : Value} (h : W.cell? a = some v) : a.block < W.heap.size := by
  by_cases hz : a.block < W.heap.size
  · exact hz
  · have e : W.heap[a.block]? = none := Array.getElem?_eq_none (by omega)
    simp [World.cell?, e] at h

/-- A slice of elements, each of which reads as some x by its cells f x. -/
theorem open_row {α : Type} (f : α → List Value) (x0 : α) {sz : Nat} {tS e : TypeId} (hS : P.underlying tS = some (.slice e)) (hC : P.cellsOf e = sz) (h0 : 0 < sz) (hf : ∀ x, (f x).length = sz)
    (hel : ∀ n cs y, DataW.trod enc P w base spare held n e cs = some y → ∃ x, cs = f x) {fuel : Nat} {cs : List Value} {y : DataW H × List MemPlace} (h : DataW.trod enc P w base spare held fuel tS cs = some y) :
    ∃ (A : Option Addr) (cap : Nat) (L : List α), cs = [.slice A L.length cap] ∧ Sl w sz (.slice A L.length cap) L.length (L.flatMap f) ∧ ((y.1 = .nil ∧ L = []) ∨ ∃ els sp, y.1 = .slice els sp ∧ els.length = L.length) := by
  rcases open_slice hS h with ⟨hc, hx⟩ | ⟨a, len, cap, m, n, D, Pl, hc, _, hl, hm, hmm, hx, hall⟩
  · exact ⟨none, 0, [], hc, Sl.nil w sz, .inl ⟨by rw [hx], rfl⟩⟩
  · have hlm : len ≤ m := by rw [hmm]; split <;> omega
    rw [hC] at hall
    have key : ∀ i, ∃ x : α, i < len → ∃ cs', w.cells? base (a.add (i * sz)) sz = some cs' ∧ cs' = f x := fun i => by
      by_cases hi : i < len
      · obtain ⟨cs', hcs, ht⟩ := hall i (by omega)
        obtain ⟨x, hx'⟩ := hel _ _ _ ht
        exact ⟨x, fun _ => ⟨cs', hcs, hx'⟩⟩
      · exact ⟨x0, fun h => absurd h hi⟩
    obtain ⟨g, hg⟩ := Classical.axiomOfChoice key
    have hLl : ((List.range len).map g).length = len := by simp
    refine ⟨some a, cap, (List.range len).map g, by rw [hLl]; exact hc, ?_, .inr ⟨_, _, by rw [hx], by simp⟩⟩
    rw [hLl]
    by_cases hz : len = 0
    · subst hz
      exact Sl.bare w sz a cap hm
    · obtain ⟨b, o, spot⟩ := a
      have hspot : spot = none := by
        obtain ⟨cs', hcs, e1⟩ := hg 0 (by omega)
        obtain ⟨hb, hlen, hcell⟩ := World.cells?_some hcs
        have k0 := hcell 0 (by omega)
        rw [List.getElem?_eq_getElem (by omega)] at k0
        simpa [Addr.add] using World.cell?_spot k0
      subst hspot
      have hcells : ∀ j u, (((List.range len).map g).flatMap f)[j]? = some u → w.cell? ⟨b, o + j, none⟩ = some u := by
        intro j u hu
        have hjl : j < len * sz := by
          have h1 := (List.getElem?_eq_some_iff.1 hu).1
          rwa [flat_len hf, hLl] at h1
        have hdiv : j / sz < len := (Nat.div_lt_iff_lt_mul h0).2 hjl
        have hmod := Nat.mod_lt j h0
        have hj : j = j / sz * sz + j % sz := by rw [Nat.mul_comm]; exact (Nat.div_add_mod j sz).symm
        have hLk : ((List.range len).map g)[j / sz]? = some (g (j / sz)) := by simp [hdiv]
        have hfl := flat_get hf _ (j / sz) (j % sz) _ hLk hmod
        rw [← hj] at hfl
        rw [hfl] at hu
        obtain ⟨cs', hcs, e1⟩ := hg (j / sz) hdiv
        subst e1
        obtain ⟨hb, hlen, hcell⟩ := World.cells?_some hcs
        have k := hcell (j % sz) hmod
        rw [hu, add_none, add_none] at k
        rw [hj, ← Nat.add_assoc]
        exact k
      have hC0 : 0 < (((List.range len).map g).flatMap f).length := by
        rw [flat_len hf, hLl]
        exact Nat.mul_pos (by omega) h0
      have hlt := block_lt (hcells 0 _ (List.getElem?_eq_getElem hC0))
      exact Sl.at_ hlt (by rw [flat_len hf, hLl]) hl hm hcells
end
end Go.Proofs.Ytlhjlomfpgmdmaa
