/- A slice of elements as an argument, with what each of them reads as. -/
import Derived.Test.YtlhjlomfpgmdmaaOpenR
namespace Go.Proofs.Ytlhjlomfpgmdmaa
open Go.ChangeShapes Go.WideShapes Go.ChangeAt Go.RowKit Go.Joins Go.Deep
set_option linter.unusedVariables false
section
variable {H : Type} {enc : TypeId × Value → H} {P : Program} {w : World} {base : Nat} {spare : Nat → Bool} {held : Bool}
theorem open_rowD {α : Type} (f : α → List Value) (rel : α → DataW H → Prop) (x0 : α) {sz : Nat} {tS e : TypeId} (hS : P.underlying tS = some (.slice e)) (hC : P.cellsOf e = sz) (h0 : 0 < sz) (hf : ∀ x, (f x).length = sz)
    (hel : ∀ n cs y, DataW.trod enc P w base spare held n e cs = some y → ∃ x, cs = f x ∧ rel x y.1) {fuel : Nat} {cs : List Value} {y : DataW H × List MemPlace} (h : DataW.trod enc P w base spare held fuel tS cs = some y) :
    ∃ (A : Option Addr) (cap : Nat) (L : List α), cs = [.slice A L.length cap] ∧ Sl w sz (.slice A L.length cap) L.length (L.flatMap f) ∧ ((y.1 = .nil ∧ L = []) ∨ ∃ els sp, y.1 = .slice els sp ∧ els.length = L.length ∧ ∀ (i : Nat) (x : α), L[i]? = some x → ∃ d, els[i]? = some d ∧ rel x d) := by
  rcases open_slice hS h with ⟨hc, hx⟩ | ⟨a, len, cap, m, n, D, Pl, hc, _, hl, hm, hmm, hx, hall⟩
  · exact ⟨none, 0, [], hc, Sl.nil w sz, .inl ⟨by rw [hx], rfl⟩⟩
  · have hlm : len ≤ m := by rw [hmm]; split <;> omega
    rw [hC] at hall
    have key : ∀ i, ∃ x : α, i < len → ∃ cs', w.cells? base (a.add (i * sz)) sz = some cs' ∧ cs' = f x ∧ rel x (D i) := fun i => by
      by_cases hi : i < len
      · obtain ⟨cs', hcs, ht⟩ := hall i (by omega)
        obtain ⟨x, hx', hr'⟩ := hel _ _ _ ht
        exact ⟨x, fun _ => ⟨cs', hcs, hx', hr'⟩⟩
      · exact ⟨x0, fun h => absurd h hi⟩
    obtain ⟨g, hg⟩ := Classical.axiomOfChoice key
    have hLl : ((List.range len).map g).length = len := by simp
    refine ⟨some a, cap, (List.range len).map g, by rw [hLl]; exact hc, ?_, .inr ⟨_, _, by rw [hx], by simp, ?_⟩⟩
    rotate_left
    · intro i x hi
      have hil : i < len := by
        have := (List.getElem?_eq_some_iff.1 hi).1
        rwa [hLl] at this
      obtain ⟨cs', hcs, e1, e2⟩ := hg i hil
      have e3 : ((List.range len).map g)[i]? = some (g i) := by simp [hil]
      rw [e3] at hi
      obtain rfl := Option.some.inj hi
      exact ⟨D i, by simp [hil], e2⟩
    rw [hLl]
    by_cases hz : len = 0
    · subst hz
      exact Sl.bare w sz a cap hm
    · obtain ⟨b, o, spot⟩ := a
      have hspot : spot = none := by
        obtain ⟨cs', hcs, e1, _⟩ := hg 0 (by omega)
        obtain ⟨hb, hlen, hcell⟩ := World.cells?_some hcs
        have k0 := hcell 0 (by omega)
        rw [List.getElem?_eq_getElem (by omega)] at k0
        simpa [Addr.add] using World.cell?_spot k0
      subst hspot
      have hcells : ∀ j u, (((List.range len).map g).flatMap f)[j]? = some u → w.cell? ⟨b, o + j, none⟩ = some u := by
        intro j u hu
        have hjl : j < len * sz := by
          have h1 := (List.getElem?_eq_some_iff.1 hu).1
          rwa [flat_len hf, hLl] at h1
        have hdiv : j / sz < len := (Nat.div_lt_iff_lt_mul h0).2 hjl
        have hmod := Nat.mod_lt j h0
        have hj : j = j / sz * sz + j % sz := by rw [Nat.mul_comm]; exact (Nat.div_add_mod j sz).symm
        have hLk : ((List.range len).map g)[j / sz]? = some (g (j / sz)) := by simp [hdiv]
        have hfl := flat_get hf _ (j / sz) (j % sz) _ hLk hmod
        rw [← hj] at hfl
        rw [hfl] at hu
        obtain ⟨cs', hcs, e1, _⟩ := hg (j / sz) hdiv
        subst e1
        obtain ⟨hb, hlen, hcell⟩ := World.cells?_some hcs
        have k := hcell (j % sz) hmod
        rw [hu, add_none, add_none] at k
        rw [hj, ← Nat.add_assoc]
        exact k
      have hC0 : 0 < (((List.range len).map g).flatMap f).length := by
        rw [flat_len hf, hLl]
        exact Nat.mul_pos (by omega) h0
      have hlt := block_lt (hcells 0 _ (List.getElem?_eq_getElem hC0))
      exact Sl.at_ hlt (by rw [flat_len hf, hLl]) hl hm hcells

theorem weightsAll_memb {e : TypeId} : ∀ {l : List (DataW H)} {d : DataW H}, d ∈ l → ∀ n ∈ d.weights P e, n ∈ DataW.weightsAll P e l
  | x :: l, d, hd, n, hn => by
    rw [DataW.weightsAll, List.mem_append]
    rcases List.mem_cons.1 hd with rfl | hd
    · exact .inl hn
    · exact .inr (weightsAll_memb hd n hn)
/-- A slice's element: within the reach, by itself. -/
theorem sized_el {ts : List TypeId} {ds : List (DataW H)} (h : (DataW.weightsEach P ts ds).all (· ≤ reachBytes) = true) {j : Nat} {t e : TypeId} {els sp : List (DataW H)} (ht : ts[j]? = some t) (hd : ds[j]? = some (.slice els sp)) (hu : P.underlying t = some (.slice e))
    {d : DataW H} (hm : d ∈ els) : (DataW.weightsEach P [e] [d]).all (· ≤ reachBytes) = true := by
  rw [List.all_eq_true]
  intro n hn
  refine List.all_eq_true.1 h n (DataW.weights_mem_each ht hd n ?_)
  simp only [DataW.weights, hu]
  refine List.mem_cons_of_mem _ (List.mem_append.2 (.inl (weightsAll_memb hm n ?_)))
  simpa [DataW.weightsEach] using hn
end
end Go.Proofs.Ytlhjlomfpgmdmaa
