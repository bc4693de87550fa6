/- Arguments opened into rows; a law's own call, entered and ended. -/
import Derived.Test.YtlbldfdkicofdaaSxQ
import Derived.Deep.Slices
import Derived.Deep.Fields
import Derived.SizedLaws
import Derived.Lib.SmallJoins
import Derived.WalkLawsBesides
namespace Go.Sx
open Go.RowKit Go.ChangeShapes Go.WideShapes Go.ChangeAt Go.Joins Go.Deep
set_option linter.unusedVariables false
set_option linter.unusedSimpArgs false
set_option linter.unusedSectionVars false

theorem add_none' (b o j : Nat) : (⟨b, o, none⟩ : Addr).add j = ⟨b, o + j, none⟩ := by unfold Addr.add; split <;> simp_all
theorem block_lt' {W : World} {a : Addr} {v : Value} (h : W.cell? a = some v) : a.block < W.heap.size := by
  by_cases hz : a.block < W.heap.size
  · exact hz
  · have e : W.heap[a.block]? = none := Array.getElem?_eq_none (by omega)
    simp [World.cell?, e] at h
section
variable {H : Type} {enc : TypeId × Value → H} {P : Program} {w : World} {base : Nat} {spare : Nat → Bool} {held : Bool}
theorem open_structX {r : Reach} {b0 : Nat} {t : TypeId} {fs : Array Field} {v : Value} {d : DataW H} {p : List MemPlace} (hs : P.underlying t = some (.struct fs))
    (hv : Value.okWide P w r b0 t v) (h : DataW.Trod enc P w base spare held t v d p) :
    ∃ (cs : List Value) (ys : List (DataW H × List MemPlace)) (n : Nat), v = .agg cs.toArray ∧ cs.length = P.cellsOf t ∧ ys.length = fs.size ∧ d = .agg (ys.map (·.1)) ∧
      ∀ (j : Nat) (f : Field) (y : DataW H × List MemPlace), fs[j]? = some f → ys[j]? = some y → DataW.trod enc P w base spare held n f.type ((cs.drop f.offset).take (P.cellsOf f.type)) = some y := by
  obtain ⟨cs, rfl, hsz⟩ := okWide_struct hs hv
  obtain ⟨l⟩ := cs
  obtain ⟨fuel, hf⟩ := h
  obtain ⟨xs, n, _, hx, _, hlen, hg⟩ := DataW.trod_struct hs hf
  simp only [Prod.mk.injEq] at hx
  refine ⟨l, xs, n, rfl, hsz, hlen, hx.1, fun j f y hfj hy => ?_⟩
  have h1 := hg j f hfj
  rw [hy] at h1
  exact h1
theorem open_subX {t : TypeId} {fs : Array Field} {fuel : Nat} {cs : List Value} {y : DataW H × List MemPlace} (hs : P.underlying t = some (.struct fs)) (h : DataW.trod enc P w base spare held fuel t cs = some y) :
    ∃ (ys : List (DataW H × List MemPlace)) (n : Nat), cs.length = P.cellsOf t ∧ ys.length = fs.size ∧ y.1 = .agg (ys.map (·.1)) ∧
      ∀ (j : Nat) (f : Field) (y : DataW H × List MemPlace), fs[j]? = some f → ys[j]? = some y → DataW.trod enc P w base spare held n f.type ((cs.drop f.offset).take (P.cellsOf f.type)) = some y := by
  obtain ⟨xs, n, _, hx, hc, hlen, hg⟩ := DataW.trod_struct hs h
  refine ⟨xs, n, hc, hlen, by rw [hx], fun j f y hfj hy => ?_⟩
  have h1 := hg j f hfj
  rw [hy] at h1
  exact h1
theorem trod_one {fuel : Nat} {t : TypeId} {c : Value} {y : DataW H × List MemPlace} (h : DataW.trod enc P w base spare held fuel t [c] = some y) : True := trivial

/-- A slice of elements, each of which reads as some x by its cells g x, and reads as what rel says. -/
theorem open_rowX {α : Type} (f : α → List At) (g : α → List Value) (hden : ∀ ρ x, dens ρ (f x) = some (g x)) (rel : α → DataW H → Prop) (x0 : α) {sz : Nat} {tS e : TypeId} (hS : P.underlying tS = some (.slice e)) (hC : P.cellsOf e = sz) (hf : ∀ x, (g x).length = sz) (h0 : 0 < sz)
    (hel : ∀ n cs y, DataW.trod enc P w base spare held n e cs = some y → ∃ x, cs = g x ∧ rel x y.1) {fuel : Nat} {cs : List Value} {y : DataW H × List MemPlace} (h : DataW.trod enc P w base spare held fuel tS cs = some y) :
    ∃ (c : Value) (L : List α), cs = [c] ∧ (∀ W ρ, RowOk W ρ w c (rowL sz f x0 L)) ∧ ((y.1 = .nil ∧ L = []) ∨ ∃ els sp, y.1 = .slice els sp ∧ els.length = L.length ∧ ∀ (i : Nat) (x : α), L[i]? = some x → ∃ d, els[i]? = some d ∧ rel x d) := by
  rcases open_slice hS h with ⟨hc, hx⟩ | ⟨a, len, cap, m, n, D, Pl, hc, _, hl, hm, hmm, hx, hall⟩
  · exact ⟨_, [], hc, fun W ρ => ⟨⟨none, 0, rfl, Nat.le_refl _, Nat.zero_le _, fun _ => rfl, (fun e => by cases e), fun h => by simp [rowL] at h, fun e he => by cases he⟩, fun i hi => by simp [rowL] at hi, fun hn => by cases hn⟩, .inl ⟨by rw [hx], rfl⟩⟩
  · have hlm : len ≤ m := by rw [hmm]; split <;> omega
    rw [hC] at hall
    have key : ∀ i, ∃ x : α, i < len → ∃ cs', w.cells? base (a.add (i * sz)) sz = some cs' ∧ cs' = g x ∧ rel x (D i) := fun i => by
      by_cases hi : i < len
      · obtain ⟨cs', hcs, ht⟩ := hall i (by omega)
        obtain ⟨x, hx', hr'⟩ := hel _ _ _ ht
        exact ⟨x, fun _ => ⟨cs', hcs, hx', hr'⟩⟩
      · exact ⟨x0, fun h => absurd h hi⟩
    obtain ⟨gg, hg⟩ := Classical.axiomOfChoice key
    have hLl : ((List.range len).map gg).length = len := by simp
    have hLg : ∀ i, i < len → ((List.range len).map gg).getD i x0 = gg i := fun i hi => by simp [List.getD_eq_getElem?_getD, hi]
    refine ⟨_, (List.range len).map gg, hc, fun W ρ => ⟨⟨some a, cap, by simp [rowL], by simpa [rowL] using hl, hm, (fun e => by cases e), (fun e => by cases e), fun h1 => ?_, fun e he => by cases he⟩, fun i hi => ⟨_, hden ρ _, hf _⟩, fun hn => by cases hn⟩, .inr ⟨_, _, by rw [hx], by simp, ?_⟩⟩
    · have hlen : 0 < len := by simpa [rowL] using h1
      obtain ⟨b, o, spot⟩ := a
      have hspot : spot = none := by
        obtain ⟨cs', hcs, e1, _⟩ := hg 0 hlen
        obtain ⟨hb, hlen', hcell⟩ := World.cells?_some hcs
        have k0 := hcell 0 (by omega)
        rw [List.getElem?_eq_getElem (by omega)] at k0
        simpa [Addr.add] using World.cell?_spot k0
      subst hspot
      have hcells : ∀ i, i < len → ∀ j u, (g (gg i))[j]? = some u → w.cell? ⟨b, o + i * sz + j, none⟩ = some u := by
        intro i hi j u hu
        obtain ⟨cs', hcs, e1, _⟩ := hg i hi
        subst e1
        obtain ⟨hb, hlen', hcell⟩ := World.cells?_some hcs
        have hj : j < sz := by rw [← hf (gg i)]; exact (List.getElem?_eq_some_iff.1 hu).1
        have k := hcell j (by omega)
        rw [hu, add_none', add_none'] at k
        exact k
      refine ⟨b, o, rfl, ?_, fun i vs hi hd j u hu => ?_⟩
      · have hx0 : 0 < (g (gg 0)).length := by rw [hf]; omega
        exact block_lt' (hcells 0 hlen 0 _ (List.getElem?_eq_getElem hx0))
      · have hi' : i < len := by simpa [rowL] using hi
        simp only [rowL] at hd
        rw [hLg i hi', hden] at hd
        obtain rfl := Option.some.inj hd
        exact hcells i hi' j u hu
    · intro i x hi
      have hil : i < len := by
        have := (List.getElem?_eq_some_iff.1 hi).1
        rwa [hLl] at this
      obtain ⟨cs', hcs, e1, e2⟩ := hg i hil
      have e3 : ((List.range len).map gg)[i]? = some (gg i) := by simp [hil]
      rw [e3] at hi
      obtain rfl := Option.some.inj hi
      exact ⟨D i, by simp [hil], e2⟩
/-- The same, where what an element reads as hangs on what is known (K), of elements that are right (ok). -/
theorem open_rowIX {α : Type} (f : α → List At) (g : α → List Value) (ok : α → Prop) (K : Env → Prop) (hden : ∀ ρ x, K ρ → ok x → dens ρ (f x) = some (g x)) (rel : α → DataW H → Prop) (x0 : α) {sz : Nat} {tS e : TypeId} (hS : P.underlying tS = some (.slice e)) (hC : P.cellsOf e = sz) (hf : ∀ x, (g x).length = sz) (h0 : 0 < sz)
    (hel : ∀ n cs y, DataW.trod enc P w base spare held n e cs = some y → ∃ x, cs = g x ∧ ok x ∧ rel x y.1) {fuel : Nat} {cs : List Value} {y : DataW H × List MemPlace} (h : DataW.trod enc P w base spare held fuel tS cs = some y) :
    ∃ (c : Value) (L : List α), cs = [c] ∧ (∀ x ∈ L, ok x) ∧ (∀ W ρ, K ρ → RowOk W ρ w c (rowL sz f x0 L)) ∧ ((y.1 = .nil ∧ L = []) ∨ ∃ els sp, y.1 = .slice els sp ∧ els.length = L.length ∧ ∀ (i : Nat) (x : α), L[i]? = some x → ∃ d, els[i]? = some d ∧ rel x d) := by
  rcases open_slice hS h with ⟨hc, hx⟩ | ⟨a, len, cap, m, n, D, Pl, hc, _, hl, hm, hmm, hx, hall⟩
  · exact ⟨_, [], hc, (fun x hx => by cases hx), fun W ρ _ => ⟨⟨none, 0, rfl, Nat.le_refl _, Nat.zero_le _, fun _ => rfl, (fun e => by cases e), fun h => by simp [rowL] at h, fun e he => by cases he⟩, fun i hi => by simp [rowL] at hi, fun hn => by cases hn⟩, .inl ⟨by rw [hx], rfl⟩⟩
  · have hlm : len ≤ m := by rw [hmm]; split <;> omega
    rw [hC] at hall
    have key : ∀ i, ∃ x : α, i < len → ∃ cs', w.cells? base (a.add (i * sz)) sz = some cs' ∧ cs' = g x ∧ ok x ∧ rel x (D i) := fun i => by
      by_cases hi : i < len
      · obtain ⟨cs', hcs, ht⟩ := hall i (by omega)
        obtain ⟨x, hx', hr'⟩ := hel _ _ _ ht
        exact ⟨x, fun _ => ⟨cs', hcs, hx', hr'⟩⟩
      · exact ⟨x0, fun h => absurd h hi⟩
    obtain ⟨gg, hg⟩ := Classical.axiomOfChoice key
    have hLl : ((List.range len).map gg).length = len := by simp
    have hLg : ∀ i, i < len → ((List.range len).map gg).getD i x0 = gg i := fun i hi => by simp [List.getD_eq_getElem?_getD, hi]
    have hok : ∀ i, i < len → ok (gg i) := fun i hi => by obtain ⟨_, _, _, h, _⟩ := hg i hi; exact h
    refine ⟨_, (List.range len).map gg, hc, (fun x hx => by
      obtain ⟨i, hi, rfl⟩ := List.mem_map.1 hx
      exact hok i (by simpa using hi)), fun W ρ hK => ⟨⟨some a, cap, by simp [rowL], by simpa [rowL] using hl, hm, (fun e => by cases e), (fun e => by cases e), fun h1 => ?_, fun e he => by cases he⟩, fun i hi => ?_, fun hn => by cases hn⟩, .inr ⟨_, _, by rw [hx], by simp, ?_⟩⟩
    · have hlen : 0 < len := by simpa [rowL] using h1
      obtain ⟨b, o, spot⟩ := a
      have hspot : spot = none := by
        obtain ⟨cs', hcs, e1, _⟩ := hg 0 hlen
        obtain ⟨hb, hlen', hcell⟩ := World.cells?_some hcs
        have k0 := hcell 0 (by omega)
        rw [List.getElem?_eq_getElem (by omega)] at k0
        simpa [Addr.add] using World.cell?_spot k0
      subst hspot
      have hcells : ∀ i, i < len → ∀ j u, (g (gg i))[j]? = some u → w.cell? ⟨b, o + i * sz + j, none⟩ = some u := by
        intro i hi j u hu
        obtain ⟨cs', hcs, e1, _⟩ := hg i hi
        subst e1
        obtain ⟨hb, hlen', hcell⟩ := World.cells?_some hcs
        have hj : j < sz := by rw [← hf (gg i)]; exact (List.getElem?_eq_some_iff.1 hu).1
        have k := hcell j (by omega)
        rw [hu, add_none', add_none'] at k
        exact k
      refine ⟨b, o, rfl, ?_, fun i vs hi hd j u hu => ?_⟩
      · have hx0 : 0 < (g (gg 0)).length := by rw [hf]; omega
        exact block_lt' (hcells 0 hlen 0 _ (List.getElem?_eq_getElem hx0))
      · have hi' : i < len := by simpa [rowL] using hi
        simp only [rowL] at hd
        rw [hLg i hi', hden _ _ hK (hok i hi')] at hd
        obtain rfl := Option.some.inj hd
        exact hcells i hi' j u hu
    · have hi' : i < len := by simpa [rowL] using hi
      refine ⟨_, ?_, hf (gg i)⟩
      show dens ρ (f _) = _
      rw [hLg i hi']
      exact hden _ _ hK (hok i hi')
    · intro i x hi
      have hil : i < len := by
        have := (List.getElem?_eq_some_iff.1 hi).1
        rwa [hLl] at this
      obtain ⟨cs', hcs, e1, _, e2⟩ := hg i hil
      have e3 : ((List.range len).map gg)[i]? = some (gg i) := by simp [hil]
      rw [e3] at hi
      obtain rfl := Option.some.inj hi
      exact ⟨D i, by simp [hil], e2⟩
/-- A slice that lies in a row of slices: its value, what it reads as. -/
structure RV (α : Type) where
  c : Value
  L : List α
def RV.at_ {α : Type} (sz : Nat) (g : α → List Value) (x0 : α) (r : RV α) : At := .ro r.c sz r.L.length (fun i => g (r.L.getD i x0))
theorem InnOk.of_row {α : Type} {f : α → List At} {g : α → List Value} (hden : ∀ ρ x, dens ρ (f x) = some (g x)) {x0 : α} {sz : Nat} (hf : ∀ x, (g x).length = sz) {c : Value} {L : List α} (h : ∀ W ρ, RowOk W ρ w c (rowL sz f x0 L)) :
    InnOk ⟨w, none, [], []⟩ c sz L.length (fun i => g (L.getD i x0)) := by
  have h1 := h ⟨w, none, [], []⟩ ⟨fun _ => none, fun _ => none, fun _ _ _ _ => False⟩
  obtain ⟨A, cap, hv, hc, hm, _, _, h2, _⟩ := h1.form
  refine ⟨⟨A, cap, hv, hc, hm, fun hl => ?_⟩, fun i hi => ⟨hf _, dens_one (hden ⟨fun _ => none, fun _ => none, fun _ _ _ _ => False⟩ _)⟩⟩
  obtain ⟨b, o, hA, hlt, hcell⟩ := h2 hl
  exact ⟨b, o, hA, hlt, (by simp), fun i j u hi hu => hcell i _ hi (hden _ _) j u hu⟩
/-- A slice of slices. -/
theorem open_rowsX {α : Type} (f : α → List At) (g : α → List Value) (hden : ∀ ρ x, dens ρ (f x) = some (g x)) (rel : α → DataW H → Prop) (x0 : α) {sz : Nat} {tSS tS e : TypeId} (hSS : P.underlying tSS = some (.slice tS)) (hS : P.underlying tS = some (.slice e)) (hC1 : P.cellsOf tS = 1) (hC : P.cellsOf e = sz) (hf : ∀ x, (g x).length = sz) (h0 : 0 < sz)
    (hel : ∀ n cs y, DataW.trod enc P w base spare held n e cs = some y → ∃ x, cs = g x ∧ rel x y.1) {fuel : Nat} {cs : List Value} {y : DataW H × List MemPlace} (h : DataW.trod enc P w base spare held fuel tSS cs = some y) :
    ∃ (c : Value) (L : List (RV α)), cs = [c] ∧ (∀ W ρ, (∀ c sz len cells, InnOk ⟨w, none, [], []⟩ c sz len cells → ρ.ι c sz len cells) → RowOk W ρ w c (rowL 1 (fun r => [RV.at_ sz g x0 r]) ⟨.slice none 0 0, []⟩ L)) ∧
      ((y.1 = .nil ∧ L = []) ∨ ∃ els sp, y.1 = .slice els sp ∧ els.length = L.length ∧ ∀ (i : Nat) (x : RV α), L[i]? = some x → ∃ d, els[i]? = some d ∧
        ((d = .nil ∧ x.L = []) ∨ ∃ els sp, d = .slice els sp ∧ els.length = x.L.length ∧ ∀ (i : Nat) (z : α), x.L[i]? = some z → ∃ d, els[i]? = some d ∧ rel z d)) := by
  have h1 := open_rowIX (fun r : RV α => [RV.at_ sz g x0 r]) (fun r => [r.c]) (fun r => InnOk ⟨w, none, [], []⟩ r.c sz r.L.length (fun i => g (r.L.getD i x0)))
    (fun ρ => ∀ c sz len cells, InnOk ⟨w, none, [], []⟩ c sz len cells → ρ.ι c sz len cells) (fun ρ r hK hr => by
      obtain ⟨A, cap, hv, _⟩ := hr.form
      refine dens_mk ?_ rfl
      simp only [RV.at_, At.den]
      rw [if_pos (hK _ _ _ _ hr), hv])
    (fun (r : RV α) d => (d = .nil ∧ r.L = []) ∨ ∃ els sp, d = .slice els sp ∧ els.length = r.L.length ∧ ∀ (i : Nat) (z : α), r.L[i]? = some z → ∃ d, els[i]? = some d ∧ rel z d)
    (⟨.slice none 0 0, []⟩ : RV α) hSS hC1 (fun _ => rfl) (by omega) (fun n cs y hy => by
      obtain ⟨c, L, hc, hrow, hrel⟩ := open_rowX f g hden rel x0 hS hC hf h0 hel hy
      exact ⟨⟨c, L⟩, hc, InnOk.of_row hden hf hrow, hrel⟩) h
  obtain ⟨c, L, hc, _, hrow, hrel⟩ := h1
  exact ⟨c, L, hc, hrow, hrel⟩
theorem sized_aggX {ts : List TypeId} {ds : List (DataW H)} (h : (DataW.weightsEach P ts ds).all (· ≤ reachBytes) = true) {j : Nat} {t : TypeId} {fs : Array Field} {xs : List (DataW H)} (ht : ts[j]? = some t) (hd : ds[j]? = some (.agg xs)) (hu : P.underlying t = some (.struct fs)) :
    (DataW.weightsEach P (fs.toList.map (·.type)) xs).all (· ≤ reachBytes) = true := by
  rw [List.all_eq_true]
  intro n hn
  refine List.all_eq_true.1 h n (DataW.weights_mem_each ht hd n ?_)
  simp only [DataW.weights, hu]
  exact hn
theorem weightsAll_memX {e : TypeId} : ∀ {l : List (DataW H)} {d : DataW H}, d ∈ l → ∀ n ∈ d.weights P e, n ∈ DataW.weightsAll P e l
  | x :: l, d, hd, n, hn => by
    rw [DataW.weightsAll, List.mem_append]
    rcases List.mem_cons.1 hd with rfl | hd
    · exact .inl hn
    · exact .inr (weightsAll_memX hd n hn)
/-- A slice's element: within the reach, by itself. -/
theorem sized_elX {ts : List TypeId} {ds : List (DataW H)} (h : (DataW.weightsEach P ts ds).all (· ≤ reachBytes) = true) {j : Nat} {t e : TypeId} {els sp : List (DataW H)} (ht : ts[j]? = some t) (hd : ds[j]? = some (.slice els sp)) (hu : P.underlying t = some (.slice e))
    {d : DataW H} (hm : d ∈ els) : (DataW.weightsEach P [e] [d]).all (· ≤ reachBytes) = true := by
  rw [List.all_eq_true]
  intro n hn
  refine List.all_eq_true.1 h n (DataW.weights_mem_each ht hd n ?_)
  simp only [DataW.weights, hu]
  refine List.mem_cons_of_mem _ (List.mem_append.2 (.inl (weightsAll_memX hm n ?_)))
  simpa [DataW.weightsEach] using hn
theorem sized_rowX {ts : List TypeId} {ds : List (DataW H)} {j : Nat} {dr : DataW H} {n B : Nat} {t e : TypeId} (h : (DataW.weightsEach P ts ds).all (· ≤ reachBytes) = true) (ht : ts[j]? = some t) (hd : ds[j]? = some dr) (hu : P.underlying t = some (.slice e)) (hB : P.bytesOf e = B)
    (hdr : (dr = .nil ∧ n = 0) ∨ ∃ els sp, dr = .slice els sp ∧ els.length = n) : n * B ≤ 140737488351232 := by
  rcases hdr with ⟨_, rfl⟩ | ⟨els, sp, rfl, hl⟩
  · simp
  · have h1 := sized_slice h ht hd hu
    rw [hB] at h1
    have : reachBytes = 140737488351232 := by decide
    subst hl
    have h2 : els.length * B ≤ (els.length + sp.length) * B := Nat.mul_le_mul_right _ (by omega)
    omega
end

section
variable {P : Program} {f : FuncId}
inductive TopRows (w : World) : List Value → List Row → Prop
  | nil : TopRows w [] []
  | cons {u : Value} {R : Row} {us : List Value} {Rs : List Row} (h : ∀ W ρ, RowOk W ρ w u R) (ho : R.own = none) (t : TopRows w us Rs) : TopRows w (u :: us) (R :: Rs)
  /-- A row of slices. -/
  | consI {u : Value} {R : Row} {us : List Value} {Rs : List Row} (h : ∀ W ρ, (∀ c sz len cells, InnOk ⟨w, none, [], []⟩ c sz len cells → ρ.ι c sz len cells) → RowOk W ρ w u R) (ho : R.own = none) (t : TopRows w us Rs) : TopRows w (u :: us) (R :: Rs)
theorem TopRows.len {w : World} {us : List Value} {Rs : List Row} (h : TopRows w us Rs) : us.length = Rs.length := by
  induction h with
  | nil => rfl
  | cons _ _ _ ih => simp [ih]
  | consI _ _ _ ih => simp [ih]
theorem TopRows.get {w : World} {us : List Value} {Rs : List Row} (h : TopRows w us Rs) : ∀ (k : Nat) R u, Rs[k]? = some R → us[k]? = some u → (∀ W ρ, (∀ c sz len cells, InnOk ⟨w, none, [], []⟩ c sz len cells → ρ.ι c sz len cells) → RowOk W ρ w u R) ∧ R.own = none := by
  induction h with
  | nil => intro k R u h; simp at h
  | cons h ho t ih =>
    intro k R u hR hu
    cases k with
    | zero => simp at hR hu; subst hR hu; exact ⟨fun W ρ _ => h W ρ, ho⟩
    | succ k => exact ih k R u (by simpa using hR) (by simpa using hu)
  | consI h ho t ih =>
    intro k R u hR hu
    cases k with
    | zero => simp at hR hu; subst hR hu; exact ⟨h, ho⟩
    | succ k => exact ih k R u (by simpa using hR) (by simpa using hu)
/-- Into a law's own call: its arguments as they are known, the rows that they lead to. -/
theorem calls_top {f : FuncId} {fn : Func} {c : Code} {args : Array Value} {w : World} {R : Ending → World → Prop} (hf : P.funcs[f]? = some fn) (hb : fn.body = some c) (vals : List Value) (rows : List Row) (F : List SV) (hrows : TopRows w vals rows)
    (hargs : reps ⟨fun _ => none, fun r => vals[r]?, fun c sz len cells => InnOk ⟨w, none, [], []⟩ c sz len cells⟩ F args.toList)
    (h : SG P ⟨f, none, []⟩ R ⟨w, none, [], []⟩ [.code c] ⟨F ++ List.replicate (fn.ntmps - F.length) (.tup []), [], rows.map some, []⟩) : Calls P f args w R :=
  calls_enter none hf hb vals rows F hrows.len (fun _ _ _ _ h => h) (fun k R u hR hu => (hrows.get k R u hR hu).1 _ _ (fun _ _ _ _ h => h)) (fun k k' R R' u u' b _ hR hu _ _ ho => by rw [(hrows.get k R u hR hu).2] at ho; simp at ho) hargs h
theorem top_true {w w' : World} {s : St} {ρ : Env} {v : Value} {b : Bool} (hm : Mem ⟨w, none, [], []⟩ s ρ w') (hv : (resSV [.one (.lb b)]).rep ρ v) (hb : b = true) : (Ending.returned v) = .returned (.bool true) ∧ Below w.heap.size w w' := by
  subst hb
  refine ⟨?_, hm.below.below⟩
  simp only [resSV, SV.rep, Cv.den, At.den] at hv
  simpa using hv.symm
theorem top_v {w w' : World} {s : St} {ρ : Env} {v : Value} {b : Bool} (hm : Mem ⟨w, none, [], []⟩ s ρ w') (hv : (resSV [.one (.v (.bool b))]).rep ρ v) (hb : b = true) : (Ending.returned v) = .returned (.bool true) ∧ Below w.heap.size w w' := top_true (b := b) hm hv hb
end
end Go.Sx
