/- Regions whose order is drawn: each operation is known to come to the same, whenever its turn is. -/
import Derived.Test.YtlbldfdkicofdaaSxI
namespace Go.Sx
open Go.RowKit
set_option linter.unusedVariables false
set_option linter.unusedSimpArgs false
set_option linter.unusedSectionVars false

/-! ### Whatever order the edges allow -/
theorem edgesOk_get : ∀ {os : List Oper} {n i : Nat} {o : Oper}, edgesOk os n = true → os[i]? = some o → ∀ e ∈ o.after.toList, Region.binds .any e = true → e.on < n + i
  | [], n, i, o, _, hi, e, _, _ => by simp at hi
  | x :: l, n, 0, o, h, hi, e, he, hb => by
    simp at hi; subst hi
    simp only [edgesOk, Bool.and_eq_true, List.all_eq_true] at h
    have := h.1 e he
    simpa [hb] using this
  | x :: l, n, i + 1, o, h, hi, e, he, hb => by
    simp only [List.getElem?_cons_succ] at hi
    simp only [edgesOk, Bool.and_eq_true] at h
    have := edgesOk_get h.2 hi e he hb
    omega
def listedF (l : Array Bool) (i : Nat) : Prop := l.getD i false = true
section
variable {P : Program} {f : Fr} {R : Ending → World → Prop} {k : List Item} {ops : Array Oper}
theorem ready_mem {l : Array Bool} (hl : l.size = ops.size) {i : Nat} (h : i ∈ Region.ready .any ops l) : ∃ o, ops[i]? = some o ∧ ¬ listedF l i ∧ ∀ e ∈ o.after.toList, Region.binds .any e = true → listedF l e.on := by
  simp only [Region.ready, List.mem_filter, List.mem_range, Bool.and_eq_true, Bool.not_eq_true'] at h
  obtain ⟨hi, h1, h2⟩ := h
  have ho : ops[i]? = some ops[i] := by simp [hi]
  refine ⟨_, ho, ?_, fun e he hb => ?_⟩
  · unfold listedF
    have : l.getD i false = l.getD i true := by simp [Array.getD, hl, hi]
    rw [this, h1]; simp
  · rw [ho] at h2
    simp only [Option.map_some, Option.getD_some, Array.all_eq_true'] at h2
    have := h2 e (by simpa using he)
    simpa [hb, listedF] using this
theorem ready_nil {l : Array Bool} (hl : l.size = ops.size) (he : edgesOk ops.toList 0 = true) (h : Region.ready .any ops l = []) : ∀ i, i < ops.size → listedF l i := by
  intro i
  induction i using Nat.strongRecOn with
  | _ i ih =>
    intro hi
    have hn : i ∉ Region.ready .any ops l := by rw [h]; simp
    unfold listedF
    by_cases hc : l.getD i false = true
    · exact hc
    · exfalso
      apply hn
      simp only [Region.ready, List.mem_filter, List.mem_range, Bool.and_eq_true, Bool.not_eq_true']
      refine ⟨hi, ?_, ?_⟩
      · have : l.getD i true = l.getD i false := by simp [Array.getD, hl, hi]
        rw [this]; simpa using hc
      · have ho : ops[i]? = some ops[i] := by simp [hi]
        rw [ho]
        simp only [Option.map_some, Option.getD_some, Array.all_eq_true']
        intro e hm
        by_cases hb : Region.binds .any e = true
        · have hlt : e.on < i := by
            have := edgesOk_get he (i := i) (o := ops[i]) (by simp [hi]) e (by simpa using hm) hb
            omega
          have := ih e.on hlt (by omega)
          simp only [listedF] at this
          simp [this]
        · simp [hb]
theorem listed_set {l : Array Bool} {i j : Nat} (hi : i < l.size) : listedF (l.setIfInBounds i true) j ↔ (j = i ∨ listedF l j) := by
  unfold listedF
  by_cases h : j = i
  · subst h; simp [Array.getD, hi]
  · simp only [h, false_or]
    by_cases hj : j < l.size
    · simp [Array.getD, hj, Array.getElem_setIfInBounds, Ne.symm h]
    · simp [Array.getD, hj]

theorem toList_getD (a : Array Bool) (q : Nat) (h : q < a.toList.length) : a.toList[q] = a.getD q false := by
  have : q < a.size := by simpa using h
  simp [Array.getD, this]
/-- A tail of operations, each behind the one ahead of it, comes in its order. -/
theorem tail_go (he : edgesOk ops.toList 0 = true) (m : Nat) (tailE : ∀ (i : Nat) o, m < i → ops[i]? = some o → ∃ e ∈ o.after.toList, Region.binds .any e = true ∧ e.on + 1 = i) :
    ∀ (fuel c t : Nat) (l : Array Bool), l.size = ops.size → (∀ j, j < ops.size → (listedF l j ↔ j < c)) → m < c → c ≤ ops.size → ops.size - c ≤ fuel → Region.linearise.go .any ops fuel t l [] = List.range' c (ops.size - c) := by
  intro fuel
  induction fuel with
  | zero =>
    intro c t l hl hc hmc hcn hf
    have : ops.size - c = 0 := by omega
    rw [this]
    simp [Region.linearise.go]
  | succ fuel ih =>
    intro c t l hl hc hmc hcn hf
    simp only [Region.linearise.go]
    change (match (Region.ready .any ops l)[t % (Region.ready .any ops l).length]? with
      | some i => Region.linearise.go .any ops fuel (t / (Region.ready .any ops l).length) (l.setIfInBounds i true) [i]
      | none => [].reverse) = _
    cases hi : (Region.ready .any ops l)[t % (Region.ready .any ops l).length]? with
    | none =>
      have hnil : Region.ready .any ops l = [] := by
        cases hr : Region.ready .any ops l with
        | nil => rfl
        | cons x xs =>
          rw [hr] at hi
          have hlt : t % (x :: xs).length < (x :: xs).length := Nat.mod_lt _ (by simp)
          simp at hi
          simp at hlt
          omega
      have hall := ready_nil hl he hnil
      have h0 : ops.size - c = 0 := by
        rcases Nat.lt_or_ge c ops.size with h | h
        · have := (hc c h).1 (hall c h); omega
        · omega
      rw [h0]; rfl
    | some i =>
      simp only []
      rw [linearise_go_acc, List.reverse_singleton, List.singleton_append]
      obtain ⟨o, ho, hni, hed⟩ := ready_mem hl (List.mem_of_getElem? hi)
      have hilt : i < ops.size := (Array.getElem?_eq_some_iff.1 ho).1
      have hic : c ≤ i := by
        rcases Nat.lt_or_ge i c with h | h
        · exact absurd ((hc i hilt).2 h) hni
        · exact h
      have hie : i = c := by
        rcases Nat.lt_or_ge c i with h | h
        · exfalso
          obtain ⟨e, h1, h2, h3⟩ := tailE i o (by omega) ho
          have := (hc e.on (by omega)).1 (hed e h1 h2)
          omega
        · omega
      subst hie
      rw [ih (i + 1) _ (l.setIfInBounds i true) (by simpa using hl) (fun j hj => by rw [listed_set (by omega), hc j hj]; omega) (by omega) (by omega) (by omega)]
      rw [show ops.size - i = (ops.size - (i + 1)) + 1 by omega, List.range'_succ]
/-- In whatever order: what holds of what has been listed goes on, one operation after the other. m: the operations that may come in any order; the others, behind all of them, in their order. -/
theorem good_any (he : edgesOk ops.toList 0 = true) (J : (Nat → Prop) → Act → World → Prop) (m : Nat) (hm : m ≤ ops.size) (tailE : ∀ (i : Nat) o, m < i → ops[i]? = some o → ∃ e ∈ o.after.toList, Region.binds .any e = true ∧ e.on + 1 = i)
    (step : ∀ (S : Nat → Prop) (i : Nat) (o : Oper) (a : Act) (w : World) (rest : List Nat), i < m → ops[i]? = some o → ¬ S i → (∀ e ∈ o.after.toList, Region.binds .any e = true → S e.on) → J S a w →
      (∀ a' w', J (fun j => j = i ∨ S j) a' w' → Good P f R (.inRegion ops rest :: k) a' w') → Good P f R (.inRegion ops (i :: rest) :: k) a w)
    (lastAnc : ∀ (S : Nat → Prop) a w, J S a w → ∀ o, ops[m]? = some o → (∀ e ∈ o.after.toList, Region.binds .any e = true → S e.on) → ∀ j, j < m → S j)
    (fin : ∀ (S : Nat → Prop) a w, J S a w → (∀ j, j < m → S j) → Good P f R (.inRegion ops (List.range' m (ops.size - m)) :: k) a w)
    (hJ : ∀ (S S' : Nat → Prop) a w, (∀ j, S j ↔ S' j) → J S a w → J S' a w) :
    ∀ (fuel t : Nat) (l : Array Bool) (a : Act) (w : World), l.size = ops.size → (∀ j, m ≤ j → ¬ listedF l j) → (l.toList.filter (· == false)).length = fuel → J (listedF l) a w → Good P f R (.inRegion ops (Region.linearise.go .any ops fuel t l []) :: k) a w := by
  intro fuel
  induction fuel with
  | zero =>
    intro t l a w hl hlast hfuel hj
    have hall : ∀ j, j < ops.size → listedF l j := by
      intro j hj'
      unfold listedF
      have hz : l.toList.filter (· == false) = [] := List.eq_nil_of_length_eq_zero hfuel
      have := List.filter_eq_nil_iff.1 hz l[j] (by simp)
      simp [Array.getD, hl, hj'] at this ⊢
      exact this
    have hmm : ops.size - m = 0 := by
      rcases Nat.lt_or_ge m ops.size with h | h
      · exact absurd (hall m h) (hlast m (Nat.le_refl _))
      · omega
    have := fin _ a w hj (fun j hj' => hall j (by omega))
    rw [hmm] at this
    simpa [Region.linearise.go] using this
  | succ fuel ih =>
    intro t l a w hl hlast hfuel hj
    simp only [Region.linearise.go]
    change Good P f R (.inRegion ops (match (Region.ready .any ops l)[t % (Region.ready .any ops l).length]? with
      | some i => Region.linearise.go .any ops fuel (t / (Region.ready .any ops l).length) (l.setIfInBounds i true) [i]
      | none => [].reverse) :: k) a w
    cases hi : (Region.ready .any ops l)[t % (Region.ready .any ops l).length]? with
    | none =>
      have hnil : Region.ready .any ops l = [] := by
        cases hr : Region.ready .any ops l with
        | nil => rfl
        | cons x xs =>
          rw [hr] at hi
          have hlt : t % (x :: xs).length < (x :: xs).length := Nat.mod_lt _ (by simp)
          simp at hi
          simp at hlt
          omega
      have hall := ready_nil hl he hnil
      have hmm : ops.size - m = 0 := by
        rcases Nat.lt_or_ge m ops.size with h | h
        · exact absurd (hall m h) (hlast m (Nat.le_refl _))
        · omega
      have := fin _ a w hj (fun j hj' => hall j (by omega))
      rw [hmm] at this
      simpa using this
    | some i =>
      simp only []
      rw [linearise_go_acc, List.reverse_singleton, List.singleton_append]
      obtain ⟨o, ho, hni, hed⟩ := ready_mem hl (List.mem_of_getElem? hi)
      have hilt : i < ops.size := (Array.getElem?_eq_some_iff.1 ho).1
      have hcount : ((l.setIfInBounds i true).toList.filter (· == false)).length = fuel := by
        have hset : (l.setIfInBounds i true).toList = l.toList.set i true := by simp
        have hli : l.toList[i]? = some false := by
          unfold listedF at hni
          simp [Array.getD, hl, hilt] at hni ⊢
          exact hni
        rw [hset]
        have key : ∀ (L : List Bool) (i : Nat), L[i]? = some false → ((L.set i true).filter (· == false)).length + 1 = (L.filter (· == false)).length := by
          intro L
          induction L with
          | nil => intro i h; simp at h
          | cons b L ihL =>
            intro i h
            cases i with
            | zero => simp at h; subst h; simp
            | succ i =>
              simp at h
              have := ihL i h
              cases b <;> simp_all <;> omega
        have := key l.toList i hli
        omega
      by_cases him : i < m
      · refine step _ i o a w _ him ho hni hed hj fun a' w' hj' => ih _ _ _ _ (by simpa using hl) (fun j hjm => ?_) hcount (hJ _ _ _ _ (fun j => (listed_set (by omega)).symm) hj')
        rw [listed_set (by omega)]
        rintro (rfl | h)
        · omega
        · exact hlast j hjm h
      · have hie : i = m := by
          rcases Nat.lt_or_ge m i with h | h
          · exfalso
            obtain ⟨e, h1, h2, h3⟩ := tailE i o h ho
            exact hlast e.on (by omega) (hed e h1 h2)
          · omega
        subst hie
        have hall := lastAnc _ a w hj o ho hed
        have hF := fin _ a w hj hall
        have hls : ∀ j, j < ops.size → (listedF (l.setIfInBounds i true) j ↔ j < i + 1) := fun j hj' => by
          rw [listed_set (by omega)]
          constructor
          · rintro (rfl | h)
            · omega
            · rcases Nat.lt_or_ge j i with h' | h'
              · omega
              · exact absurd h (hlast j h')
          · intro h
            rcases Nat.lt_or_ge j i with h' | h'
            · exact .inr (hall j h')
            · exact .inl (by omega)
        have hfl : ops.size - (i + 1) ≤ fuel := by
          rw [← hcount]
          have hsz : (l.setIfInBounds i true).toList.length = ops.size := by simpa using hl
          have heq : (l.setIfInBounds i true).toList = List.replicate (i + 1) true ++ List.replicate (ops.size - (i + 1)) false := by
            apply List.ext_getElem
            · simp [hl]; omega
            · intro q h1 h2
              have hq : q < ops.size := by omega
              have hd : (l.setIfInBounds i true).toList[q] = (l.setIfInBounds i true).getD q false := toList_getD _ q h1
              rw [hd]
              have := hls q hq
              unfold listedF at this
              rcases Nat.lt_or_ge q (i + 1) with h | h
              · rw [this.2 h, List.getElem_append_left (by simpa using h)]; simp
              · rw [List.getElem_append_right (by simpa using h)]
                simp only [List.getElem_replicate]
                cases hb : (l.setIfInBounds i true).getD q false
                · rfl
                · have := this.1 hb; omega
          rw [heq, List.filter_append, List.length_append]
          simp
        rw [tail_go he i tailE fuel (i + 1) _ _ (by simpa using hl) hls (by omega) (by omega) hfl]
        rw [show ops.size - i = (ops.size - (i + 1)) + 1 by omega, List.range'_succ] at hF
        exact hF
theorem good_region_any {id : Nat} {a : Act} {w : World} (hmx : P.follows .mixedOrders = true) (h : ∀ t, Good P f R (.inRegion ops (Region.linearise.go .any ops ops.size t (Array.replicate ops.size false) []) :: k) a { w with drawn := w.drawn + 1 }) :
    Good P f R (.code (.region id ops true) :: k) a w := by
  intro b cs hb hk hro
  have hs := stepR_region_draw (P := P) (b := b) (a := f.act a) (k := k) (cs := cs) (w := w) (ops := ops) (id := id)
  simp only [Region.schedule, hmx, Bool.true_or, if_true] at hs
  exact FinAt.steps (.one hs) (h _ b cs hb hk hro)
end
end Go.Sx
