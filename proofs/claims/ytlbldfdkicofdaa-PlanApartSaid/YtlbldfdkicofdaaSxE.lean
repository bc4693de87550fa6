/- More operations on what is known. -/
import Derived.Test.YtlbldfdkicofdaaSxD
import Derived.ChangeKeysEq
namespace Go.Sx
open Go.RowKit
set_option linter.unusedVariables false
set_option linter.unusedSimpArgs false
set_option linter.unusedSectionVars false

theorem dens_pasted {ρ : Env} {l c : List At} {vs us : List Value} (h : dens ρ l = some vs) (hc : dens ρ c = some us) (o : Nat) : dens ρ (pasted l o c) = some (vs.take o ++ (us ++ vs.drop (o + us.length))) := by
  unfold pasted
  rw [dens_len hc]
  exact dens_append (dens_take o h) (dens_append hc (dens_drop _ h))
theorem run_storeVar_cells {P : Program} {t : TypeId} {ty : Ty} (h : TyOk P t ty) {w : World} {b o : Nat} {v : Value} {cur : List Value} {tt : TypeId} {fz : Nat × Nat} (hv : v.cells.size = ty.size) (h1 : ∀ u ∈ v.cells.toList, u.oneCell' = true)
    (hb : w.heap[b]? = some (.cells cur.toArray tt fz)) (hle : o + ty.size ≤ cur.length) (hfz : Beh cur.toArray fz := by exact Beh.zero _) :
    (storeVar t ⟨b, o, none⟩ v).run P w = .ok () (w.setRow b (cur.take o ++ (v.cells.toList ++ cur.drop (o + v.cells.toList.length))).toArray) := by
  unfold storeVar
  simp only [Sem.run_bind, h.runSize, Result.andThen_ok, hv, ne_eq, not_true_eq_false, if_false]
  have := run_storeCells_beh P b o tt fz v.cells.toList 0 cur.toArray w hb hfz (by simp [hv]; omega) h1
  simp only [Nat.add_zero, List.append_assoc] at this
  simpa using this

theorem paste_get {α : Type} (l us : List α) (o q : Nat) (h : o + us.length ≤ l.length) : (l.take o ++ (us ++ l.drop (o + us.length)))[q]? = if q < o then l[q]? else if q < o + us.length then us[q - o]? else l[q]? := by
  have hlt : (l.take o).length = o := by simp; omega
  by_cases h1 : q < o
  · rw [if_pos h1, List.getElem?_append_left (by omega), List.getElem?_take, if_pos h1]
  · rw [if_neg h1, List.getElem?_append_right (by omega), hlt]
    by_cases h2 : q < o + us.length
    · rw [if_pos h2, List.getElem?_append_left (by omega)]
    · rw [if_neg h2, List.getElem?_append_right (by omega), List.getElem?_drop]
      congr 1; omega
theorem Mem.putRow {W : Base} {s : St} {ρ : Env} {w w' : World} (h : Mem W s ρ w) {r : Nat} {R R' : Row} {v : Value} {b : Nat} (hr : s.R[r]? = some (some R)) (hv : ρ.σ r = some v) (hown : R.own.isSome = true) (hb : R.touch v b) (hW : W.mine b) (hcc : ∃ c t f, w.heap[b]? = some (.cells c t f))
    (h1 : R'.own = R.own) (h2 : R'.len = R.len) (hok : RowOk W ρ w' v R') (hk : ∀ k, k ≠ b → w'.heap[k]? = w.heap[k]?) (hs : w'.heap.size = w.heap.size) (ho : w'.os = w.os ∧ w'.tape = w.tape ∧ w'.output = w.output) :
    Mem W { s with R := setAt s.R r R' } ρ w' := by
  have ht : ∀ v b, R'.touch v b ↔ R.touch v b := fun v b => by unfold Row.touch; rw [h1, h2]
  refine ⟨⟨ho.1.trans h.below.os, ho.2.1.trans h.below.tape, ho.2.2.trans h.below.output, by rw [hs]; exact h.below.size, fun k hkW hg => (hk k (fun e => by subst e; rcases hW with hW | hW; (omega); exact hg hW)).trans (h.below.block k hkW hg), fun k o ho => (hk k (by obtain ⟨c, t, f, hcc⟩ := hcc; exact ob_ne hcc (h.below.objs k o ho))).trans (h.below.objs k o ho), h.below.low, h.below.nd⟩,
    fun j d hj => ?_, h.boxNe, fun r2 R2 hr2 => ?_, fun r2 R2 v2 j d b' hr2 hv2 hj hb' => ?_, fun r2 r3 R2 R3 v2 v3 b' hne hr2 hr3 hv2 hv3 hown2 ht2 => ?_, h.ghost, h.inn⟩
  · obtain ⟨b', us, t', g1, g2, g3, g4⟩ := h.box j d hj
    exact ⟨b', us, t', g1, g2, g3, (hk b' (fun e => by subst e; exact h.rowBox r R v j d b' hr hv hj g1 hb)).trans g4⟩
  · rcases setAt_get _ _ _ _ _ hr2 with ⟨rfl, rfl⟩ | ⟨hne, hr2⟩
    · exact ⟨v, hv, hok⟩
    · obtain ⟨v2, hv2, hok2⟩ := h.row r2 R2 hr2
      exact ⟨v2, hv2, hok2.keep (by omega) fun b' ht' => hk b' (fun e => by subst e; exact h.rowRow r r2 R R2 v v2 b' (Ne.symm hne) hr hr2 hv hv2 hown hb ht')⟩
  · rcases setAt_get _ _ _ _ _ hr2 with ⟨rfl, rfl⟩ | ⟨hne, hr2⟩
    · rw [ht]; exact h.rowBox r2 R v2 j d b' hr hv2 hj hb'
    · exact h.rowBox r2 R2 v2 j d b' hr2 hv2 hj hb'
  · rcases setAt_get _ _ _ _ _ hr2 with ⟨e1, e2⟩ | ⟨hne2, hr2b⟩ <;> rcases setAt_get _ _ _ _ _ hr3 with ⟨e3, e4⟩ | ⟨hne3, hr3b⟩
    · exact absurd (e1.trans e3.symm) hne
    · subst e1 e2
      exact h.rowRow r2 r3 R R3 v2 v3 b' hne hr hr3b hv2 hv3 hown ((ht v2 b').1 ht2)
    · subst e3 e4
      rw [ht]; exact h.rowRow r2 r3 R2 R v2 v3 b' hne hr2b hr hv2 hv3 hown2 ht2
    · exact h.rowRow r2 r3 R2 R3 v2 v3 b' hne hr2b hr3b hv2 hv3 hown2 ht2

section
variable {P : Program} {ρ : Env} {w : World}
theorem run_part1 {e : TypeId} {k : Nat} (he : (P.underlying e).map tagOf = some k) (h0 : k ≠ 0) {xs : Array Value} {off : Nat} {v : Value} (hx : xs[off]? = some v) : (part e xs off).run P w = .ok v w := by
  obtain ⟨d, hu, hk⟩ := Option.map_eq_some_iff.1 he
  cases d <;> simp [tagOf] at hk <;> first
    | (exfalso; exact h0 hk.symm; done)
    | simp [part, isAgg, run_underlying hu, hx]
theorem boolOf_den {x : At} {b : Bool} (h : boolOf x = some b) : x.den ρ = some (.bool b) := by
  unfold boolOf at h
  split at h
  · injection h with h; subst h; rfl
  · injection h with h; subst h; rfl
  · cases h
theorem eqAt_run {d k : Nat} {e : TypeId} {x y : At} {v u : Value} {r : Bool} (he : (P.underlying e).map tagOf = some k) (h : eqAt k x y = some r) (hx : x.den ρ = some v) (hy : y.den ρ = some u) : (Op.equalIn (d + 1) e v u).run P w = .ok r w := by
  obtain ⟨t, hu, hk⟩ := Option.map_eq_some_iff.1 he
  unfold eqAt at h
  split at h
  · injection hx with hx; injection hy with hy; subst hx hy
    split at h
    · injection h with h; subst h
      rename_i hkk; subst hkk
      cases t <;> simp [tagOf] at hk
      exact run_equalIn_int w d e _ _ _ _ hu
    · cases h
  · split at h
    · rename_i a b ha hb
      injection h with h; subst h
      rw [boolOf_den ha] at hx; injection hx with hx; subst hx
      rw [boolOf_den hb] at hy; injection hy with hy; subst hy
      cases t <;> simp [tagOf] at hk
      exact run_equalIn_bool w d e _ _ hu
    · cases h
  · injection hx with hx; injection hy with hy; subst hx hy
    injection h with h; subst h
    cases t <;> simp [tagOf] at hk
    exact run_equalIn_string w d e _ _ hu
  · cases h
def eqList : List Nat → List At → List At → Option (List Bool)
  | [], [], [] => some []
  | k :: ks, a :: as, b :: bs => match eqAt k a b, eqList ks as bs with
    | some e, some l => some (e :: l)
    | _, _ => none
  | _, _, _ => none
def andL : List Bool → Bool
  | [] => true
  | e :: l => e && andL l
theorem andL_append : ∀ (l m : List Bool), andL (l ++ m) = (andL l && andL m)
  | [], m => by simp [andL]
  | e :: l, m => by simp [andL, andL_append l m, Bool.and_assoc]
theorem eqCells_list : ∀ {ks : List Nat} {as bs : List At} {r : Bool}, eqCells ks as bs = some r → ∃ l, eqList ks as bs = some l ∧ andL l = r
  | [], as, bs, r, h => by simp [eqCells] at h
  | k :: ks, [], bs, r, h => by simp [eqCells] at h
  | k :: ks, a :: as, [], r, h => by simp [eqCells] at h
  | k :: ks, a :: as, b :: bs, r, h => by
    simp only [eqCells] at h
    split at h
    · rename_i e he
      split at h
      · split at h
        · injection h with h; subst h
          exact ⟨[e], by simp [eqList, he], by simp [andL]⟩
        · cases h
      · split at h
        · rename_i r' hr'
          injection h with h; subst h
          obtain ⟨l, h1, h2⟩ := eqCells_list hr'
          exact ⟨e :: l, by simp [eqList, he, h1], by simp [andL, h2]⟩
        · cases h
    · cases h
theorem eqList_len : ∀ {ks : List Nat} {as bs : List At} {l : List Bool}, eqList ks as bs = some l → as.length = ks.length ∧ bs.length = ks.length
  | [], [], [], l, _ => ⟨rfl, rfl⟩
  | [], _ :: _, _, l, h => by simp [eqList] at h
  | [], [], _ :: _, l, h => by simp [eqList] at h
  | _ :: _, [], _, l, h => by simp [eqList] at h
  | _ :: _, _ :: _, [], l, h => by simp [eqList] at h
  | k :: ks, a :: as, b :: bs, l, h => by
    simp only [eqList] at h
    split at h
    · rename_i e l' he hl
      have := eqList_len hl
      simp [this.1, this.2]
    · cases h
theorem eqList_split : ∀ {k1 k2 : List Nat} {as bs : List At} {l : List Bool}, eqList (k1 ++ k2) as bs = some l → ∃ l1 l2, l = l1 ++ l2 ∧ eqList k1 (as.take k1.length) (bs.take k1.length) = some l1 ∧ eqList k2 (as.drop k1.length) (bs.drop k1.length) = some l2
  | [], k2, as, bs, l, h => ⟨[], l, rfl, by simp [eqList], by simpa using h⟩
  | k :: k1, k2, [], bs, l, h => by simp [eqList] at h
  | k :: k1, k2, a :: as, [], l, h => by simp [eqList] at h
  | k :: k1, k2, a :: as, b :: bs, l, h => by
    simp only [List.cons_append, eqList] at h
    split at h
    · rename_i e l' he hl
      injection h with h; subst h
      obtain ⟨l1, l2, rfl, h1, h2⟩ := eqList_split hl
      exact ⟨e :: l1, l2, rfl, by simp [eqList, he, h1], by simpa using h2⟩
    · cases h
theorem flat_wid : ∀ T : EqT, T.flat.length = T.wid
  | .one _ => rfl
  | .str fs => flat_wid fs
  | .arr n e => by
    have h := flat_wid e
    have : ∀ n, (repL e.flat n).length = n * e.wid := by
      intro n
      induction n with
      | zero => simp [repL]
      | succ n ih => simp only [repL, List.length_append, ih, h]; rw [Nat.add_mul, Nat.one_mul, Nat.add_comm]
    exact this n
  | .nil => rfl
  | .cons a b => by simp [EqT.flat, EqT.wid, flat_wid a, flat_wid b]
def EqT.val (T : EqT) (vs : List Value) : Value := match T with
  | .one _ => vs.headD undef
  | _ => .agg vs.toArray
theorem run_sizeOf_map {t : TypeId} {n : Nat} (h : (P.info? t).map (·.size) = some n) : (sizeOf t).run P w = .ok n w := by
  obtain ⟨i, hi, he⟩ := Option.map_eq_some_iff.1 h
  simp [sizeOf, typeInfo, hi, program, Sem.run, bind, Sem.bind, pure, he]
theorem part_run {T : EqT} {t : TypeId} {xs : Array Value} {off : Nat} {vs : List Value} (hT : T.isTy = true) (hok : eqOk P T t [] 0 = true) (hs : (P.info? t).map (·.size) = some T.wid) (hl : vs.length = T.wid) (hx : ∀ j v, vs[j]? = some v → xs[off + j]? = some v) :
    (part t xs off).run P w = .ok (T.val vs) w := by
  have agg : (∀ n e, P.underlying t = some (.array n e) ∨ True) → ((isAgg t).run P w = .ok true w) → T.val vs = .agg vs.toArray → (part t xs off).run P w = .ok (T.val vs) w := by
    intro _ ha hv
    have he : xs.extract off (off + T.wid) = vs.toArray := by
      apply Array.ext_getElem?
      intro i
      rw [Array.getElem?_extract]
      by_cases hi : i < vs.length
      · have h1 : vs[i]? = some vs[i] := List.getElem?_eq_getElem hi
        have h2 := hx i _ h1
        have h3 := (Array.getElem?_eq_some_iff.1 h2).1
        have h4 : off + i < min (off + T.wid) xs.size := Nat.lt_min.2 ⟨by omega, h3⟩
        rw [if_pos (by omega), h2, List.getElem?_toArray, h1]
      · have h5 : vs.toArray[i]? = none := by simp; omega
        rw [h5]
        split
        · rename_i h; exfalso
          have := Nat.min_le_left (off + T.wid) xs.size
          omega
        · rfl
    simp only [part, Sem.run_bind, ha, Result.andThen_ok, if_true, run_sizeOf_map hs, he, hv]
    rfl
  cases T with
  | one k =>
    simp only [eqOk, Bool.and_eq_true, beq_iff_eq, bne_iff_ne] at hok
    match vs, hl with
    | [v], _ => exact run_part1 (v := v) hok.1 hok.2 (by have := hx 0 v rfl; rwa [Nat.add_zero] at this)
  | str fs =>
    refine agg (fun _ _ => .inr trivial) ?_ rfl
    simp only [eqOk] at hok
    split at hok
    · rename_i gs hu
      simp [isAgg, run_underlying hu, Sem.run_bind, Result.andThen_ok]
    · cases hok
  | arr n e =>
    refine agg (fun _ _ => .inr trivial) ?_ rfl
    simp only [eqOk] at hok
    split at hok
    · rename_i gs hu
      simp [isAgg, run_underlying hu, Sem.run_bind, Result.andThen_ok]
    · cases hok
  | nil => cases hT
  | cons a b => cases hT
/-- Values of a type, told apart; fields, from one on. -/
theorem eqT_run : ∀ (T : EqT) (d : Nat), T.deep ≤ d →
    (T.isTy = true → ∀ (t : TypeId) (as bs : List At) (vs us : List Value) (l : List Bool), eqOk P T t [] 0 = true → eqList T.flat as bs = some l → dens ρ as = some vs → dens ρ bs = some us → (Op.equalIn d t (T.val vs) (T.val us)).run P w = .ok (andL l) w) ∧
    (T.isTy = false → ∀ (fs : List Field) (off : Nat) (as bs : List At) (vs us : List Value) (xs ys : Array Value) (l : List Bool), eqOk P T 0 fs off = true → eqList T.flat as bs = some l → dens ρ as = some vs → dens ρ bs = some us →
      (∀ j v, vs[j]? = some v → xs[off + j]? = some v) → (∀ j v, us[j]? = some v → ys[off + j]? = some v) → (Op.eqFields d xs ys fs).run P w = .ok (andL l) w) := by
  intro T
  induction T with
  | one k =>
    intro d hd
    refine ⟨fun _ t as bs vs us l hok he ha hb => ?_, fun h => by cases h⟩
    obtain ⟨d, rfl⟩ : ∃ d', d = d' + 1 := ⟨d - 1, by simp only [EqT.deep] at hd; omega⟩
    simp only [eqOk, Bool.and_eq_true, beq_iff_eq, bne_iff_ne] at hok
    simp only [EqT.flat] at he
    match as, bs, he with
    | [a], [b], he =>
      simp only [eqList] at he
      split at he
      · rename_i e l' h1 h2
        injection he with he; subst he
        injection h2 with h2; subst h2
        obtain ⟨v, _, h3, h4, rfl⟩ := dens_cons ha
        obtain ⟨u, _, h5, h6, rfl⟩ := dens_cons hb
        have := eqAt_run (w := w) (d := d) hok.1 h1 h3 h5
        simpa [EqT.val, andL] using this
      · cases he
    | [], _, he => simp [eqList] at he
    | _ :: _, [], he => simp [eqList] at he
    | [_], _ :: _ :: _, he => simp [eqList] at he
    | _ :: _ :: _, [_], he => simp [eqList] at he
    | _ :: _ :: _, _ :: _ :: _, he => simp [eqList] at he
  | str F ih =>
    intro d hd
    refine ⟨fun _ t as bs vs us l hok he ha hb => ?_, fun h => by cases h⟩
    obtain ⟨d, rfl⟩ : ∃ d', d = d' + 1 := ⟨d - 1, by simp only [EqT.deep] at hd; omega⟩
    simp only [eqOk] at hok
    split at hok
    · rename_i gs hu
      simp only [Bool.and_eq_true, Bool.not_eq_true'] at hok
      have hfs : P.fieldsOf t = gs := by simp [Program.fieldsOf, hu]
      simp only [EqT.val]
      rw [run_equalIn_struct w d t _ _ (by rw [hfs]; exact hu) hok.2.1, hfs]
      exact (ih d (by simp only [EqT.deep] at hd; omega)).2 hok.1 gs.toList 0 as bs vs us _ _ l hok.2.2 he ha hb (fun j v h => by simpa using h) (fun j v h => by simpa using h)
    · cases hok
  | arr n e ih =>
    intro d hd
    refine ⟨fun _ t as bs vs us l hok he ha hb => ?_, fun h => by cases h⟩
    obtain ⟨d, rfl⟩ : ∃ d', d = d' + 1 := ⟨d - 1, by simp only [EqT.deep] at hd; omega⟩
    simp only [eqOk] at hok
    split at hok
    · rename_i m el hu
      simp only [Bool.and_eq_true, beq_iff_eq] at hok
      obtain ⟨rfl, hsz, hty, hel⟩ := hok
      obtain ⟨i, hi, hie⟩ := Option.map_eq_some_iff.1 hsz
      have hc : P.cellsOf el = e.wid := by simp [Program.cellsOf, hi, hie]
      simp only [EqT.val]
      rw [run_equalIn_array w d _ _ hu hi, hc, List.range_eq_range']
      have key : ∀ (m k : Nat) (as bs : List At) (vs us : List Value) (l : List Bool) (xs ys : Array Value), eqList (repL e.flat m) as bs = some l → dens ρ as = some vs → dens ρ bs = some us →
          (∀ j v, vs[j]? = some v → xs[k * e.wid + j]? = some v) → (∀ j v, us[j]? = some v → ys[k * e.wid + j]? = some v) → (Op.eqItems d el e.wid xs ys (List.range' k m)).run P w = .ok (andL l) w := by
        intro m
        induction m with
        | zero =>
          intro k as bs vs us l xs ys h _ _ _ _
          have : l = [] := by
            have h1 := eqList_len h
            simp only [repL, List.length_nil, List.length_eq_zero_iff] at h1
            rw [h1.1, h1.2] at h; simp [repL, eqList] at h; exact h
          subst this
          simp [Op.eqItems, andL]
        | succ m ihm =>
          intro k as bs vs us l xs ys h ha hb hx hy
          obtain ⟨l1, l2, rfl, h1, h2⟩ := eqList_split (k1 := e.flat) (k2 := repL e.flat m) h
          have hw := flat_wid e
          have hl1 := eqList_len h1
          have hvl := dens_len ha
          have hul := dens_len hb
          have va : (vs.take e.flat.length).length = e.wid := by have := dens_len (dens_take e.flat.length ha); rw [this, hl1.1, hw]
          have ua : (us.take e.flat.length).length = e.wid := by have := dens_len (dens_take e.flat.length hb); rw [this, hl1.2, hw]
          have p1 := part_run (w := w) (off := k * e.wid) hty hel hsz va (xs := xs) (fun j v h => hx j v (take_get h).1)
          have p2 := part_run (w := w) (off := k * e.wid) hty hel hsz ua (xs := ys) (fun j v h => hy j v (take_get h).1)
          have p3 := (ih d (by simp only [EqT.deep] at hd; omega)).1 hty el _ _ _ _ l1 hel h1 (dens_take _ ha) (dens_take _ hb)
          have p4 := ihm (k + 1) _ _ _ _ l2 xs ys h2 (dens_drop _ ha) (dens_drop _ hb) (fun j v h => by rw [List.getElem?_drop, hw] at h; have := hx _ v h; rwa [show (k + 1) * e.wid + j = k * e.wid + (e.wid + j) by rw [Nat.add_mul]; omega])
            (fun j v h => by rw [List.getElem?_drop, hw] at h; have := hy _ v h; rwa [show (k + 1) * e.wid + j = k * e.wid + (e.wid + j) by rw [Nat.add_mul]; omega])
          simp only [List.range'_succ, Op.eqItems, Sem.run_bind, p1, p2, p3, Result.andThen_ok, andL_append]
          cases andL l1
          · simp
          · simpa using p4
      exact key _ 0 as bs vs us l _ _ he ha hb (fun j v h => by simpa using h) (fun j v h => by simpa using h)
    · cases hok
  | nil =>
    intro d hd
    refine ⟨(fun h => by cases h), fun _ fs off as bs vs us xs ys l hok he ha hb hx hy => ?_⟩
    simp only [eqOk, List.isEmpty_iff] at hok
    subst hok
    have : l = [] := by
      have h1 := eqList_len he
      simp only [EqT.flat, List.length_nil, List.length_eq_zero_iff] at h1
      rw [h1.1, h1.2] at he; simp [EqT.flat, eqList] at he; exact he
    subst this
    simp [Op.eqFields, andL]
  | cons a b iha ihb =>
    intro d hd
    refine ⟨(fun h => by cases h), fun _ fs off as bs vs us xs ys l hok he ha hb hx hy => ?_⟩
    simp only [EqT.deep] at hd
    simp only [eqOk] at hok
    split at hok
    · cases hok
    · rename_i f fs
      simp only [Bool.and_eq_true, bne_iff_ne, beq_iff_eq, Bool.not_eq_true'] at hok
      obtain ⟨hn, rfl, hsz, hty, hbt, hoa, hob⟩ := hok
      obtain ⟨l1, l2, rfl, h1, h2⟩ := eqList_split (k1 := a.flat) (k2 := b.flat) he
      have hw := flat_wid a
      have hl1 := eqList_len h1
      have va : (vs.take a.flat.length).length = a.wid := by have := dens_len (dens_take a.flat.length ha); rw [this, hl1.1, hw]
      have ua : (us.take a.flat.length).length = a.wid := by have := dens_len (dens_take a.flat.length hb); rw [this, hl1.2, hw]
      have p1 := part_run (w := w) (off := f.offset) hty hoa hsz va (xs := xs) (fun j v h => hx j v (take_get h).1)
      have p2 := part_run (w := w) (off := f.offset) hty hoa hsz ua (xs := ys) (fun j v h => hy j v (take_get h).1)
      have p3 := (iha d (by omega)).1 hty f.type _ _ _ _ l1 hoa h1 (dens_take _ ha) (dens_take _ hb)
      have p4 := (ihb d (by omega)).2 hbt fs (f.offset + a.wid) _ _ _ _ xs ys l2 hob h2 (dens_drop _ ha) (dens_drop _ hb) (fun j v h => by rw [List.getElem?_drop, hw] at h; have := hx _ v h; rwa [Nat.add_assoc])
        (fun j v h => by rw [List.getElem?_drop, hw] at h; have := hy _ v h; rwa [Nat.add_assoc])
      simp only [Op.eqFields, if_pos hn, Sem.run_bind, p1, p2, p3, Result.andThen_ok, andL_append]
      cases andL l1
      · simp
      · simpa using p4
end
theorem part_cells {P : Program} {ρ : Env} {w : World} {ft : TypeId} {tf : Ty} (hok : TyOk P ft tf) {l : List At} {vs : List Value} {off : Nat} {c : Cv} (hc : mkCv tf.isAgg tf.size ((l.drop off).take tf.size) = some c) (hvs : dens ρ l = some vs) :
    ∃ v, (part ft vs.toArray off).run P w = .ok v w ∧ c.den ρ = some v := by
  unfold part
  rcases mkCv_den hc (dens_take tf.size (dens_drop off hvs)) with ⟨h1, h2, h3⟩ | ⟨h1, v, h2, h3⟩
  · refine ⟨_, ?_, h3⟩
    simp only [Sem.run_bind, hok.runAgg, Result.andThen_ok, h1, if_true, hok.runSize]
    simp only [pure, Sem.run, Result.ok.injEq, Value.agg.injEq, and_true]
    apply Array.ext'
    simp [List.drop_take]
  · refine ⟨v, ?_, h3⟩
    have hg : vs[off]? = some v := by
      have := congrArg (fun z => z[0]?) h2
      simp only [List.getElem?_cons_zero] at this
      have := cut_get this
      simpa using this.1
    simp only [Sem.run_bind, hok.runAgg, Result.andThen_ok, h1]
    simp [hg, Sem.run, pure]
theorem putI_dens {ρ : Env} {k : IntKind} {n v : Int} : ∀ (xs : List Int) (j : Nat), dens ρ (putI k n v j xs) = some ((xs.zipIdx j).map fun p => Value.int k (if n.toNat = p.2 then v else p.1))
  | [], _ => rfl
  | x :: xs, j => by
    simp only [putI, List.zipIdx_cons, List.map_cons]
    exact dens_mk (by simp [At.den, Value.oneCell']) (putI_dens xs (j + 1))
theorem put_paste {k : IntKind} {n v : Int} {xs : List Int} {vs : List Value} {off len : Nat} (hxl : xs.length = len) (hr : 0 ≤ n ∧ n < len) (hvl : off + len ≤ vs.length) (hd2 : xs.map (Value.int k) = (vs.drop off).take len) :
    vs.take (off + n.toNat) ++ ([Value.int k v] ++ vs.drop (off + n.toNat + 1)) = vs.take off ++ (((xs.zipIdx 0).map fun p => Value.int k (if n.toNat = p.2 then v else p.1)) ++ vs.drop (off + ((xs.zipIdx 0).map fun p => Value.int k (if n.toNat = p.2 then v else p.1)).length)) := by
  apply List.ext_getElem?
  intro q
  have hvx : ∀ q, q < len → vs[off + q]? = some (.int k (xs[q]?.getD 0)) := fun q hq => by
    have h5 : (xs.map (Value.int k))[q]? = some (.int k (xs[q]?.getD 0)) := by
      rw [List.getElem?_map, List.getElem?_eq_getElem (by omega)]; simp
    rw [hd2] at h5
    exact (cut_get h5).1
  have p1 := paste_get vs [Value.int k v] (off + n.toNat) q (by simp; omega)
  have p2 := paste_get vs ((xs.zipIdx 0).map fun p => Value.int k (if n.toNat = p.2 then v else p.1)) off q (by simp; omega)
  simp only [List.length_singleton] at p1
  rw [p1, p2]
  simp only [List.length_map, List.length_zipIdx, hxl]
  by_cases c1 : q < off
  · rw [if_pos (by omega), if_pos c1]
  · rw [if_neg c1]
    by_cases c2 : q < off + len
    · rw [if_pos c2, List.getElem?_map, List.getElem?_zipIdx]
      have h7 : xs[q - off]? = some (xs[q - off]'(by omega)) := List.getElem?_eq_getElem (by omega)
      have h6 := hvx (q - off) (by omega)
      rw [show off + (q - off) = q by omega, h7, Option.getD_some] at h6
      rw [h7]
      simp only [Option.map_some, Nat.zero_add]
      by_cases c3 : q < off + n.toNat
      · rw [if_pos c3, h6, if_neg (by omega)]
      · rw [if_neg c3]
        by_cases c4 : q < off + n.toNat + 1
        · rw [if_pos c4, if_pos (by omega), show q - (off + n.toNat) = 0 by omega]; rfl
        · rw [if_neg c4, h6, if_neg (by omega)]
    · rw [if_neg c2, if_neg (by omega), if_neg (by omega)]
theorem putI_len {k : IntKind} {n v : Int} : ∀ (xs : List Int) (j : Nat), (putI k n v j xs).length = xs.length
  | [], _ => rfl
  | x :: xs, j => by simp [putI, putI_len xs (j + 1)]
section
variable {P : Program} {T : Tab} (hT : TabOk P T) {W : Base} {s : St} {ρ : Env} {w : World} (hm : Mem W s ρ w) {get : Operand → Option SV} {box : Nat → Option (List At)} {row : Nat → Option Row} {nb nr : Nat} {e : Operand → Value}
  (hget : ∀ x sv, get x = some sv → sv.rep ρ (e x)) (hbox : ∀ i c, box i = some c → s.B[i]? = some (some c)) (hrow : ∀ r R, row r = some R → s.R[r]? = some (some R))
  (hnb : ρ.β nb = none) (hnr : ρ.σ nr = none) {o : Oper} {ev : Ev} (hob : ev.ob)
include hT hm hget hbox hrow hnb hnr hob

theorem snd_store {t : TypeId} {x y : Operand} (ho : o.op = .store t x y) (h : evalOp T get box row (.store t x y) = some ev) : Comes1 P W s ρ w nb nr e o ev := by
  have hrun : ∀ a w', e x = .pointer (some a) → (storeVar t a (e y)).run P w = .ok () w' → (execOp e o).run P w = .ok .skip w' := by
    intro a w' ha hv
    unfold execOp
    rw [ho]
    simp only [Instr.storeAt, ha, Instr.sureAddr, pure, Sem.run_bind, Sem.run, Result.andThen_ok, hv]
  simp only [evalOp] at h
  split at h
  · rename_i ty i off c hty hx hy
    split at h
    · rename_i old hb
      split at h
      · rename_i hsz
        injection h with h; subst h
        obtain ⟨b, vs, tt, h1, h2, h3, h4⟩ := hm.box i old (hbox _ _ hb)
        have hp := hget _ _ hx
        simp only [SV.rep, Cv.den, At.den, Pt.den, h1, Option.map_some, Option.some.injEq] at hp
        have hc := Cv.den_cells (hget _ _ hy)
        have hl := dens_len hc
        have hrw := run_storeVar_cells (hT _ _ hty) (o := off) (v := e y) (by simpa using hl.trans hsz.1) (dens_one hc) h4 (by rw [dens_len h3]; exact hsz.2)
        refine ⟨_, _, ρ, .inr ⟨hrun _ _ hp.symm hrw, rfl⟩, Env.le_refl ρ, ⟨[], rfl, rfl⟩, ?_, fun _ _ => rfl, fun _ _ => rfl⟩
        exact hm.putBox (hbox _ _ hb) h1 (dens_pasted h3 hc off) (setRow_heap w b _ _ tt (0, 0) h4) (fun k hk => setRow_other w b k _ hk) (by simp) ⟨rfl, rfl, rfl⟩
      · cases h
    · cases h
  · rename_i ty r i sz off c hty hx hy
    split at h
    · rename_i R hR
      split at h
      · rename_i el hown
        split at h
        · rename_i hsz
          injection h with h; subst h
          obtain ⟨hi0, hi1⟩ := hob
          obtain ⟨hc1, hc2, hc3⟩ := hsz
          subst hc3
          have hR' := hrow _ _ hR
          obtain ⟨v0, hσ, hok⟩ := hm.row r R hR'
          obtain ⟨A, cap, rfl, hcl, hcm, hcn, hct, g1, g2⟩ := hok.form
          have hlen : i.toNat < R.len := by omega
          obtain ⟨b, oo, rfl, hlt, hcell⟩ := g1 (by omega)
          rcases g2 el hown with h0 | ⟨g, cur, fz, hg0, hWg, hg, hcs, hbeh⟩
          · omega
          injection hg0 with hg0; injection hg0 with e1 e2 _
          subst e1 e2
          obtain ⟨vs, hvs, hvl⟩ := hok.each i.toNat hlen
          have hp := hget _ _ hx
          simp only [SV.rep, Cv.den, At.den, Pt.den, hσ, Option.some.injEq, add_off] at hp
          have hc := Cv.den_cells (hget _ _ hy)
          have hl := dens_len hc
          have hmul : i.toNat * R.sz + R.sz ≤ cap * R.sz := by
            rw [← Nat.succ_mul]; exact Nat.mul_le_mul_right _ (by omega)
          have hcurl : cur.toList.length = cap * R.sz := by simpa using hcs
          have hrw := run_storeVar_cells (hT _ _ hty) (w := w) (b := b) (o := 0 + i.toNat * R.sz + off) (v := e y) (cur := cur.toList) (tt := el) (by simpa using hl.trans hc1) (dens_one hc) (by simpa using hg) (by rw [hcurl]; omega) (by simpa using hbeh)
          refine ⟨_, _, ρ, .inr ⟨hrun _ _ hp.symm hrw, rfl⟩, Env.le_refl ρ, ⟨[], rfl, rfl⟩, ?_, fun _ _ => rfl, fun _ _ => rfl⟩
          have htouch : R.touch (.slice (some ⟨b, 0, none⟩) R.len cap) b := ⟨rfl, .inr (by omega)⟩
          have hulen : (e y).cells.toList.length = ty.size := hl.trans hc1
          refine hm.putRow hR' hσ (by simp [hown]) htouch hWg ⟨_, _, _, hg⟩ rfl rfl ?_ (fun k hk => setRow_other w b k _ hk) (by simp) ⟨rfl, rfl, rfl⟩
          have hnew := setRow_heap w b cur (cur.toList.take (0 + i.toNat * R.sz + off) ++ ((e y).cells.toList ++ cur.toList.drop (0 + i.toNat * R.sz + off + (e y).cells.toList.length))).toArray el fz hg
          have hcd := dens_len hc
          refine ⟨⟨_, cap, rfl, hcl, hcm, hcn, hct, fun _ => ⟨b, 0, rfl, by simpa using hlt, fun i' vs' hi' hvs' j u hu => ?_⟩, fun e' he' => ?_⟩, fun i' hi' => ?_, fun hn b' ht' => hok.fresh hn b' ht'⟩
          · rw [cell_of_blk hnew, paste_get _ _ _ _ (by rw [hcurl, hulen]; omega)]
            dsimp only at hvs' hi' ⊢
            by_cases hii : i' = i.toNat
            · rw [if_pos hii] at hvs'
              have hpd := dens_pasted hvs hc off
              rw [← hii] at hpd hvs
              rw [hpd] at hvs'; injection hvs' with hvs'; subst hvs'
              rw [paste_get _ _ _ _ (by rw [hvl, hulen]; omega)] at hu
              rw [← hii, hulen]
              rw [hulen] at hu
              have hq : ∀ u, vs[j]? = some u → cur.toList[0 + i' * R.sz + j]? = some u := fun u hu => by
                have := hcell i' vs hi' hvs j u hu
                simpa [World.cell?, hg] using this
                
              by_cases h1 : j < off
              · rw [if_pos h1] at hu; rw [if_pos (by omega)]; exact hq _ hu
              · rw [if_neg h1] at hu; rw [if_neg (by omega)]
                by_cases h2 : j < off + ty.size
                · rw [if_pos h2] at hu; rw [if_pos (by omega)]
                  rw [show 0 + i' * R.sz + j - (0 + i' * R.sz + off) = j - off by omega]; exact hu
                · rw [if_neg h2] at hu; rw [if_neg (by omega)]; exact hq _ hu
            · rw [if_neg hii] at hvs'
              have hj : j < R.sz := by
                obtain ⟨ws, hws, hwl⟩ := hok.each i' hi'
                rw [hvs'] at hws; injection hws with hws; subst hws
                rw [← hwl]; exact (List.getElem?_eq_some_iff.1 hu).1
              have hq : cur.toList[0 + i' * R.sz + j]? = some u := by
                have := hcell i' vs' hi' hvs' j u hu
                simpa [World.cell?, hg] using this
              rw [hulen]
              rcases Nat.lt_or_gt_of_ne hii with hlt' | hlt'
              · have : i' * R.sz + R.sz ≤ i.toNat * R.sz := by rw [← Nat.succ_mul]; exact Nat.mul_le_mul_right _ (by omega)
                rw [if_pos (by omega)]; exact hq
              · have : i.toNat * R.sz + R.sz ≤ i' * R.sz := by rw [← Nat.succ_mul]; exact Nat.mul_le_mul_right _ (by omega)
                rw [if_neg (by omega), if_neg (by omega)]; exact hq
          · dsimp only at he'
            rw [hown] at he'; injection he' with he'; subst he'
            have hsz : (cur.toList.take (0 + i.toNat * R.sz + off) ++ ((e y).cells.toList ++ cur.toList.drop (0 + i.toNat * R.sz + off + (e y).cells.toList.length))).toArray.size = cap * R.sz := by simp [hulen]; rw [hcs]; omega
            exact .inr ⟨b, _, fz, rfl, hWg, hnew, hsz, hbeh.of_size (hsz.trans hcs.symm)⟩
          · dsimp only at hi' ⊢
            by_cases hii : i' = i.toNat
            · rw [if_pos hii, hii]
              exact ⟨_, dens_pasted hvs hc off, by simp [hvl, hulen]; omega⟩
            · rw [if_neg hii]; exact hok.each i' hi'
        · cases h
      · cases h
    · cases h
  · rename_i ty i off n len k v hty hx hy
    split at h
    · rename_i old k' hb hk
      split at h
      · rename_i hsz
        split at h
        · rename_i xs hxs
          injection h with h; subst h
          obtain ⟨hkk, hlen, hty1⟩ := hsz
          subst hkk
          obtain ⟨b, vs, tt, h1, h2, h3, h4⟩ := hm.box i old (hbox _ _ hb)
          have hp := hget _ _ hx
          simp only [SV.rep, Cv.den, At.den, Pt.den, h1, Option.map_some] at hp
          split at hp
          · rename_i hr
            simp only [Option.some.injEq] at hp
            have hey := hget _ _ hy
            injection hey with hey
            have hds := intsOf_dens hxs (ρ := ρ)
            have hd2 := dens_take len (dens_drop off h3)
            rw [hds] at hd2
            injection hd2 with hd2
            have hvl := dens_len h3
            have hxl : xs.length = len := by
              have := congrArg List.length hd2
              simp at this; omega
            have hrw := run_storeVar_cells (hT _ _ hty) (o := off + n.toNat) (v := e y) (by rw [← hey]; simpa [Value.cells] using hty1.symm) (by rw [← hey]; simp [Value.cells, Value.oneCell']) h4 (by rw [hty1]; omega)
            refine ⟨_, _, ρ, .inr ⟨hrun _ _ hp.symm hrw, rfl⟩, Env.le_refl ρ, ⟨[], rfl, rfl⟩, ?_, fun _ _ => rfl, fun _ _ => rfl⟩
            refine hm.putBox (t := tt) (hbox _ _ hb) h1 (dens_pasted h3 (putI_dens xs 0) off) ?_ (fun k hk => setRow_other w b k _ hk) (by simp) ⟨rfl, rfl, rfl⟩
            refine (setRow_heap w b _ _ tt (0, 0) h4).trans ?_
            congr 2
            refine congrArg List.toArray ?_
            rw [← hey]
            exact put_paste hxl hr (by omega) hd2
          · cases hp
        · cases h
      · cases h
    · cases h
  · cases h
theorem snd_nilCheck {x : Operand} (ho : o.op = .nilCheck x) (h : evalOp T get box row (.nilCheck x) = some ev) : Comes1 P W s ρ w nb nr e o ev := by
  simp only [evalOp] at h
  split at h
  · rename_i p hx
    injection h with h; subst h
    obtain ⟨a, ha⟩ := Pt.den_form (hget _ _ hx)
    refine .val hm (v := e x) ?_ (hget _ _ hx)
    unfold execOp
    rw [ho]
    simp only [ha]
    rfl
  · rename_i f c hx
    injection h with h; subst h
    have hp := hget _ _ hx
    refine .val hm (v := e x) ?_ hp
    simp only [SV.rep, Cv.den, At.den, Option.map_eq_some_iff] at hp
    obtain ⟨vs, _, hv⟩ := hp
    unfold execOp
    rw [ho]
    simp only [← hv]
    rfl
  · rename_i f a c hx
    injection h with h; subst h
    have hp := hget _ _ hx
    refine .val hm (v := e x) ?_ hp
    simp only [SV.rep, Cv.den, At.den, Option.map_eq_some_iff] at hp
    obtain ⟨vs, _, hv⟩ := hp
    unfold execOp
    rw [ho]
    simp only [← hv]
    rfl
  · cases h

theorem evalBin_run {op : BinOp} {x y : At} {v u r : Value} {ob : Option Prop} {t : TypeId} {X Y : Operand} (h : evalBin op x y = some (r, ob)) (hx : x.den ρ = some v) (hy : y.den ρ = some u) (hob : holds ob) :
    (do eqGuard op t X Y v u; binOp op t v u : Sem Value).run P w = .ok r w ∧ r.oneCell' = true := by
  unfold evalBin at h
  split at h
  · rename_i k a k' b
    injection hx with hx; injection hy with hy; subst hx hy
    have hg : (eqGuard op t X Y (.int k a) (.int k' b)).run P w = .ok () w := by unfold eqGuard; split <;> rfl
    simp only [Sem.run_bind, hg, Result.andThen_ok]
    split at h
    · injection h with h; injection h with h1 h2; subst h1 h2
      have hob' : 0 ≤ b := hob
      have : ¬ b < 0 := by omega
      simp [binOp, Op.shift, this, Sem.run, pure, Value.oneCell']
    · injection h with h; injection h with h1 h2; subst h1 h2
      have hob' : 0 ≤ b := hob
      have : ¬ b < 0 := by omega
      simp [binOp, Op.shift, this, Sem.run, pure, Value.oneCell']
    · split at h
      · rename_i hkk
        subst hkk
        unfold intBin at h
        split at h <;> first
          | (injection h with h; injection h with h1 h2; subst h1 h2; simp_all [holds, binOp, Op.intArith, Op.intCmp, Op.intBits, Op.intDiv, Sem.run, pure, Value.oneCell']; done)
          | cases h
      · cases h
  · rename_i a b
    injection hx with hx; injection hy with hy; subst hx hy
    have hg : (eqGuard op t X Y (.string a) (.string b)).run P w = .ok () w := by unfold eqGuard; split <;> rfl
    simp only [Sem.run_bind, hg, Result.andThen_ok]
    unfold strBin at h
    split at h
    · injection h with h; injection h with h1 h2; subst h1 h2
      have hob' : a.size + b.size ≤ 9223372036854775807 := hob
      have : ¬ ((a.size + b.size : Nat) : Int) > IntKind.i64.max := by
        have : IntKind.i64.max = 9223372036854775807 := by decide
        omega
      simp only [binOp, Op.stringOp, this, if_false]
      exact ⟨rfl, rfl⟩
    · injection h with h; injection h with h1 h2; subst h1 h2
      exact ⟨rfl, rfl⟩
    · injection h with h; injection h with h1 h2; subst h1 h2
      exact ⟨rfl, rfl⟩
    · cases h
  · cases h
theorem snd_binOp {op : BinOp} {t ty : TypeId} {x y : Operand} (ho : o.op = .binOp op t x y ty) (h : evalOp T get box row (.binOp op t x y ty) = some ev) : Comes1 P W s ρ w nb nr e o ev := by
  simp only [evalOp] at h
  split at h
  · rename_i a b hx hy
    split at h
    · rename_i v ob hv
      injection h with h; subst h
      obtain ⟨h1, h2⟩ := evalBin_run hT hm hget hbox hrow hnb hnr hob (t := t) (X := x) (Y := y) hv (hget _ _ hx) (hget _ _ hy) hob
      refine .val hm (v := v) ?_ (by simp [SV.rep, Cv.den, At.den, h2])
      unfold execOp
      rw [ho]
      simp only [Sem.run_bind] at h1 ⊢
      simp only [h1]
      rfl
    · split at h
      · rename_i p q hp hq
        split at h
        · rename_i tt htt
          split at h
          · rename_i hk
            have hu := (hT t tt htt).bool hk
            have e1 : e x = .bool p := by have := hget _ _ hx; simp only [SV.rep, Cv.den] at this; rw [boolOf_den hp] at this; injection this with this; exact this.symm
            have e2 : e y = .bool q := by have := hget _ _ hy; simp only [SV.rep, Cv.den] at this; rw [boolOf_den hq] at this; injection this with this; exact this.symm
            have hg : ∀ op X Y, (eqGuard op t X Y (.bool p) (.bool q)).run P w = .ok () w := fun op X Y => by unfold eqGuard; split <;> rfl
            unfold boolBin at h
            split at h
            · rename_i v hv
              injection h with h; subst h
              split at hv
              · injection hv with hv; subst hv
                refine .val hm (v := .bool (p == q)) ?_ rfl
                unfold execOp
                rw [ho]
                simp only [Sem.run_bind, e1, e2, hg, Result.andThen_ok, run_eql_bool w t p q hu]
                rfl
              · injection hv with hv; subst hv
                refine .val hm (v := .bool (!(p == q))) ?_ rfl
                unfold execOp
                rw [ho]
                have : (binOp .neq t (.bool p) (.bool q)).run P w = .ok (.bool (!(p == q))) w := by
                  simp [binOp, run_equal_bool w t p q hu]
                simp only [Sem.run_bind, e1, e2, hg, Result.andThen_ok, this]
                rfl
              · cases hv
            · cases h
          · cases h
        · cases h
      · cases h
  · rename_i a b hx hy
    split at h
    · rename_i tt htt
      split at h
      · rename_i r hr
        obtain ⟨vs, h1, h2⟩ : ∃ vs, dens ρ a = some vs ∧ e x = .agg vs.toArray := by
          have := hget _ _ hx
          simp only [SV.rep, Cv.den, Option.map_eq_some_iff] at this
          obtain ⟨vs, h1, h2⟩ := this; exact ⟨vs, h1, h2.symm⟩
        obtain ⟨us, h3, h4⟩ : ∃ vs, dens ρ b = some vs ∧ e y = .agg vs.toArray := by
          have := hget _ _ hy
          simp only [SV.rep, Cv.den, Option.map_eq_some_iff] at this
          obtain ⟨vs, h1, h2⟩ := this; exact ⟨vs, h1, h2.symm⟩
        rcases (hT t tt htt).2.2.2.2 with h0 | ⟨TT, hfl, hdeep, hagg, hgd, heok⟩
        · rw [h0] at hr; simp [eqCells] at hr
        have hrun : (Op.equalIn 10000 t (.agg vs.toArray) (.agg us.toArray)).run P w = .ok r w := by
          obtain ⟨l, hl1, hl2⟩ := eqCells_list hr
          have hty : TT.isTy = true := by cases TT <;> first | rfl | cases hagg
          have hv : ∀ ws : List Value, TT.val ws = .agg ws.toArray := fun ws => by cases TT <;> first | rfl | cases hagg
          have := (eqT_run (w := w) (ρ := ρ) TT 10000 (by omega)).1 hty t a b vs us l heok (by rw [hfl]; exact hl1) h1 h3
          rw [hv, hv, hl2] at this
          exact this
        split at h
        · injection h with h; subst h
          refine .val hm (v := .bool r) ?_ rfl
          unfold execOp
          rw [ho]
          simp only [Sem.run_bind, h2, h4, run_eqGuard_agg w _ t _ _ _ _ hgd, Result.andThen_ok, run_eql_struct, hrun]
          rfl
        · injection h with h; subst h
          refine .val hm (v := .bool (!r)) ?_ rfl
          unfold execOp
          rw [ho]
          simp only [Sem.run_bind, h2, h4, run_eqGuard_agg w _ t _ _ _ _ hgd, Result.andThen_ok, run_neq_struct, hrun]
          rfl
        · cases h
      · cases h
    · cases h
  · cases h
theorem snd_unOp {op : UnOp} {t : TypeId} {x : Operand} (ho : o.op = .unOp op t x) (h : evalOp T get box row (.unOp op t x) = some ev) : Comes1 P W s ρ w nb nr e o ev := by
  simp only [evalOp] at h
  split at h
  · rename_i b hx
    injection h with h; subst h
    have hp := hget _ _ hx
    injection hp with hp
    refine .val hm (v := .bool (!b)) ?_ rfl
    unfold execOp
    rw [ho]
    simp only [← hp]
    rfl
  · rename_i b hx
    injection h with h; subst h
    have hp := hget _ _ hx
    injection hp with hp
    refine .val hm (v := .bool (!b)) ?_ rfl
    unfold execOp
    rw [ho]
    simp only [← hp]
    rfl
  · rename_i k n hx
    injection h with h; subst h
    have hp := hget _ _ hx
    injection hp with hp
    refine .val hm (v := .int k (k.wrap (0 - n))) ?_ rfl
    unfold execOp
    rw [ho]
    simp only [← hp]
    rfl
  · cases h
theorem snd_convert {t1 t2 : TypeId} {x : Operand} (ho : o.op = .convert t1 t2 x) (h : evalOp T get box row (.convert t1 t2 x) = some ev) : Comes1 P W s ρ w nb nr e o ev := by
  simp only [evalOp] at h
  split at h
  · rename_i ts td k0 n hts htd hx
    split at h
    · rename_i k hk
      injection h with h; subst h
      have hp := hget _ _ hx
      injection hp with hp
      refine .val hm (v := .int k (k.wrap n)) ?_ rfl
      obtain ⟨d1, hd1, _⟩ := (hT _ _ hts).und
      have hd2 := (hT _ _ htd).int hk
      unfold execOp
      rw [ho]
      simp only [convert, Sem.run_bind, run_underlying hd1, run_underlying hd2, Result.andThen_ok, ← hp]
      cases d1 <;> rfl
    · cases h
  · cases h
theorem ptDens_map {l : List Operand} : ∀ {ps : List Pt}, (l.mapM fun c => match get c with
        | some (.cv (.one (.pt p))) => some p
        | _ => none) = some ps → ptDens ρ ps = some (l.map e) := by
  induction l with
  | nil => intro ps h; simp at h; subst h; rfl
  | cons x l ih =>
    intro ps h
    simp only [List.mapM_cons, Option.bind_eq_bind, Option.bind_eq_some_iff, Option.pure_def, Option.some.injEq] at h
    obtain ⟨p, hp, qs, hqs, rfl⟩ := h
    split at hp
    · rename_i p' hx
      injection hp with hp; subst hp
      have h1 : p'.den ρ = some (e x) := hget _ _ hx
      simp only [ptDens, h1, ih hqs, List.map_cons]
    · cases hp
theorem snd_makeFunc {f : FuncId} {first caps : Array Operand} (ho : o.op = .makeFunc (.func f) first caps) (h : evalOp T get box row (.makeFunc (.func f) first caps) = some ev) : Comes1 P W s ρ w nb nr e o ev := by
  simp only [evalOp] at h
  split at h
  · rename_i hf
    split at h
    · rename_i ps hps
      injection h with h; subst h
      have hd := ptDens_map hT hm hget hbox hrow hnb hnr hob hps
      have hf' : first = #[] := by simpa using hf
      refine .val hm (v := .func (.func f) #[] (caps.map e)) ?_ (by simp [SV.rep, Cv.den, At.den, hd, ← Array.toList_map])
      unfold execOp
      rw [ho, hf']
      simp [Instr.makeFunc, Sem.run, pure, Sem.run_bind]
    · cases h
  · split at h
    · rename_i x hfirst hcaps
      have hf' : first = #[x] := by rw [← Array.toArray_toList (xs := first), hfirst]
      have hc' : caps = #[] := by rw [← Array.toArray_toList (xs := caps), hcaps]
      have key : ∀ a bs v, (∀ ρ : Env, v.den ρ = (bDens ρ bs).bind (bVal a)) → get x = some (.cv v) → some (Ev.val (.cv (.one (.clb f a bs))) none) = some ev → Comes1 P W s ρ w nb nr e o ev := by
        intro a bs v hv hx h
        injection h with h; subst h
        have hr := hget _ _ hx
        simp only [SV.rep] at hr
        refine .val hm (v := .func (.func f) #[e x] #[]) ?_ ?_
        · unfold execOp
          rw [ho, hf', hc']
          simp [Instr.makeFunc, Sem.run, pure, Sem.run_bind]
        · show Option.map _ ((bDens ρ bs).bind (bVal a)) = _
          rw [← hv, hr]; rfl
      split at h
      · rename_i l hx
        split at h
        · rename_i bs hbs
          exact key true bs _ (fun ρ => by simp only [Cv.den, ← toBs_dens hbs]; cases bDens ρ bs <;> rfl) hx h
        · cases h
      · rename_i a hx
        split at h
        · rename_i b hb
          exact key false [b] _ (fun ρ => by
            simp only [Cv.den, ← toB_den hb, bDens]
            cases b.den ρ <;> rfl) hx h
        · cases h
      · cases h
    · cases h
theorem snd_extract {x : Operand} {i : Nat} (ho : o.op = .extract x i) (h : evalOp T get box row (.extract x i) = some ev) : Comes1 P W s ρ w nb nr e o ev := by
  simp only [evalOp] at h
  split at h
  · rename_i l hx
    split at h
    · rename_i c hc
      injection h with h; subst h
      obtain ⟨vs, h1, h2⟩ := hget _ _ hx
      have key : ∀ (l : List Cv) (vs : List Value) (i : Nat), cvDens ρ l = some vs → l[i]? = some c → ∃ v, vs[i]? = some v ∧ c.den ρ = some v := by
        intro l
        induction l with
        | nil => intro vs i h hi; simp at hi
        | cons y l ih =>
          intro vs i h hi
          simp only [cvDens] at h
          split at h
          · rename_i v ws g1 g2
            injection h with h; subst h
            cases i with
            | zero => simp at hi; subst hi; exact ⟨v, by simp, g1⟩
            | succ i => simp at hi; obtain ⟨u, g3, g4⟩ := ih ws i g2 hi; exact ⟨u, by simpa using g3, g4⟩
          · cases h
      obtain ⟨v, hv, hd⟩ := key l vs i h1 hc
      refine .val hm (v := v) ?_ hd
      unfold execOp
      rw [ho]
      simp only [Instr.extract, h2]
      simp [hv, Sem.run, pure]
    · cases h
  · cases h
theorem snd_field {t : TypeId} {x : Operand} {f : Nat} (ho : o.op = .field t x f) (h : evalOp T get box row (.field t x f) = some ev) : Comes1 P W s ρ w nb nr e o ev := by
  simp only [evalOp] at h
  split at h
  · rename_i ty l hty hx
    split at h
    · rename_i fs hk
      split at h
      · rename_i off ft hf
        split at h
        · rename_i tf htf
          split at h
          · rename_i c hc
            injection h with h; subst h
            obtain ⟨gs, hgs, hmap⟩ := (hT _ _ hty).struct hk
            have hp := hget _ _ hx
            simp only [SV.rep, Cv.den, Option.map_eq_some_iff] at hp
            obtain ⟨vs, hvs, hv⟩ := hp
            obtain ⟨fd, hfd, hfe⟩ : ∃ fd : Field, gs[f]? = some fd ∧ (fd.offset, fd.type) = (off, ft) := by
              rw [← hmap, List.getElem?_map, Option.map_eq_some_iff] at hf
              obtain ⟨fd, h1, h2⟩ := hf
              exact ⟨fd, by simpa using h1, h2⟩
            injection hfe with e1 e2
            have hok := hT _ _ htf
            have hpart : ∃ v, (part ft vs.toArray off).run P w = .ok v w ∧ c.den ρ = some v := by
              unfold part
              rcases mkCv_den hc (dens_take tf.size (dens_drop off hvs)) with ⟨h1, h2, h3⟩ | ⟨h1, v, h2, h3⟩
              · refine ⟨_, ?_, h3⟩
                simp only [Sem.run_bind, hok.runAgg, Result.andThen_ok, h1, if_true, hok.runSize]
                simp only [pure, Sem.run, Result.ok.injEq, Value.agg.injEq, and_true]
                apply Array.ext'
                simp [List.drop_take]
              · refine ⟨v, ?_, h3⟩
                have hg : vs[off]? = some v := by
                  have := congrArg (fun z => z[0]?) h2
                  simp only [List.getElem?_cons_zero] at this
                  have := cut_get this
                  simpa using this.1
                simp only [Sem.run_bind, hok.runAgg, Result.andThen_ok, h1]
                simp [hg, Sem.run, pure]
            obtain ⟨v, hr, hd⟩ := hpart
            refine .val hm (v := v) ?_ hd
            unfold execOp
            rw [ho]
            simp only [Instr.field, Sem.run_bind, run_underlying hgs, Result.andThen_ok, hfd, ← hv, asAgg, e1, e2]
            simp [Sem.run, pure, hr]
          · cases h
        · cases h
      · cases h
    · cases h
  · cases h
theorem snd_fieldAddr {t : TypeId} {x : Operand} {f : Nat} (ho : o.op = .fieldAddr t x f) (h : evalOp T get box row (.fieldAddr t x f) = some ev) : Comes1 P W s ρ w nb nr e o ev := by
  simp only [evalOp] at h
  split at h
  · rename_i ty p hty hx
    split at h
    · rename_i fs hk
      split at h
      · rename_i off ft hf
        split at h
        · rename_i tf htf
          split at h
          · rename_i hpos
            obtain ⟨gs, hgs, hmap⟩ := (hT _ _ hty).struct hk
            obtain ⟨fd, hfd, hfe⟩ : ∃ fd : Field, gs[f]? = some fd ∧ (fd.offset, fd.type) = (off, ft) := by
              rw [← hmap, List.getElem?_map, Option.map_eq_some_iff] at hf
              obtain ⟨fd, h1, h2⟩ := hf
              exact ⟨fd, by simpa using h1, h2⟩
            injection hfe with e1 e2
            have hok := hT _ _ htf
            have hrun : ∀ a, e x = .pointer (some a) → (execOp e o).run P w = .ok (.value (.pointer (some (a.add off)))) w := by
              intro a ha
              unfold execOp
              rw [ho]
              simp only [Instr.fieldAt, Sem.run_bind, run_underlying hgs, Result.andThen_ok, hfd, ha, Instr.sureAddr]
              simp [Sem.run, pure, fieldPlace_run hok w hpos a fd e2, e1]
            have hp := hget _ _ hx
            split at h
            · rename_i i o'
              injection h with h; subst h
              simp only [SV.rep, Cv.den, At.den, Pt.den, Option.map_eq_some_iff] at hp
              obtain ⟨b, hb, hv⟩ := hp
              refine .val hm (hrun _ hv.symm) ?_
              simp [SV.rep, Cv.den, At.den, Pt.den, hb, add_off]
            · rename_i r i sz o'
              injection h with h; subst h
              simp only [SV.rep, Cv.den, At.den, Pt.den] at hp
              split at hp
              · rename_i a n c hσ
                injection hp with hp
                refine .val hm (hrun _ hp.symm) ?_
                simp only [SV.rep, Cv.den, At.den, Pt.den, hσ, Option.some.injEq, Value.pointer.injEq]
                unfold Addr.add
                by_cases h1 : off = 0 <;> by_cases h2 : o' = 0 <;> by_cases h3 : i.toNat * sz = 0 <;> simp [h1, h2, h3, Nat.add_assoc]
              · cases hp
            · rename_i c sz len cells i o'
              injection h with h; subst h
              simp only [SV.rep, Cv.den, At.den, Pt.den] at hp
              split at hp
              · rename_i hr
                split at hp
                · rename_i a nn cc
                  injection hp with hp
                  refine .val hm (hrun _ hp.symm) ?_
                  simp only [SV.rep, Cv.den, At.den, Pt.den, if_pos hr, Option.some.injEq, Value.pointer.injEq]
                  unfold Addr.add
                  by_cases h1 : off = 0 <;> by_cases h2 : o' = 0 <;> by_cases h3 : i.toNat * sz = 0 <;> simp [h1, h2, h3, Nat.add_assoc]
                · cases hp
              · cases hp
            · cases h
          · cases h
        · cases h
      · cases h
    · cases h
  · cases h
theorem intOfSV_run {x : Operand} {n : Int} (h : intOfSV (get x) = some n) : ∃ k, e x = .int k n := by
  unfold intOfSV at h
  split at h
  · rename_i k m hx
    injection h with h; subst h
    have hp := hget _ _ hx
    injection hp with hp
    exact ⟨k, hp.symm⟩
  · cases h
theorem elem_slice {t e' : TypeId} (h : P.underlying t = some (.slice e')) : P.elem t = e' := by simp [Program.elem, h]
theorem snd_indexAddr {t : TypeId} {x i : Operand} (ho : o.op = .indexAddr t x i) (h : evalOp T get box row (.indexAddr t x i) = some ev) : Comes1 P W s ρ w nb nr e o ev := by
  simp only [evalOp] at h
  split at h
  · rename_i ty r n hty hx hi
    obtain ⟨k, hk⟩ := intOfSV_run hT hm hget hbox hrow hnb hnr hob hi
    split at h
    · rename_i el R hkd hR
      split at h
      · rename_i te hte
        split at h
        · rename_i hsz
          injection h with h; subst h
          obtain ⟨h0, h1⟩ := hob
          obtain ⟨v0, hσ, hok⟩ := hm.row r R (hrow _ _ hR)
          obtain ⟨A, cap, rfl, hc, _, _, _, g1, _⟩ := hok.form
          obtain ⟨b, oo, rfl, hlt, _⟩ := g1 (by omega)
          have hp := hget _ _ hx
          simp only [SV.rep, Cv.den, At.den, hσ, Option.some.injEq] at hp
          have hu := (hT _ _ hty).slice hkd
          refine .val hm (v := .pointer (some ((⟨b, oo, none⟩ : Addr).add (n.toNat * te.size)))) ?_ ?_
          · unfold execOp
            rw [ho]
            simp only [Instr.indexAt, Sem.run_bind, hk, asIntOf, ← hp, run_underlying hu, Result.andThen_ok]
            simp [Sem.run, pure, h0, h1, (hT _ _ hte).runSize]
          · simp only [SV.rep, Cv.den, At.den, Pt.den, hσ, hsz, add_off, Nat.add_zero]
        · cases h
      · cases h
    · cases h
  · rename_i ty b0 off n hty hx hi
    obtain ⟨k, hk⟩ := intOfSV_run hT hm hget hbox hrow hnb hnr hob hi
    split at h
    · rename_i len el hkd
      split at h
      · rename_i te hte
        have hp := hget _ _ hx
        simp only [SV.rep, Cv.den, At.den, Pt.den, Option.map_eq_some_iff] at hp
        obtain ⟨b, hb, hv⟩ := hp
        have hu := (hT _ _ hty).array hkd
        have hrun : 0 ≤ n → n < len → (execOp e o).run P w = .ok (.value (.pointer (some ((⟨b, off, none⟩ : Addr).add (n.toNat * te.size))))) w := fun h0 h1 => by
          unfold execOp
          rw [ho]
          simp only [Instr.indexAt, Sem.run_bind, hk, asIntOf, ← hv, run_underlying hu, Result.andThen_ok]
          simp [Sem.run, pure, h0, h1, (hT _ _ hte).runSize, Instr.sureAddr]
        split at h
        · injection h with h; subst h
          obtain ⟨h0, h1⟩ := hob
          refine .val hm (hrun h0 h1) ?_
          simp [SV.rep, Cv.den, At.den, Pt.den, hb, add_off]
        · split at h
          · rename_i hs
            injection h with h; subst h
            obtain ⟨h0, h1⟩ := hob
            refine .val hm (hrun h0 h1) ?_
            simp only [SV.rep, Cv.den, At.den, Pt.den]
            rw [if_pos ⟨h0, h1⟩]
            simp [hb, add_off, hs]
          · cases h
      · cases h
    · cases h
  · rename_i ty c sz len cells n hty hx hi
    obtain ⟨k, hk⟩ := intOfSV_run hT hm hget hbox hrow hnb hnr hob hi
    split at h
    · rename_i el hkd
      split at h
      · rename_i te hte
        split at h
        · rename_i hsz
          injection h with h; subst h
          obtain ⟨h0, h1⟩ := hob
          have hp := hget _ _ hx
          simp only [SV.rep, Cv.den, At.den] at hp
          split at hp
          · rename_i hr
            obtain ⟨A, cap, rfl, hc, _, g1⟩ := inn_now hm hr
            obtain ⟨b, oo, rfl, hlt, _⟩ := g1 (by omega)
            simp only [Option.some.injEq] at hp
            have hu := (hT _ _ hty).slice hkd
            refine .val hm (v := .pointer (some ((⟨b, oo, none⟩ : Addr).add (n.toNat * te.size)))) ?_ ?_
            · unfold execOp
              rw [ho]
              simp only [Instr.indexAt, Sem.run_bind, hk, asIntOf, ← hp, run_underlying hu, Result.andThen_ok]
              simp [Sem.run, pure, h0, h1, (hT _ _ hte).runSize]
            · simp only [SV.rep, Cv.den, At.den, Pt.den]
              rw [if_pos ⟨hr, h0, h1⟩]
              simp only [hsz, add_off, Nat.add_zero]
          · cases hp
        · cases h
      · cases h
    · cases h
  · cases h
theorem snd_index {t : TypeId} {x i : Operand} (ho : o.op = .index t x i) (h : evalOp T get box row (.index t x i) = some ev) : Comes1 P W s ρ w nb nr e o ev := by
  simp only [evalOp] at h
  split at h
  · rename_i ty str n hty hx hi
    obtain ⟨k, hk⟩ := intOfSV_run hT hm hget hbox hrow hnb hnr hob hi
    split at h
    · rename_i hkd
      injection h with h; subst h
      obtain ⟨h0, h1⟩ := hob
      have hp := hget _ _ hx
      injection hp with hp
      have hu := (hT _ _ hty).str hkd
      have hlt : n.toNat < str.size := by omega
      refine .val hm (v := .int .u8 (byteAt str n)) ?_ rfl
      unfold execOp
      rw [ho]
      simp only [Instr.index, Sem.run_bind, hk, asIntOf, ← hp, run_underlying hu, Result.andThen_ok]
      have hg : str[n.toNat]? = some str[n.toNat] := by simp [hlt]
      simp [Sem.run, pure, h0, hg, byteAt]
    · cases h
  · rename_i ty l n hty hx hi
    obtain ⟨k, hk⟩ := intOfSV_run hT hm hget hbox hrow hnb hnr hob hi
    split at h
    · rename_i len el hkd
      split at h
      · rename_i te hte
        have hp := hget _ _ hx
        simp only [SV.rep, Cv.den, Option.map_eq_some_iff] at hp
        obtain ⟨vs, hvs, hv⟩ := hp
        have hu := (hT _ _ hty).array hkd
        have hrun : 0 ≤ n → n < len → ∀ v, (part el vs.toArray (n.toNat * te.size)).run P w = .ok v w → (execOp e o).run P w = .ok (.value v) w := fun h0 h1 v hr => by
          unfold execOp
          rw [ho]
          simp only [Instr.index, Sem.run_bind, hk, asIntOf, ← hv, run_underlying hu, Result.andThen_ok]
          simp [Sem.run, pure, h0, h1, (hT _ _ hte).runSize, hr]
        split at h
        · split at h
          · rename_i k' hkt
            split at h
            · rename_i xs hxs
              split at h
              · rename_i hl
                injection h with h; subst h
                obtain ⟨h0, h1⟩ := hob
                have hds := intsOf_dens hxs (ρ := ρ)
                rw [hvs] at hds
                injection hds with hds
                have hlt : n.toNat < xs.length := by omega
                have hcell : vs[n.toNat * te.size]? = some (.int k' (pickI xs n)) := by
                  rw [hds, hl.2, Nat.mul_one, List.getElem?_map, List.getElem?_eq_getElem hlt]
                  simp [pickI, List.getElem?_eq_getElem hlt]
                refine .val hm (hrun h0 h1 _ ?_) (v := .int k' (pickI xs n)) (by simp [SV.rep, Cv.den, At.den, Value.oneCell'])
                unfold part
                simp only [Sem.run_bind, (hT _ _ hte).runAgg, Result.andThen_ok, Ty.isAgg, hkt]
                simp [hcell, Sem.run, pure]
              · cases h
            · cases h
          · cases h
        · split at h
          · rename_i c hc
            injection h with h; subst h
            obtain ⟨h0, h1⟩ := hob
            obtain ⟨v, hr, hd⟩ := part_cells (hT _ _ hte) (w := w) hc hvs
            exact .val hm (hrun h0 h1 v hr) hd
          · cases h
      · cases h
    · cases h
  · cases h
end
end Go.Sx
