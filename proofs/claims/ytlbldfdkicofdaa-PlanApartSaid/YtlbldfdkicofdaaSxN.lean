/- A region whose order is drawn, carried out. -/
import Derived.Test.YtlbldfdkicofdaaSxM
namespace Go.Sx
open Go.RowKit
set_option linter.unusedVariables false
set_option linter.unusedSimpArgs false
set_option linter.unusedSectionVars false
section
variable {P : Program} {W : Base} {T : Tab} {s : St} {B0 : List (Option (List At))} {R0 : List (Option Row)} {os : List Oper} {recs : List Rec} {nb nr : Nat}

theorem guardR_yes {ops : Array Oper} {get : Operand → Option SV} {ρ : Env} {a : Act} (hget : ∀ x sv, get x = some sv → sv.rep ρ (a.eval x)) {o : Oper} (h : guardR ops.toList get o = .yes) : Region.wanted o (yielded ops a.tmps) = true := by
  unfold guardR at h
  unfold Region.wanted
  split at h
  · rename_i hg; rw [hg]
  · rename_i j want hg
    rw [hg]
    split at h
    · rename_i oj hj
      split at h
      · rename_i d hd
        split at h
        · rename_i b hb
          have hv := hget _ _ hb
          injection hv with hv
          have hy : yielded ops a.tmps j = some b := by
            unfold yielded
            have : ops[j]? = some oj := by simpa using hj
            rw [this]
            simp only [Option.bind_some, hd]
            have he : a.tmps[d]? = some (.bool b) := by
              simp only [Act.eval, Array.getD_eq_getD_getElem?] at hv
              cases h2 : a.tmps[d]? with
              | none => rw [h2] at hv; simp [undef] at hv
              | some x => rw [h2] at hv; simp at hv; rw [hv]
            rw [he]
          simp only [hy]
          cases b <;> cases want <;> simp_all
        · cases h
        · cases h
      · cases h
    · cases h
theorem guardR_no {ops : Array Oper} {get : Operand → Option SV} {ρ : Env} {a : Act} (hget : ∀ x sv, get x = some sv → sv.rep ρ (a.eval x)) {o : Oper} (h : guardR ops.toList get o = .no) : Region.wanted o (yielded ops a.tmps) = false := by
  unfold guardR at h
  unfold Region.wanted
  split at h
  · cases h
  · rename_i j want hg
    rw [hg]
    split at h
    · rename_i oj hj
      have hoj : ops[j]? = some oj := by simpa using hj
      split at h
      · rename_i d hd
        split at h
        · rename_i b hb
          have hv := hget _ _ hb
          injection hv with hv
          have hy : yielded ops a.tmps j = some b := by
            unfold yielded
            rw [hoj]
            simp only [Option.bind_some, hd]
            have he : a.tmps[d]? = some (.bool b) := by
              simp only [Act.eval, Array.getD_eq_getD_getElem?] at hv
              cases h2 : a.tmps[d]? with
              | none => rw [h2] at hv; simp [undef] at hv
              | some x => rw [h2] at hv; simp at hv; rw [hv]
            rw [he]
          simp only [hy]
          cases b <;> cases want <;> simp_all
        · rename_i hb
          obtain ⟨us, h2, h3⟩ := hget _ _ hb
          have hy : yielded ops a.tmps j = none := by
            unfold yielded
            rw [hoj]
            simp only [Option.bind_some, hd]
            simp only [Act.eval, Array.getD_eq_getD_getElem?] at h3
            cases h2 : a.tmps[d]? with
            | none => rfl
            | some x => rw [h2] at h3; simp at h3; rw [h3]
          simp [hy]
        · cases h
      · cases h
    · cases h

/-- What is left of the proof of a step: the frame. -/
theorem Holds.next (hch : Chain P W T s B0 R0 os recs nb nr) {S : Nat → Prop} {a : Act} {w : World} {ρ : Env} {s' : St} (h : Holds W s B0 R0 os recs S a w ρ s') {i : Nat} {r : Rec} {o : Oper} (hr : recs[i]? = some r) (ho : os[i]? = some o) (hni : ¬ S i)
    (hed : ∀ e ∈ o.after.toList, Region.binds .any e = true → S e.on) {v : Value} {w' : World} {ρ' : Env} {s'' : St} (hle : ρ.le ρ') (hm : Mem W s'' ρ' w') (hv : r.sv.rep ρ' v)
    (kB : ∀ (k : Nat) c, (∀ c', r.box = some c' → k ≠ r.nb) → s'.B[k]? = some (some c) → s''.B[k]? = some (some c)) (kR : ∀ (k : Nat) R, (k < r.nr ∨ r.nr + r.rows.length ≤ k) → r.kill ≠ some k → s'.R[k]? = some (some R) → s''.R[k]? = some (some R))
    (nB : ∀ c, r.box = some c → s''.B[r.nb]? = some (some c)) (nR : ∀ (k : Nat) R, r.rows[k]? = some R → s''.R[r.nr + k]? = some (some R))
    (eB : ∀ k, (∀ c', r.box = some c' → k ≠ r.nb) → ρ'.β k = ρ.β k) (eR : ∀ k, (k < r.nr ∨ r.nr + r.rows.length ≤ k) → ρ'.σ k = ρ.σ k) :
    Holds W s B0 R0 os recs (fun j => j = i ∨ S j) (a.put o.dst v) w' ρ' s'' := by
  obtain ⟨o', ho', hok⟩ := hch.ok i r hr
  rw [ho] at ho'; injection ho' with ho'; subst ho'
  -- other records' boxes and rows are elsewhere
  have hanc : ∀ j, bit r.anc j = true → S j := anc_in hch h.cl i r o hr ho hed
  have oB : ∀ (j : Nat) rj c, recs[j]? = some rj → j ≠ i → rj.box = some c → ∀ c', r.box = some c' → rj.nb = r.nb → (j < i ∧ S j) ∨ (i < j ∧ ¬ S j) := by
    intro j rj c hj hne hc c' hc' he
    rcases Nat.lt_or_gt_of_ne hne with hlt | hlt
    · exact .inl ⟨hlt, hanc j (same_nb hch hj hr hlt hc hc' he).1⟩
    · refine .inr ⟨hlt, fun hSj => hni ?_⟩
      obtain ⟨oj, hoj, _⟩ := hch.ok j rj hj
      exact anc_in hch h.cl j rj oj hj hoj (h.cl j oj hSj hoj) i (same_nb hch hr hj hlt hc' hc he.symm).1
  have oR : ∀ (j : Nat) rj (k : Nat), recs[j]? = some rj → j ≠ i → k < rj.rows.length → rj.nr + k < r.nr ∨ r.nr + r.rows.length ≤ rj.nr + k := by
    intro j rj k hj hne hk
    rcases Nat.lt_or_gt_of_ne hne with hlt | hlt
    · have := hok.nr.2 j rj (by rw [List.getElem?_take, if_pos hlt]; exact hj); omega
    · obtain ⟨oj, _, hokj⟩ := hch.ok j rj hj
      have := hokj.nr.2 i r (by rw [List.getElem?_take, if_pos hlt]; exact hr); omega
  have frame : ∀ (d : Nat) u, a.tmps[d]? = some u → o.dst ≠ some d → (a.put o.dst v).tmps[d]? = some u := by
    intro d u hd hne
    cases hdst : o.dst with
    | none => exact hd
    | some d' =>
      have : d' ≠ d := fun e => hne (by rw [hdst, e])
      simp [Act.put, Array.getElem?_setIfInBounds_ne this, hd]
  refine ⟨hm, fun k c hk => kB k c ?_ (h.bB k c hk), fun k R hk => kR k R ?_ ?_ (h.bR k R hk), fun j rj c hj hS hc hlater => ?_, fun j rj k R hj hS hk hkn => ?_, fun j rj q hj hS hkj hql => ?_, fun j rj c hj hS hc hbl hfst => ?_, fun j rj c hj hS hc hbl => ?_, fun j rj k hj hS hk => ?_, fun k hk => ?_, fun k hk => ?_, ?_, ?_,
    fun j rj d hj hS hd => ?_, fun t x ht hn => ?_, fun j oj hS hoj e he hb => ?_, reps_le hle h.gh⟩
  · intro c' hc' e
    have := (List.getElem?_eq_some_iff.1 hk).1
    rcases hok.nb with hb | hb | hb
    · have := hb.1; omega
    · rw [e] at hk; exact hb.2.2.1 c hk
    · have := hb.1; omega
  · have := (List.getElem?_eq_some_iff.1 hk).1
    have := hok.nr.1
    exact .inl (by omega)
  · intro e
    rcases (hok.kl k e).2 with ⟨_, hn, _⟩ | ⟨hge, _⟩
    · exact hn R hk
    · have := (List.getElem?_eq_some_iff.1 hk).1; omega
  · rcases Classical.em (j = i) with rfl | hne
    · rw [hr] at hj; injection hj with hj; subst hj
      exact nB c hc
    · refine kB _ c (fun c' hc' he => ?_) (h.nB j rj c hj (hS.resolve_left hne) hc fun j' rj' c'' hlt hj' hS' hc'' => hlater j' rj' c'' hlt hj' (.inr hS') hc'')
      rcases oB j rj c hj hne hc c' hc' he with ⟨hlt, _⟩ | ⟨_, hn⟩
      · exact hlater i r c' hlt hr (.inl rfl) hc' he.symm
      · exact hn (hS.resolve_left hne)
  · rcases Classical.em (j = i) with rfl | hne
    · rw [hr] at hj; injection hj with hj; subst hj
      exact nR k R hk
    · exact kR _ R (oR j rj k hj hne (List.getElem?_eq_some_iff.1 hk).1) (hkn i r hr (.inl rfl)) (h.nR j rj k R hj (hS.resolve_left hne) hk fun j' rj' hj' hS' => hkn j' rj' hj' (.inr hS'))
  · have hne : j ≠ i := fun e => hS (.inl e)
    obtain ⟨old, g1, g2⟩ := h.hR j rj q hj (fun hs => hS (.inr hs)) hkj hql
    have hnr := hok.nr.1
    refine ⟨old, g1, kR q old (.inl (by omega)) (fun e => ?_) g2⟩
    rcases Nat.lt_or_gt_of_ne hne with hlt | hlt
    · exact (hok.kl q e).1 j rj (by rw [List.getElem?_take, if_pos hlt]; exact hj) hkj
    · obtain ⟨oj, _, hokj⟩ := hch.ok j rj hj
      exact (hokj.kl q hkj).1 i r (by rw [List.getElem?_take, if_pos hlt]; exact hr) e
  · have hne : j ≠ i := fun e => hS (.inl e)
    rw [eB _ (fun c' hc' he => by
      rcases oB j rj c hj hne hc c' hc' he with ⟨_, hSj⟩ | ⟨hgt, _⟩
      · exact hS (.inr hSj)
      · exact hfst i r c' hgt hr hc' he.symm)]
    exact h.fB j rj c hj (fun hs => hS (.inr hs)) hc hbl hfst
  · have hne : j ≠ i := fun e => hS (.inl e)
    obtain ⟨old, g1, g2⟩ := h.hB j rj c hj (fun hs => hS (.inr hs)) hc hbl
    refine ⟨old, g1, kB _ old (fun c' hc' he => ?_) g2⟩
    rcases oB j rj c hj hne hc c' hc' he with ⟨_, hSj⟩ | ⟨hgt, _⟩
    · exact hS (.inr hSj)
    · have := (same_nb hch hr hj hgt hc' hc he.symm).2.1; omega
  · have hne : j ≠ i := fun e => hS (.inl e)
    rw [eR _ (oR j rj k hj hne hk)]
    exact h.fR j rj k hj (fun hs => hS (.inr hs)) hk
  · rw [eB k ?_]
    · exact h.dB k hk
    · intro c' hc' e
      have := finB_len (l := recs) (B := s.B) |>.2 i r c' hr hc'
      omega
  · rw [eR k ?_]
    · exact h.dR k hk
    · rcases Nat.eq_zero_or_pos r.rows.length with h0 | h0
      · omega
      · have := finR_len (l := recs) (Rs := s.R) |>.2 i r (r.rows.length - 1) hr (by omega)
        omega
  · cases hdst : o.dst <;> simp [Act.put, h.de]
  · cases hdst : o.dst <;> simp [Act.put, h.sz]
  · rcases Classical.em (j = i) with rfl | hne
    · rw [hr] at hj; injection hj with hj; subst hj
      refine ⟨v, ?_, hv⟩
      have ha := hok.alone
      rw [hok.dst] at hd
      rw [hd] at ha ⊢
      simp only [dstOk, Bool.and_eq_true, decide_eq_true_eq] at ha
      simp [Act.put, h.sz, ha.1]
    · obtain ⟨u, g1, g2⟩ := h.wr j rj d hj (hS.resolve_left hne) hd
      refine ⟨u, frame d u g1 ?_, SV.rep_le hle g2⟩
      rw [← hok.dst]
      exact dst_ne hch hj hr hne hd
  · obtain ⟨u, g1, g2⟩ := h.un t x ht (fun j rj hj hS => hn j rj hj (.inr hS))
    refine ⟨u, frame t u g1 ?_, SV.rep_le hle g2⟩
    rw [← hok.dst]
    exact hn i r hr (.inl rfl)
  · rcases hS with rfl | hS
    · rw [ho] at hoj; injection hoj with hoj; subst hoj
      exact .inr (hed e he hb)
    · exact .inr (h.cl j oj hS hoj e he hb)

theorem Holds.step (hT : TabOk P T) {ops : Array Oper} (hos : os = ops.toList) {f : Fr} {R : Ending → World → Prop} {k : List Item} (hch : Chain P W T s B0 R0 os recs nb nr) {S : Nat → Prop} {a : Act} {w : World} {ρ : Env} {s' : St} (h : Holds W s B0 R0 os recs S a w ρ s') {i : Nat} {r : Rec} {o : Oper}
    (hr : recs[i]? = some r) (ho : ops[i]? = some o) (hni : ¬ S i) (hed : ∀ e ∈ o.after.toList, Region.binds .any e = true → S e.on) {rest : List Nat}
    (next : ∀ a' w' ρ' s'', Holds W s B0 R0 os recs (fun j => j = i ∨ S j) a' w' ρ' s'' → Good P f R (.inRegion ops rest :: k) a' w') : Good P f R (.inRegion ops (i :: rest) :: k) a w := by
  have ho' : os[i]? = some o := by rw [hos]; simpa using ho
  obtain ⟨o2, ho2, hok⟩ := hch.ok i r hr
  rw [ho'] at ho2; injection ho2 with ho2; subst ho2
  have hget := get_ok hch h hr ho' hni hed
  have hbox := box_ok hch h hr ho' hni hed
  have hrow := row_ok hch h hr ho' hni hed
  have hbox' : ∀ k c, lookB (smallB r.anc (recs.take i) 0 s.B) k = some c → s'.B[k]? = some (some c) := fun k c hk => hbox k c (lookB_ok hk)
  have hrow' : ∀ k c, lookR (smallK r.anc (recs.take i) s.R) k = some c → s'.R[k]? = some (some c) := fun k c hk => hrow k c (lookR_ok hk)
  have dom : Dom s' ρ → True := fun _ => trivial
  have hfb := h.dB _ (Nat.le_refl _)
  have hfr := h.dR _ (Nat.le_refl _)
  have hkind := hok.kind
  subst hos
  cases hkind with
  | skip hg h1 h2 h3 =>
    refine Good.opSkip ho (guardR_no hget hg) (next _ _ ρ s' (h.next hch hr ho' hni hed (Env.le_refl ρ) h.mem (by rw [h1]; exact ⟨[], rfl, rfl⟩) (fun _ _ _ hk => hk) (fun _ _ _ _ hk => hk) (fun c hc => by rw [h2] at hc; cases hc) (fun k R hk => by rw [h3] at hk; simp at hk) (fun _ _ => rfl) (fun _ _ => rfl)))
  | val sv ob hg he hob h1 h2 h3 =>
    obtain ⟨v, w', ρ', hrun, hle, hrep, hm', e1, e2⟩ := evalOp_sound hT h.mem hget hbox' hrow' hfb hfr (e := a.eval) (ev := .val sv ob) hob he
    refine Good.op (K := fun u w2 => u = v ∧ w2 = w') ho (guardR_yes hget hg) (evalOp_nd he) ?_ ?_
    · unfold Does
      rcases hrun with hr' | ⟨hr', rfl⟩ <;> rw [hr'] <;> exact ⟨rfl, rfl⟩
    · rintro u w2 ⟨rfl, rfl⟩
      exact next _ _ ρ' s' (h.next hch hr ho' hni hed hle hm' (h1 _ _ hrep) (fun _ _ _ hk => hk) (fun _ _ _ _ hk => hk) (fun c hc => by rw [h2] at hc; cases hc) (fun k R hk => by rw [h3] at hk; simp at hk) (fun k _ => e1 k (.inr rfl)) (fun k _ => e2 k (.inr rfl)))
  | box c hg he h1 h2 h3 hbl hbn =>
    have hnb := h.fB i r c hr hni h2 hbl fun q rq c' hq hrq hcq => Nat.ne_of_lt (hbn q rq c' (by rw [List.getElem?_take, if_pos hq]; exact hrq) hcq)
    obtain ⟨v, w', ρ', hrun, hle, hrep, hm', e1, e2⟩ := evalOp_sound hT h.mem hget hbox' hrow' hnb hfr (e := a.eval) (ev := .box c) trivial he
    refine Good.op (K := fun u w2 => u = v ∧ w2 = w') ho (guardR_yes hget hg) (evalOp_nd he) ?_ ?_
    · unfold Does
      rcases hrun with hr' | ⟨hr', rfl⟩ <;> rw [hr'] <;> exact ⟨rfl, rfl⟩
    · rintro u w2 ⟨rfl, rfl⟩
      refine next _ _ ρ' (s'.eff r.nb _ (.box c)) (h.next hch hr ho' hni hed hle hm' (by rw [h1]; exact hrep) (fun k d hk hd => ?_) (fun _ _ _ _ hk => hk) (fun d hd => ?_) (fun k R hk => by rw [h3] at hk; simp at hk) (fun k hk => e1 k (.inl (hk c h2))) (fun k _ => e2 k (.inr rfl)))
      · exact setAt_other (hk c h2) hd
      · rw [h2] at hd; injection hd with hd; subst hd
        exact setAt_same _ _ _
  | row ev Rw hev hg he hob h1 h2 h3 =>
    have hnr := h.fR i r 0 hr hni (by rw [h3]; simp)
    rw [Nat.add_zero] at hnr
    obtain ⟨v, w', ρ', hrun, hle, hrep, hm', e1, e2⟩ := evalOp_sound hT h.mem hget hbox' hrow' hfb hnr (e := a.eval) (ev := ev) hob he
    have hsv : ev.sv (finB recs s.B).length r.nr = .cv (.one (.rs r.nr)) := by
      rcases hev with ⟨ob, rfl⟩ | ⟨ob, rfl⟩ | ⟨q, Q, ob, rfl, _⟩ <;> rfl
    have hbx : ev.isBox = false := by
      rcases hev with ⟨ob, rfl⟩ | ⟨ob, rfl⟩ | ⟨q, Q, ob, rfl, _⟩ <;> rfl
    have heff : ∀ nbx, (s'.eff nbx r.nr ev).B = s'.B ∧ (s'.eff nbx r.nr ev).R = setAt s'.R r.nr Rw := by
      intro nbx
      rcases hev with ⟨ob, rfl⟩ | ⟨ob, rfl⟩ | ⟨q, Q, ob, rfl, hq, hQ⟩
      · exact ⟨rfl, rfl⟩
      · exact ⟨rfl, rfl⟩
      · refine ⟨rfl, ?_⟩
        simp only [St.eff]
        rw [disown_none (hrow' q Q hq) hQ]
    refine Good.op (K := fun u w2 => u = v ∧ w2 = w') ho (guardR_yes hget hg) (evalOp_nd he) ?_ ?_
    · unfold Does
      rcases hrun with hr' | ⟨hr', rfl⟩ <;> rw [hr'] <;> exact ⟨rfl, rfl⟩
    · rintro u w2 ⟨rfl, rfl⟩
      rw [hsv] at hrep
      refine next _ _ ρ' (s'.eff _ r.nr ev) (h.next hch hr ho' hni hed hle hm' (by rw [h1]; exact hrep) (fun k d hk hd => by rw [(heff _).1]; exact hd) (fun k Q hk _ hQ => ?_) (fun c hc => by rw [h2] at hc; cases hc) (fun k Q hk => ?_) (fun k _ => e1 k (.inr hbx)) (fun k hk => e2 k (.inl (by rw [h3] at hk; simp at hk; omega))))
      · rw [(heff _).2]
        exact setAt_other (by rw [h3] at hk; simp at hk; omega) hQ
      · rw [(heff _).2]
        rw [h3] at hk
        cases k with
        | zero => simp at hk; subst hk; exact setAt_same _ _ _
        | succ k => simp at hk
  | put q c hg he h1 h2 h3 h4 h5 =>
    obtain ⟨old, g1, g2⟩ := h.hB i r c hr hni h2 h5
    have hb1 : ∀ k c, onlyB B0 q k = some c → s'.B[k]? = some (some c) := by
      intro k c' hk
      unfold onlyB at hk
      split at hk
      · rename_i e
        have e := Nat.eq_of_beq_eq_true e
        have hl := lookB_ok hk
        rw [e, ← h4] at hl ⊢
        rw [g1] at hl; rw [← hl]; exact g2
      · cases hk
    obtain ⟨v, w', ρ', hrun, hle, hrep, hm', e1, e2⟩ := evalOp_sound hT h.mem hget hb1 hrow' hfb hfr (e := a.eval) (ev := .put q c) trivial he
    refine Good.op (K := fun u w2 => u = v ∧ w2 = w') ho (guardR_yes hget hg) (evalOp_nd he) ?_ ?_
    · unfold Does
      rcases hrun with hr' | ⟨hr', rfl⟩ <;> rw [hr'] <;> exact ⟨rfl, rfl⟩
    · rintro u w2 ⟨rfl, rfl⟩
      refine next _ _ ρ' { s' with B := setAt s'.B q c } (h.next hch hr ho' hni hed hle hm' (by rw [h1]; exact hrep) (fun k d hk hd => ?_) (fun _ _ _ _ hk => hk) (fun d hd => ?_) (fun k R hk => by rw [h3] at hk; simp at hk) (fun k _ => e1 k (.inr rfl)) (fun k _ => e2 k (.inr rfl)))
      · exact setAt_other (by rw [← h4]; exact hk c h2) hd
      · rw [h2] at hd; injection hd with hd; subst hd
        rw [h4]; exact setAt_same _ _ _
  | putR q c hg he h1 h2 h3 h4 =>
    obtain ⟨v, w', ρ', hrun, hle, hrep, hm', e1, e2⟩ := evalOp_sound hT h.mem hget hbox' hrow' hfb hfr (e := a.eval) (ev := .put q c) trivial he
    refine Good.op (K := fun u w2 => u = v ∧ w2 = w') ho (guardR_yes hget hg) (evalOp_nd he) ?_ ?_
    · unfold Does
      rcases hrun with hr' | ⟨hr', rfl⟩ <;> rw [hr'] <;> exact ⟨rfl, rfl⟩
    · rintro u w2 ⟨rfl, rfl⟩
      refine next _ _ ρ' { s' with B := setAt s'.B q c } (h.next hch hr ho' hni hed hle hm' (by rw [h1]; exact hrep) (fun k d hk hd => ?_) (fun _ _ _ _ hk => hk) (fun d hd => ?_) (fun k R hk => by rw [h3] at hk; simp at hk) (fun k _ => e1 k (.inr rfl)) (fun k _ => e2 k (.inr rfl)))
      · exact setAt_other (by rw [← h4]; exact hk c h2) hd
      · rw [h2] at hd; injection hd with hd; subst hd
        rw [h4]; exact setAt_same _ _ _
  | give q Rw ob rowf hg he hob h1 h2 h3 h4 h5 =>
    have hnr := h.fR i r 0 hr hni (by rw [h3]; simp)
    rw [Nat.add_zero] at hnr
    have hrowf : ∀ k c, rowf k = some c → s'.R[k]? = some (some c) := by
      rcases h5 with rfl | ⟨hql, rfl⟩
      · exact hrow'
      · intro k c hk
        unfold withR at hk
        split at hk
        · rename_i e
          have e := Nat.eq_of_beq_eq_true e
          subst e
          obtain ⟨old, g1, g2⟩ := h.hR i r k hr hni h4 hql
          have hl := lookR_ok hk
          rw [g1] at hl; rw [← hl]; exact g2
        · exact hrow' k c hk
    obtain ⟨v, w', ρ', hrun, hle, hrep, hm', e1, e2⟩ := evalOp_sound hT h.mem hget hbox' hrowf hfb hnr (e := a.eval) (ev := .app (some q) Rw ob) hob he
    refine Good.op (K := fun u w2 => u = v ∧ w2 = w') ho (guardR_yes hget hg) (evalOp_nd he) ?_ ?_
    · unfold Does
      rcases hrun with hr' | ⟨hr', rfl⟩ <;> rw [hr'] <;> exact ⟨rfl, rfl⟩
    · rintro u w2 ⟨rfl, rfl⟩
      refine next _ _ ρ' { s' with R := setAt (unset s'.R q) r.nr Rw } (h.next hch hr ho' hni hed hle hm' (by rw [h1]; exact hrep) (fun k d hk hd => hd) (fun k Q hk hkq hQ => ?_) (fun c hc => by rw [h2] at hc; cases hc) (fun k Q hk => ?_) (fun k _ => e1 k (.inr rfl)) (fun k hk => e2 k (.inl (by rw [h3] at hk; simp at hk; omega))))
      · exact setAt_other (by rw [h3] at hk; simp at hk; omega) (unset_other (fun e => hkq (by rw [h4, e])) hQ)
      · rw [h3] at hk
        cases k with
        | zero => simp at hk; subst hk; exact setAt_same _ _ _
        | succ k => simp at hk
  | call g args hd hg hc hcall h1 h2 h3 h4 =>
    obtain ⟨vs, hrun, hreps⟩ := callOf_ok (w := w) hget hc hcall.can
    have hcl := hcall.does s' ρ w vs h.mem hrow hbox (fun r hr => by rw [h4] at hr; cases hr) hreps
    refine Good.op (K := fun v w' => HdPost W ρ w hd (.returned v) w') ho (guardR_yes hget hg) (callOf_nd hc) ?_ ?_
    · unfold Does
      rw [hrun]
      refine hcl.mono fun e w' hp => ?_
      obtain ⟨v, vals, rfl, hb, hn, hres⟩ := hp
      exact ⟨v, rfl, v, vals, rfl, hb, hn, hres⟩
    · rintro v w' ⟨v', vals, hv, hb, hn, hres⟩
      injection hv with hv; subst hv
      rw [h4] at hb hn
      obtain ⟨ρ', g1, g2, g3, g4, g5⟩ := Mem.addRows (n := r.nr) (h.mem.callee (grown_none hb)) (Env.le_refl ρ) hn.len (fun q hq => h.fR i r q hr hni (by rw [h3]; exact hq)) (fun q R u hR hu => (hn.ok q R u hR hu).1)
        (fun q R u i c b hR hu hi hb' ht => by
          have h1 := ((hn.ok q R u hR hu).2 b ht).resolve_right (by simp [killBlk])
          have h2 := h.mem.box_lt hi hb'
          omega)
        (fun q R u r R' v' b hR hu hr' hv' _ ht' ht => by
          have h1 := ((hn.ok q R u hR hu).2 b ht).resolve_right (by simp [killBlk])
          have h2 := h.mem.row_lt hr' hv' ht'
          omega)
        hn.apart
      refine next _ _ ρ' { s' with R := setRows s'.R r.nr hd.rows } (h.next hch hr ho' hni hed g1 g2 (by rw [h1]; exact hres _ ρ' g1 g3) (fun k c _ hk => hk) (fun q Q hq _ hQ => setRows_other (by rw [← h3]; exact hq) hQ) (fun c hc => by rw [h2] at hc; cases hc) (fun q Q hq => setRows_new (by rw [← h3]; exact hq)) (fun q _ => g4 q) (fun q hq => g5 q (by rw [← h3]; exact hq)))

theorem Holds.start (hch : Chain P W T s B0 R0 os recs nb nr) (hB0 : ∀ (k : Nat) c, s.B[k]? = some (some c) → B0[k]? = some (some c)) (hBl : s.B.length = B0.length) (hR0 : ∀ (k : Nat) c, s.R[k]? = some (some c) → R0[k]? = some (some c)) (hRl : s.R.length = R0.length) {a : Act} {w : World} {ρ : Env} (hm : Mem W { s with B := B0, R := R0 } ρ w) (hf : Frm ρ s.F a) (hd : Dom { s with B := B0, R := R0 } ρ) : Holds W s B0 R0 os recs (fun _ => False) a w ρ { s with B := B0, R := R0 } := by
  refine ⟨hm, hB0, hR0, fun _ _ _ _ h => h.elim, fun _ _ _ _ _ h => h.elim, fun i r q hr _ hkq hql => ?_, fun i r c hr _ hc hbl _ => ?_, fun i r c hr _ hc hbl => ?_, fun i r k hr _ hk => ?_, fun k hk => hd.box k (Nat.le_trans (Nat.le_of_eq hBl.symm) (Nat.le_trans finB_len.1 hk)), fun k hk => hd.row k (Nat.le_trans (Nat.le_of_eq hRl.symm) (Nat.le_trans finR_len.1 hk)), hf.defers, by simpa using reps_len hf.tmps,
    fun _ _ _ _ h => h.elim, fun t x ht _ => ?_, fun _ _ h => h.elim, hm.ghost⟩
  · obtain ⟨o, _, hok⟩ := hch.ok i r hr
    rcases (hok.kl q hkq).2 with ⟨_, _, old, g⟩ | ⟨hge, _⟩
    · exact ⟨old, g, g⟩
    · omega
  · exact hd.box _ (by show B0.length ≤ _; rw [← hBl]; exact hbl)
  · obtain ⟨o, _, hok⟩ := hch.ok i r hr
    rcases hok.nb with hb | ⟨_, _, _, old, hb⟩ | hb
    · have := hb.1; omega
    · exact ⟨old, hb, hb⟩
    · have := hb.1; omega
  · obtain ⟨o, _, hok⟩ := hch.ok i r hr
    exact hd.row _ (by have := hok.nr.1; show R0.length ≤ _; omega)
  · obtain ⟨v, h1, h2⟩ := reps_get hf.tmps ht
    exact ⟨v, by simpa using h1, h2⟩
theorem Holds.fin (hch : Chain P W T s B0 R0 os recs nb nr) {S : Nat → Prop} {a : Act} {w : World} {ρ : Env} {s' : St} (h : Holds W s B0 R0 os recs S a w ρ s') (hall : ∀ j, j < recs.length → S j) :
    Mem W ⟨finF recs s.F, finB recs s.B, killAll recs (finR recs s.R), s.G⟩ ρ w ∧ Frm ρ (finF recs s.F) a ∧ Dom ⟨finF recs s.F, finB recs s.B, killAll recs (finR recs s.R), s.G⟩ ρ := by
  refine ⟨h.mem.subG (fun k c hk => ?_) (fun k c hk => ?_) h.gh, ⟨h.de, reps_of (by rw [finF_len]; simpa using h.sz) fun t x ht => ?_⟩, ⟨h.dB, fun k hk => h.dR k (by rw [killAll_len] at hk; exact hk)⟩⟩
  · rcases finB_get hk with ⟨hk, _⟩ | ⟨q, r, h1, h2, h3, h4⟩
    · exact h.bB k c hk
    · rw [← h3]; exact h.nB q r c h1 (hall q (List.getElem?_eq_some_iff.1 h1).1) h2 fun j rj c' hlt hj _ hcj => by rw [h3]; exact h4 j rj c' hlt hj hcj
  · obtain ⟨hk, hkn⟩ := killAll_get hk
    rcases finR_get hk with hk | ⟨q, r, p, h1, h2, h3⟩
    · exact h.bR k c hk
    · rw [← h3]; exact h.nR q r p c h1 (hall q (List.getElem?_eq_some_iff.1 h1).1) h2 fun j rj hj _ => by rw [h3]; exact hkn j rj hj
  · rcases finF_get ht with ⟨q, r, h1, h2, h3⟩ | ⟨h1, h2⟩
    · obtain ⟨v, g1, g2⟩ := h.wr q r t h1 (hall q (List.getElem?_eq_some_iff.1 h1).1) h2
      exact ⟨v, by simpa using g1, by rw [← h3]; exact g2⟩
    · obtain ⟨v, g1, g2⟩ := h.un t x h1 (fun i r hr _ => h2 i r hr)
      exact ⟨v, by simpa using g1, g2⟩
theorem allBits_get {l : List Bool} : ∀ {n j : Nat}, allBits l n = true → j < n → bit l j = true
  | 0, j, _, h => absurd h (by omega)
  | n + 1, j, h, hj => by
    simp only [allBits, Bool.and_eq_true] at h
    rcases Nat.lt_or_ge j n with hlt | hge
    · exact allBits_get h.2 hlt
    · rw [show j = n by omega]; exact h.1

/-- A region whose order is drawn: all but the last one in whatever order, then the last one, if there is one that all others are ahead of. -/
theorem SG.drawn (hT : TabOk P T) (hmx : P.follows .mixedOrders = true) {ops : Array Oper} (hos : os = ops.toList) (he : edgesOk os 0 = true) {f : Fr} {R : Ending → World → Prop} {k : List Item} {id : Nat} (hch : Chain P W T s B0 R0 os recs nb nr)
    (hlen : recs.length ≤ ops.size) (hall : ∀ o, os[recs.length]? = some o → allBits (ancOf recs o.after.toList) recs.length = true) (htail : ∀ (i : Nat) o, recs.length < i → os[i]? = some o → ∃ e ∈ o.after.toList, Region.binds .any e = true ∧ e.on + 1 = i)
    (hB0 : ∀ (k : Nat) c, s.B[k]? = some (some c) → B0[k]? = some (some c)) (hBl : s.B.length = B0.length) (hR0 : ∀ (k : Nat) c, s.R[k]? = some (some c) → R0[k]? = some (some c)) (hRl : s.R.length = R0.length)
    (h : SG P f R W (.inRegion ops (lastIx recs.length ops.size) :: k) ⟨finF recs s.F, finB recs s.B, killAll recs (finR recs s.R), s.G⟩) : SG P f R W (.code (.region id ops true) :: k) { s with B := B0, R := R0 } := by
  refine ⟨fun ρ w a hm hf hd => good_region_any hmx fun t => ?_⟩
  have hm0 : Mem W { s with B := B0, R := R0 } ρ { w with drawn := w.drawn + 1 } := hm.keep ⟨hm.below.os, hm.below.tape, hm.below.output, hm.below.size, hm.below.block, hm.below.objs, hm.below.low, hm.below.nd⟩ (Nat.le_refl _) (fun _ _ _ _ _ => rfl) (fun _ _ _ _ _ _ _ => rfl)
  have h0 := Holds.start hch hB0 hBl hR0 hRl hm0 hf hd
  have hl0 : ∀ j, ¬ listedF (Array.replicate ops.size false) j := by
    intro j
    unfold listedF
    simp only [Array.getD_eq_getD_getElem?, Array.getElem?_replicate]
    split <;> simp
  refine good_any (by rw [← hos]; exact he) (fun S a w => ∃ ρ s', Holds W s B0 R0 os recs S a w ρ s') recs.length hlen (fun i o hi ho => htail i o hi (by rw [hos]; simpa using ho)) ?_ ?_ ?_ ?_ ops.size t (Array.replicate ops.size false) a _ (by simp) (fun j _ => hl0 j) (by simp) ?_
  · rintro S i o a w rest him ho hni hed ⟨ρ, s', hh⟩ hnext
    have hr : recs[i]? = some recs[i] := List.getElem?_eq_getElem him
    exact hh.step hT hos hch hr ho hni hed fun a' w' ρ' s'' hh' => hnext a' w' ⟨ρ', s'', hh'⟩
  · rintro S a w ⟨ρ, s', hh⟩ o ho hed j hj
    have hb := allBits_get (hall o (by rw [hos]; simpa using ho)) hj
    obtain ⟨e, h1, h2, h3 | ⟨r, hr, h3⟩⟩ := bit_ancOf hb
    · rw [h3]; exact hed e h1 h2
    · have hSe := hed e h1 h2
      obtain ⟨oe, hoe, _⟩ := hch.ok e.on r hr
      exact anc_in hch hh.cl e.on r oe hr hoe (hh.cl e.on oe hSe hoe) j h3
  · rintro S a w ⟨ρ, s', hh⟩ hall
    obtain ⟨g1, g2, g3⟩ := hh.fin hch hall
    exact h.run ρ w a g1 g2 g3
  · rintro S S' a w hSS ⟨ρ, s', hh⟩
    have : S = S' := funext fun j => propext (hSS j)
    subst this
    exact ⟨ρ, s', hh⟩
  · have : listedF (Array.replicate ops.size false) = fun _ => False := funext fun j => propext ⟨fun h => hl0 j h, False.elim⟩
    rw [this]
    exact ⟨ρ, _, h0⟩
end
end Go.Sx
