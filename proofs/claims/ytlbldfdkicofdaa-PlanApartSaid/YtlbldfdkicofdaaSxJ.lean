/- The walk is sound. -/
import Derived.Test.YtlbldfdkicofdaaSxL
namespace Go.Sx
open Go.RowKit
set_option linter.unusedVariables false
set_option linter.unusedSimpArgs false
set_option linter.unusedSectionVars false

theorem setAt_len {α : Type} : ∀ (l : List (Option α)) (n : Nat) (x : α), (setAt l n x).length = max l.length (n + 1)
  | [], 0, x => rfl
  | [], n + 1, x => by simp [setAt, setAt_len [] n x]
  | _ :: l, 0, x => by simp [setAt]
  | y :: l, n + 1, x => by simp [setAt, setAt_len l n x]
theorem unset_len {α : Type} : ∀ (l : List (Option α)) (n : Nat), (unset l n).length = l.length
  | [], _ => rfl
  | _ :: l, 0 => rfl
  | y :: l, n + 1 => by simp [unset, unset_len l n]
theorem disown_len : ∀ (l : List (Option Row)) (n : Nat), (disown l n).length = l.length
  | [], _ => rfl
  | none :: l, 0 => rfl
  | some _ :: l, 0 => rfl
  | none :: l, n + 1 => by simp [disown, disown_len l n]
  | some _ :: l, n + 1 => by simp [disown, disown_len l n]
theorem setRows_len : ∀ (rows : List Row) (l : List (Option Row)) (n : Nat), l.length ≤ (setRows l n rows).length ∧ n + rows.length ≤ max (setRows l n rows).length n
  | [], l, n => by simp [setRows]; omega
  | R :: Rs, l, n => by
    have h := setRows_len Rs (setAt l n R) (n + 1)
    rw [setAt_len] at h
    simp only [setRows, List.length_cons]
    omega

/-- New rows, all at once. -/
theorem Mem.addRows {W : Base} {w' : World} {ρ0 : Env} : ∀ {rows : List Row} {vals : List Value} {s : St} {ρ : Env} {n : Nat}, Mem W s ρ w' → ρ0.le ρ → vals.length = rows.length → (∀ k, k < rows.length → ρ.σ (n + k) = none) →
    (∀ (k : Nat) R u, rows[k]? = some R → vals[k]? = some u → RowOk W ρ0 w' u R) →
    (∀ (k : Nat) R u i c b, rows[k]? = some R → vals[k]? = some u → s.B[i]? = some (some c) → ρ.β i = some b → ¬ R.touch u b) →
    (∀ (k : Nat) R u r R' v' b, rows[k]? = some R → vals[k]? = some u → s.R[r]? = some (some R') → ρ.σ r = some v' → (R.own.isSome = true ∨ R'.own.isSome = true) → R'.touch v' b → ¬ R.touch u b) →
    (∀ (k k' : Nat) R R' u u' b, k ≠ k' → rows[k]? = some R → vals[k]? = some u → rows[k']? = some R' → vals[k']? = some u' → R.own.isSome = true → R.touch u b → ¬ R'.touch u' b) →
    ∃ ρ', ρ.le ρ' ∧ Mem W { s with R := setRows s.R n rows } ρ' w' ∧ (∀ (k : Nat) u, vals[k]? = some u → ρ'.σ (n + k) = some u) ∧ (∀ i, ρ'.β i = ρ.β i) ∧ (∀ r, (r < n ∨ n + rows.length ≤ r) → ρ'.σ r = ρ.σ r)
  | [], [], s, ρ, n, hm, _, _, _, _, _, _, _ => ⟨ρ, Env.le_refl ρ, hm, by simp, fun _ => rfl, fun _ _ => rfl⟩
  | [], v :: vals, s, ρ, n, hm, _, hl, _, _, _, _, _ => by simp at hl
  | R :: Rs, [], s, ρ, n, hm, _, hl, _, _, _, _, _ => by simp at hl
  | R :: Rs, v :: vals, s, ρ, n, hm, hle, hl, hf, hok, hb, hr, hp => by
    have h0 := hm.newRow (n := n) (by simpa using hf 0 (by simp)) ((hok 0 R v rfl rfl).le hle) (fun i c b hi hb' => hb 0 R v i c b rfl rfl hi hb') (fun r R' v' b hr' hv' ho ht' => hr 0 R v r R' v' b rfl rfl hr' hv' ho ht')
    have hle0 := Env.le_row (ρ := ρ) (n := n) (by simpa using hf 0 (by simp)) v
    obtain ⟨ρ', g1, g2, g3, g4, g5⟩ := Mem.addRows (rows := Rs) (vals := vals) (n := n + 1) h0 (Env.le_trans hle hle0) (by simpa using hl)
      (fun k hk => by show upd _ _ _ _ = _; rw [upd_ne _ _ (by omega)]; have := hf (k + 1) (by simp; omega); rwa [show n + (k + 1) = n + 1 + k by omega] at this)
      (fun k R' u hR hu => hok (k + 1) R' u (by simpa using hR) (by simpa using hu))
      (fun k R' u i c b hR hu hi hb' => hb (k + 1) R' u i c b (by simpa using hR) (by simpa using hu) hi hb')
      (fun k R2 u r R' v' b hR hu hr' hv' ho ht' => by
        rcases setAt_get _ _ _ _ _ hr' with ⟨rfl, rfl⟩ | ⟨hne, hr'⟩
        · have hv : v' = v := by
            have : upd ρ.σ r v r = some v' := hv'
            rw [upd_same] at this; injection this with this; exact this.symm
          subst hv
          intro ht2
          rcases ho with ho | ho
          · exact hp (k + 1) 0 R2 R' u v' b (by omega) (by simpa using hR) (by simpa using hu) rfl rfl ho ht2 ht'
          · exact hp 0 (k + 1) R' R2 v' u b (by omega) rfl rfl (by simpa using hR) (by simpa using hu) ho ht' ht2
        · have hv : upd ρ.σ n v r = some v' := hv'
          rw [upd_ne _ _ hne] at hv
          exact hr (k + 1) R2 u r R' v' b (by simpa using hR) (by simpa using hu) hr' hv ho ht')
      (fun k k' R1 R2 u u' b hne hR1 hu1 hR2 hu2 => hp (k + 1) (k' + 1) R1 R2 u u' b (by omega) (by simpa using hR1) (by simpa using hu1) (by simpa using hR2) (by simpa using hu2))
    refine ⟨ρ', Env.le_trans hle0 g1, g2, fun k u hu => ?_, g4, fun r hr' => ?_⟩
    · cases k with
      | zero =>
        simp at hu; subst hu
        exact g1.2 _ _ (upd_same _ _ _)
      | succ k =>
        simp at hu
        rw [show n + (k + 1) = n + 1 + k by omega]
        exact g3 k u hu
    · simp only [List.length_cons] at hr'
      rw [g5 r (by omega)]
      exact upd_ne _ _ (by omega)

theorem argsOf_ok {ρ : Env} {get : Operand → Option SV} {e : Operand → Value} (hget : ∀ x sv, get x = some sv → sv.rep ρ (e x)) : ∀ {l : List Operand} {svs : List SV}, argsOf get l = some svs → reps ρ svs (l.map e)
  | [], svs, h => by injection h with h; subst h; trivial
  | x :: l, svs, h => by
    simp only [argsOf] at h
    split at h
    · rename_i sv ss hx hl
      injection h with h; subst h
      exact ⟨hget _ _ hx, argsOf_ok hget hl⟩
    · cases h
theorem ptDens_reps {ρ : Env} : ∀ {l : List Pt} {vs : List Value}, ptDens ρ l = some vs → reps ρ (l.map fun p => .cv (.one (.pt p))) vs
  | [], vs, h => by injection h with h; subst h; trivial
  | p :: l, vs, h => by
    simp only [ptDens] at h
    split at h
    · rename_i v ws h1 h2
      injection h with h; subst h
      exact ⟨h1, ptDens_reps h2⟩
    · cases h
theorem callOf_ok {P : Program} {ρ : Env} {w : World} {get : Operand → Option SV} {e : Operand → Value} (hget : ∀ x sv, get x = some sv → sv.rep ρ (e x)) {o : Oper} {g : FuncId} {args : List SV} (h : callOf get o.op = some (g, args)) (hc : Callable P g) :
    ∃ vs, (execOp e o).run P w = .ok (.enter g vs.toArray) w ∧ reps ρ args vs := by
  cases ho : o.op with
  | call c =>
    rw [ho] at h
    simp only [callOf] at h
    split at h
    · rename_i f hcal
      split at h
      · rename_i g' caps as hf has
        injection h with h; injection h with h1 h2; subst h1 h2
        have hfv := hget _ _ hf
        simp only [SV.rep, Cv.den, At.den, Option.map_eq_some_iff] at hfv
        obtain ⟨us, hus, hv⟩ := hfv
        have har := argsOf_ok hget has
        obtain ⟨fn, h1, h2, h3⟩ := hc.it
        refine ⟨c.args.toList.map e ++ us, ?_, reps_append har (ptDens_reps hus)⟩
        unfold execOp
        rw [ho]
        simp only [resolve, hcal, ← hv, Deferred.ofValue, invoke, callFunc, Sem.run_bind, pure, Sem.run, Result.andThen_ok, program, h1, h2, h3]
        simp [Sem.run, pure]
      · rename_i g' ag l as hf has
        split at h
        · rename_i cv hcv
          injection h with h; injection h with h1 h2; subst h1 h2
          have hfv := hget _ _ hf
          simp only [SV.rep, Cv.den] at hfv
          obtain ⟨u, hu, hv⟩ := bCv_den hcv hfv
          have har := argsOf_ok hget has
          obtain ⟨fn, h1, h2, h3⟩ := hc.it
          refine ⟨u :: c.args.toList.map e, ?_, ⟨hu, har⟩⟩
          unfold execOp
          rw [ho]
          simp only [resolve, hcal, hv, Deferred.ofValue, invoke, callFunc, Sem.run_bind, pure, Sem.run, Result.andThen_ok, program, h1, h2, h3]
          simp [Sem.run, pure]
        · cases h
      · cases h
    · cases h
  | _ => rw [ho] at h; simp [callOf] at h

section
variable {P : Program} {f : Fr} {R : Ending → World → Prop} {W : Base} {T : Tab} {k : List Item} {s : St}

theorem SG.good {todo todo' : List Item} (hs : ∀ a w, Good P f R todo' a w → Good P f R todo a w) (h : SG P f R W todo' s) : SG P f R W todo s :=
  ⟨fun ρ w a hm hf hd => hs a w (h.run ρ w a hm hf hd)⟩
theorem Frm.put {ρ : Env} {F : List SV} {a : Act} (h : Frm ρ F a) {dst : Option Tmp} {x : SV} {v : Value} (hx : x.rep ρ v) : Frm ρ (St.put ⟨F, [], [], []⟩ dst x).F (a.put dst v) := by
  cases dst with
  | none => exact h
  | some d => exact ⟨h.defers, by have := reps_set d h.tmps hx; simpa [Act.put, St.put] using this⟩
theorem put_F {s : St} {dst : Option Tmp} {x : SV} : (s.put dst x).F = (St.put ⟨s.F, [], [], []⟩ dst x).F := by cases dst <;> rfl
theorem put_B {s : St} {dst : Option Tmp} {x : SV} : (s.put dst x).B = s.B := by cases dst <;> rfl
theorem put_R {s : St} {dst : Option Tmp} {x : SV} : (s.put dst x).R = s.R := by cases dst <;> rfl
theorem put_G {s : St} {dst : Option Tmp} {x : SV} : (s.put dst x).G = s.G := by cases dst <;> rfl
theorem Mem.put {s : St} {ρ : Env} {w : World} (h : Mem W s ρ w) (dst : Option Tmp) (x : SV) : Mem W (s.put dst x) ρ w := by
  refine h.sub (fun i c hi => ?_) (fun r R hr => ?_) put_G
  · rwa [put_B] at hi
  · rwa [put_R] at hr
theorem Dom.put {s : St} {ρ : Env} (h : Dom s ρ) (dst : Option Tmp) (x : SV) : Dom (s.put dst x) ρ := ⟨by rw [put_B]; exact h.box, by rw [put_R]; exact h.row⟩
theorem eff_F {s : St} {nb nr : Nat} {ev : Ev} : (s.eff nb nr ev).F = s.F := by
  cases ev with
  | app kl R ob => cases kl <;> rfl
  | _ => rfl
theorem eff_dom {s : St} {ρ ρ' : Env} {ev : Ev} (h : Dom s ρ) (h1 : ∀ i, (i ≠ s.B.length ∨ ev.isBox = false) → ρ'.β i = ρ.β i) (h2 : ∀ r, (r ≠ s.R.length ∨ ev.isRow = false) → ρ'.σ r = ρ.σ r) : Dom (s.eff s.B.length s.R.length ev) ρ' := by
  cases ev with
  | val sv ob => exact ⟨fun i hi => (h1 i (.inr rfl)).trans (h.box i hi), fun r hr => (h2 r (.inr rfl)).trans (h.row r hr)⟩
  | box c => exact ⟨fun i hi => by simp only [St.eff, setAt_len] at hi; exact (h1 i (.inl (by omega))).trans (h.box i (by omega)), fun r hr => (h2 r (.inr rfl)).trans (h.row r hr)⟩
  | put j c => exact ⟨fun i hi => by simp only [St.eff, setAt_len] at hi; exact (h1 i (.inr rfl)).trans (h.box i (by omega)), fun r hr => (h2 r (.inr rfl)).trans (h.row r hr)⟩
  | row R ob => exact ⟨fun i hi => (h1 i (.inr rfl)).trans (h.box i hi), fun r hr => by simp only [St.eff, setAt_len] at hr; exact (h2 r (.inl (by omega))).trans (h.row r (by omega))⟩
  | sub j R ob => exact ⟨fun i hi => (h1 i (.inr rfl)).trans (h.box i hi), fun r hr => by simp only [St.eff, setAt_len, disown_len] at hr; exact (h2 r (.inl (by omega))).trans (h.row r (by omega))⟩
  | rput j R ob => exact ⟨fun i hi => (h1 i (.inr rfl)).trans (h.box i hi), fun r hr => by simp only [St.eff, setAt_len] at hr; exact (h2 r (.inr rfl)).trans (h.row r (by omega))⟩
  | app kl R ob =>
    cases kl with
    | none => exact ⟨fun i hi => (h1 i (.inr rfl)).trans (h.box i hi), fun r hr => by simp only [St.eff, setAt_len] at hr; exact (h2 r (.inl (by omega))).trans (h.row r (by omega))⟩
    | some j => exact ⟨fun i hi => (h1 i (.inr rfl)).trans (h.box i hi), fun r hr => by simp only [St.eff, setAt_len, unset_len] at hr; exact (h2 r (.inl (by omega))).trans (h.row r (by omega))⟩
theorem reps_put_any {ρ : Env} {F : List SV} {a : Act} (h : Frm ρ F a) (o : Oper) {v : Value} {x : SV} (hx : x.rep ρ v) (s : St) (hF : s.F = F) : Frm ρ (s.put o.dst x).F (a.put o.dst v) := by
  rw [put_F, hF]; exact h.put hx

/-- Does a guard's temporary hold the Bool that is wanted? -/
theorem guardOf_yes {ρ : Env} {F : List SV} {a : Act} (hf : Frm ρ F a) {ops : Array Oper} {o : Oper} (h : guardOf F ops.toList o = .yes) : Region.wanted o (yielded ops a.tmps) = true := by
  unfold guardOf at h
  unfold Region.wanted
  split at h
  · rename_i hg; rw [hg]
  · rename_i j want hg
    rw [hg]
    split at h
    · rename_i oj hj
      split at h
      · rename_i d hd
        split at h
        · rename_i b hb
          obtain ⟨v, h1, h2⟩ := reps_get hf.tmps hb
          injection h2 with h2; subst h2
          have hy : yielded ops a.tmps j = some b := by
            unfold yielded
            have : ops[j]? = some oj := by simpa using hj
            rw [this]
            simp only [Option.bind_some, hd]
            have : a.tmps[d]? = some (.bool b) := by simpa using h1
            rw [this]
          simp only [hy]
          cases b <;> cases want <;> simp_all
        · cases h
        · cases h
        · cases h
      · cases h
    · cases h
theorem guardOf_no {ρ : Env} {F : List SV} {a : Act} (hf : Frm ρ F a) {ops : Array Oper} {o : Oper} (h : guardOf F ops.toList o = .no) : Region.wanted o (yielded ops a.tmps) = false := by
  unfold guardOf at h
  unfold Region.wanted
  split at h
  · cases h
  · rename_i j want hg
    rw [hg]
    split at h
    · rename_i oj hj
      have hoj : ops[j]? = some oj := by simpa using hj
      split at h
      · rename_i d hd
        split at h
        · rename_i b hb
          obtain ⟨v, h1, h2⟩ := reps_get hf.tmps hb
          injection h2 with h2; subst h2
          have hy : yielded ops a.tmps j = some b := by
            unfold yielded
            rw [hoj]
            simp only [Option.bind_some, hd]
            have : a.tmps[d]? = some (.bool b) := by simpa using h1
            rw [this]
          simp only [hy]
          cases b <;> cases want <;> simp_all
        · cases h
        · rename_i hb
          obtain ⟨v, h1, us, h2, h3⟩ := reps_get hf.tmps hb
          have hy : yielded ops a.tmps j = none := by
            unfold yielded
            rw [hoj]
            simp only [Option.bind_some, hd]
            have : a.tmps[d]? = some v := by simpa using h1
            rw [this, h3]
          simp [hy]
        · cases h
      · cases h
    · cases h
theorem guardOf_ask {ρ : Env} {F : List SV} {a : Act} (hf : Frm ρ F a) {ops : List Oper} {o : Oper} {d : Nat} {e : Bool} (h : guardOf F ops o = .ask d e) : F[d]? = some (.cv (.one (.v (.bool e)))) := by
  unfold guardOf at h
  split at h
  · cases h
  · split at h
    · split at h
      · split at h
        · split at h <;> cases h
        · injection h with h1 h2; subst h1 h2; assumption
        · cases h
        · cases h
      · cases h
    · cases h

theorem reps_set_self {ρ : Env} : ∀ {F : List SV} {vs : List Value} (i : Nat) {x y : SV}, reps ρ F vs → F[i]? = some x → (∀ v, x.rep ρ v → y.rep ρ v) → reps ρ (F.set i y) vs
  | [], [], i, x, y, _, h, _ => trivial
  | z :: xs, u :: vs, 0, x, y, h, hi, hxy => by simp at hi; subst hi; exact ⟨hxy _ h.1, h.2⟩
  | z :: xs, u :: vs, i + 1, x, y, h, hi, hxy => by simp at hi; exact ⟨h.1, reps_set_self i h.2 hi hxy⟩
  | [], v :: vs, _, _, _, h, _, _ => h.elim
  | x :: xs, [], _, _, _, h, _, _ => h.elim
theorem SG.ask {todo : List Item} {d : Nat} {e ans : Bool} (hd : s.F[d]? = some (.cv (.one (.v (.bool e))))) (he : e = ans) (h : SG P f R W todo (s.put (some d) (.cv (.one (.lb ans))))) : SG P f R W todo s := by
  refine ⟨fun ρ w a hm hf hdm => h.run ρ w a (hm.put _ _) ⟨hf.defers, ?_⟩ (hdm.put _ _)⟩
  exact reps_set_self d hf.tmps hd fun v hv => by subst he; exact hv
theorem SG.opNo {ops : Array Oper} {i : Nat} {rest : List Nat} {o : Oper} (ho : ops.toList[i]? = some o) (hg : guardOf s.F ops.toList o = .no) (h : SG P f R W (.inRegion ops rest :: k) (s.put o.dst (.tup []))) : SG P f R W (.inRegion ops (i :: rest) :: k) s := by
  refine ⟨fun ρ w a hm hf hdm => ?_⟩
  refine Good.opSkip (by simpa using ho) (guardOf_no hf hg) (h.run ρ w _ (hm.put _ _) (reps_put_any hf o (x := .tup []) ⟨[], rfl, rfl⟩ s rfl) (hdm.put _ _))
theorem evalOp_nd {get : Operand → Option SV} {box : Nat → Option (List At)} {row : Nat → Option Row} {op : Op} {ev : Ev} (h : evalOp T get box row op = some ev) (c : Call) : op ≠ .defer c := by
  rintro rfl; simp [evalOp] at h
theorem callOf_nd {get : Operand → Option SV} {op : Op} {x : FuncId × List SV} (h : callOf get op = some x) (c : Call) : op ≠ .defer c := by
  rintro rfl; simp [callOf] at h
theorem SG.opYes {ops : Array Oper} {i : Nat} {rest : List Nat} {o : Oper} {ev : Ev} (hT : TabOk P T) (ho : ops.toList[i]? = some o) (hg : guardOf s.F ops.toList o = .yes) (hev : evalOp T s.get s.box s.row o.op = some ev) (hob : ev.ob)
    (h : SG P f R W (.inRegion ops rest :: k) ((s.eff s.B.length s.R.length ev).put o.dst (ev.sv s.B.length s.R.length))) : SG P f R W (.inRegion ops (i :: rest) :: k) s := by
  refine ⟨fun ρ w a hm hf hdm => ?_⟩
  obtain ⟨v, w', ρ', hr, hle, hrep, hm', h1, h2⟩ := evalOp_sound hT hm (fun x sv hx => St.get_ok hf hx) (fun i c => St.box_ok) (fun r R => St.row_ok) (hdm.box _ (Nat.le_refl _)) (hdm.row _ (Nat.le_refl _)) (nb := s.B.length) (nr := s.R.length) (e := a.eval) hob hev
  refine Good.op (K := fun u w2 => u = v ∧ w2 = w') (by simpa using ho) (guardOf_yes hf hg) (evalOp_nd hev) ?_ ?_
  · unfold Does
    rcases hr with hr | ⟨hr, rfl⟩
    · rw [hr]; exact ⟨rfl, rfl⟩
    · rw [hr]; exact ⟨rfl, rfl⟩
  · rintro u w2 ⟨rfl, rfl⟩
    refine h.run ρ' _ _ (hm'.put _ _) ?_ ((eff_dom hdm h1 h2).put _ _)
    exact reps_put_any ⟨hf.defers, reps_le hle hf.tmps⟩ o hrep _ eff_F
theorem grown_none {w w' : World} (h : w.grownBy w' none) : Below w.heap.size w w' := ⟨h.os, h.tape, h.output, h.size, fun k hk => h.block k hk (by simp)⟩
/-- Behind a call: new rows; one row, perhaps, given away. -/
theorem after_call {s : St} {ρ : Env} {w w' : World} {hd : Hd} {vals : List Value} (hm : Mem W s ρ w) (hdm : Dom s ρ) (hk : ∀ r, hd.kill = some r → ∃ R, s.R[r]? = some (some R) ∧ R.own.isSome = true)
    (hb : w.grownBy w' (killBlk ρ hd.kill)) (hn : RowsNew W ρ w w' (killBlk ρ hd.kill) hd.rows vals) {Rs : List (Option Row)} (hRs : Rs = match hd.kill with
      | some r => unset s.R r
      | none => s.R) : ∃ ρ', ρ.le ρ' ∧ Mem W { s with R := setRows Rs s.R.length hd.rows } ρ' w' ∧ (∀ (k : Nat) u, vals[k]? = some u → ρ'.σ (s.R.length + k) = some u) ∧ Dom { s with R := setRows Rs s.R.length hd.rows } ρ' := by
  -- what is kept, apart from the row that was given away
  have hRsl : Rs.length = s.R.length := by
    rw [hRs]; split
    · exact unset_len _ _
    · rfl
  have hsub : ∀ (r : Nat) R, Rs[r]? = some (some R) → s.R[r]? = some (some R) ∧ hd.kill ≠ some r := fun r R hr => by
    rw [hRs] at hr
    split at hr
    · rename_i q hq
      obtain ⟨h1, h2⟩ := unset_get _ _ _ _ hr
      exact ⟨h2, fun e => by rw [hq] at e; injection e with e; exact h1 e.symm⟩
    · rename_i hq
      exact ⟨hr, fun e => by rw [hq] at e; cases e⟩
  have htouch : ∀ g, killBlk ρ hd.kill = some g → ∃ r R v, hd.kill = some r ∧ s.R[r]? = some (some R) ∧ ρ.σ r = some v ∧ R.own.isSome = true ∧ R.touch v g ∧ W.mine g := fun g hg => by
    cases hkk : hd.kill with
    | none => rw [hkk] at hg; cases hg
    | some r =>
      obtain ⟨R, hR, ho⟩ := hk r hkk
      obtain ⟨v, hv, hok⟩ := hm.row r R hR
      obtain ⟨A, cap, rfl, hc, _, _, _, _, h2⟩ := hok.form
      rw [hkk] at hg
      simp only [killBlk, hv] at hg
      cases A with
      | none => cases hg
      | some ad =>
        simp only at hg
        split at hg
        · cases hg
        · rename_i hcap
          injection hg with hg; subst hg
          obtain ⟨e, he⟩ := Option.isSome_iff_exists.1 ho
          refine ⟨r, R, _, rfl, hR, hv, ho, ⟨rfl, .inl ⟨ho, by simp [capOf]; omega⟩⟩, ?_⟩
          rcases h2 e he with h | ⟨g', cur, fz, hg', hW, _⟩
          · exact absurd h hcap
          · injection hg' with hg'; subst hg'; exact hW
  have hbx : ∀ (i : Nat) c b, s.B[i]? = some (some c) → ρ.β i = some b → killBlk ρ hd.kill ≠ some b := fun i c b hi hb' hg => by
    obtain ⟨r, R, v, _, hR, hv, _, ht, _⟩ := htouch b hg
    exact hm.rowBox r R v i c b hR hv hi hb' ht
  have hrw : ∀ (r : Nat) R v b, Rs[r]? = some (some R) → ρ.σ r = some v → R.touch v b → killBlk ρ hd.kill ≠ some b := fun r R v b hr hv ht hg => by
    obtain ⟨hr, hne⟩ := hsub r R hr
    obtain ⟨q, Q, u, hkq, hQ, hu, ho, ht2, _⟩ := htouch b hg
    exact hm.rowRow q r Q R u v b (fun e => by subst e; exact hne hkq) hQ hr hu hv ho ht2 ht
  have hm' : Mem W { s with R := Rs } ρ w' := (hm.sub (s' := { s with R := Rs }) (fun _ _ h => h) (fun r R h => (hsub r R h).1)).keep (hm.below.but hb (fun g hg => (htouch g hg).choose_spec.choose_spec.choose_spec.2.2.2.2.2) (fun g hg => by obtain ⟨r, R, v, _, hR, hv, ho, ht, _⟩ := htouch g hg; obtain ⟨v2, h1, h2⟩ := hm.row r R hR; rw [hv] at h1; injection h1 with h1; subst h1; exact h2.own_cells ho ht)) hb.size
    (fun i c b hi hb' => hb.block b (hm.box_lt hi hb') (fun e => hbx i c b hi hb' e.symm))
    (fun r R v b hr hv ht => hb.block b (hm.row_lt (hsub r R hr).1 hv ht) (fun e => hrw r R v b hr hv ht e.symm))
  obtain ⟨ρ', g1, g2, g3, g4, g5⟩ := Mem.addRows (n := s.R.length) hm' (Env.le_refl ρ) hn.len (fun k _ => hdm.row _ (by omega)) (fun k R u hR hu => (hn.ok k R u hR hu).1)
    (fun k R u i c b hR hu hi hb' ht => by
      rcases (hn.ok k R u hR hu).2 b ht with h1 | h1
      · have h2 := hm.box_lt hi hb'
        omega
      · exact hbx i c b hi hb' h1)
    (fun k R u r R' v' b hR hu hr' hv' _ ht' ht => by
      rcases (hn.ok k R u hR hu).2 b ht with h1 | h1
      · have h2 := hm.row_lt (hsub r R' hr').1 hv' ht'
        omega
      · exact hrw r R' v' b hr' hv' ht' h1)
    hn.apart
  have hl := setRows_len hd.rows Rs s.R.length
  exact ⟨ρ', g1, g2, g3, ⟨fun i hi => (g4 i).trans (hdm.box i hi), fun r hr' => (g5 r (by dsimp only at hr'; omega)).trans (hdm.row r (by dsimp only at hr'; omega))⟩⟩
theorem SG.opCall {ops : Array Oper} {i : Nat} {rest : List Nat} {o : Oper} {g : FuncId} {args : List SV} {hd : Hd} (ho : ops.toList[i]? = some o) (hg : guardOf s.F ops.toList o = .yes) (hc : callOf s.get o.op = some (g, args)) (hok : CallOk P W s.B s.R g args hd)
    (hk : ∀ r, hd.kill = some r → ∃ R, s.R[r]? = some (some R) ∧ R.own.isSome = true) {Rs : List (Option Row)} (hRs : Rs = match hd.kill with
      | some r => unset s.R r
      | none => s.R)
    (h : SG P f R W (.inRegion ops rest :: k) (St.put { s with R := setRows Rs s.R.length hd.rows } o.dst (hd.res s.R.length))) : SG P f R W (.inRegion ops (i :: rest) :: k) s := by
  refine ⟨fun ρ w a hm hf hdm => ?_⟩
  obtain ⟨vs, hr, hreps⟩ := callOf_ok (w := w) (fun x sv hx => St.get_ok hf hx) hc hok.can
  have hcall := hok.does s ρ w vs hm (fun _ _ h => h) (fun _ _ h => h) hk hreps
  refine Good.op (K := fun v w' => HdPost W ρ w hd (.returned v) w') (by simpa using ho) (guardOf_yes hf hg) (callOf_nd hc) ?_ ?_
  · unfold Does
    rw [hr]
    refine hcall.mono fun e w' hp => ?_
    obtain ⟨v, vals, rfl, hb, hn, hres⟩ := hp
    exact ⟨v, rfl, v, vals, rfl, hb, hn, hres⟩
  · rintro v w' ⟨v', vals, hv, hb, hn, hres⟩
    injection hv with hv; subst hv
    obtain ⟨ρ', g1, g2, g3, g4⟩ := after_call hm hdm hk hb hn hRs
    refine h.run ρ' _ _ (Mem.put g2 _ _) ?_ (g4.put _ _)
    exact reps_put_any ⟨hf.defers, reps_le g1 hf.tmps⟩ o (hres _ ρ' g1 g3) _ rfl

end
end Go.Sx
