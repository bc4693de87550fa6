/- Calls of builtins, slice expressions, values written out; all operations together. -/
import Derived.Test.YtlbldfdkicofdaaSxF
namespace Go.Sx
open Go.RowKit
set_option linter.unusedVariables false
set_option linter.unusedSimpArgs false
set_option linter.unusedSectionVars false

theorem disown_get : ∀ (l : List (Option Row)) (n i : Nat) (d : Row), (disown l n)[i]? = some (some d) → (i ≠ n ∧ l[i]? = some (some d)) ∨ (i = n ∧ ∃ R, l[i]? = some (some R) ∧ d = ⟨R.sz, R.len, R.cells, none, R.tight, R.new⟩)
  | [], n, i, d, h => by simp [disown] at h
  | none :: l, 0, i, d, h => by
    cases i with
    | zero => simp [disown] at h
    | succ i => simp only [disown, List.getElem?_cons_succ] at h; exact .inl ⟨by omega, by simpa using h⟩
  | some R :: l, 0, i, d, h => by
    cases i with
    | zero => simp [disown] at h; exact .inr ⟨rfl, R, rfl, h.symm⟩
    | succ i => simp only [disown, List.getElem?_cons_succ] at h; exact .inl ⟨by omega, by simpa using h⟩
  | none :: l, n + 1, i, d, h => by
    cases i with
    | zero => simp [disown] at h
    | succ i =>
      simp only [disown, List.getElem?_cons_succ] at h
      rcases disown_get l n i d h with ⟨h1, h2⟩ | ⟨h1, R, h2, h3⟩
      · exact .inl ⟨by omega, by simpa using h2⟩
      · exact .inr ⟨by omega, R, by simpa using h2, h3⟩
  | some S :: l, n + 1, i, d, h => by
    cases i with
    | zero => simp [disown] at h; exact .inl ⟨by omega, by simpa using h⟩
    | succ i =>
      simp only [disown, List.getElem?_cons_succ] at h
      rcases disown_get l n i d h with ⟨h1, h2⟩ | ⟨h1, R, h2, h3⟩
      · exact .inl ⟨by omega, by simpa using h2⟩
      · exact .inr ⟨by omega, R, by simpa using h2, h3⟩
theorem RowOk.disown {W : Base} {ρ : Env} {w : World} {v : Value} {R : Row} (h : RowOk W ρ w v R) : RowOk W ρ w v ⟨R.sz, R.len, R.cells, none, R.tight, R.new⟩ := by
  obtain ⟨A, cap, hv, hc, hm, hn, ht, h1, h2⟩ := h.form
  exact ⟨⟨A, cap, hv, hc, hm, hn, ht, h1, fun e he => by cases he⟩, h.each, fun hn b ht => h.fresh hn b (by
    refine ⟨ht.1, ?_⟩
    rcases ht.2 with ⟨h3, _⟩ | h3
    · cases h3
    · exact .inr h3)⟩
theorem touch_disown {R : Row} {v : Value} {b : Nat} (h : (Row.mk R.sz R.len R.cells none R.tight R.new).touch v b) : R.touch v b := ⟨h.1, by
  rcases h.2 with ⟨h1, _⟩ | h2
  · cases h1
  · exact .inr h2⟩
theorem Mem.disown {W : Base} {s : St} {ρ : Env} {w : World} (h : Mem W s ρ w) (r : Nat) : Mem W { s with R := disown s.R r } ρ w := by
  refine ⟨h.below, h.box, h.boxNe, fun r' R hr => ?_, fun r' R v i c b hr hv hi hb => ?_, fun r1 r2 R1 R2 v1 v2 b hne hr1 hr2 hv1 hv2 hown ht => ?_, h.ghost, h.inn⟩
  · rcases disown_get _ _ _ _ hr with ⟨_, hr2⟩ | ⟨_, R0, hr2, rfl⟩
    · exact h.row r' R hr2
    · obtain ⟨v, hv, hok⟩ := h.row r' R0 hr2
      exact ⟨v, hv, hok.disown⟩
  · rcases disown_get _ _ _ _ hr with ⟨_, hr2⟩ | ⟨_, R0, hr2, rfl⟩
    · exact h.rowBox r' R v i c b hr2 hv hi hb
    · exact fun ht => h.rowBox r' R0 v i c b hr2 hv hi hb (touch_disown ht)
  · rcases disown_get _ _ _ _ hr1 with ⟨_, hr1b⟩ | ⟨_, R0, hr1b, rfl⟩
    · rcases disown_get _ _ _ _ hr2 with ⟨_, hr2b⟩ | ⟨_, R3, hr2b, rfl⟩
      · exact h.rowRow r1 r2 R1 R2 v1 v2 b hne hr1b hr2b hv1 hv2 hown ht
      · exact fun ht2 => h.rowRow r1 r2 R1 R3 v1 v2 b hne hr1b hr2b hv1 hv2 hown ht (touch_disown ht2)
    · cases hown

theorem touch_piece {R : Row} {A : Option Addr} {cap l hh m : Nat} {cells : Nat → List At} {tight nw : Bool} {b : Nat} (h2 : hh ≤ R.len) (h : (Row.mk R.sz (hh - l) cells none tight nw).touch (sliced A l hh m R.sz) b) :
    Row.touch ⟨R.sz, R.len, R.cells, none, R.tight, R.new⟩ (.slice A R.len cap) b := by
  obtain ⟨hb, ⟨h1, _⟩ | h0⟩ := h
  · cases h1
  · dsimp only at h0
    refine ⟨?_, .inr (by dsimp only; omega)⟩
    unfold sliced at hb
    cases A with
    | none => simp [Value.ownBlock] at hb
    | some a =>
      simp only [Value.ownBlock, Option.map_some] at hb ⊢
      split at hb
      · rename_i a' _ _ he
        injection he with he
        split at he
        · injection he with he; subst he; exact hb
        · injection he with he; subst he; rw [← hb]; unfold Addr.add; split <;> rfl
      · cases hb

/-- A piece of a slice. -/
theorem RowOk.piece {W : Base} {ρ : Env} {w : World} {A : Option Addr} {cap : Nat} {R : Row} (h : RowOk W ρ w (.slice A R.len cap) R) {l hh m : Nat} (h1 : l ≤ hh) (h2 : hh ≤ R.len) (h3 : hh ≤ m) (h4 : m ≤ cap) {cells : Nat → List At} {tight : Bool}
    (hc : ∀ i, i < hh - l → cells i = R.cells (l + i)) (ht : tight = true → m = hh) : RowOk W ρ w (sliced A l hh m R.sz) ⟨R.sz, hh - l, cells, none, tight, R.new⟩ := by
  obtain ⟨A', cap', hv, hcl, hcm, hcn, _, g1, _⟩ := h.form
  injection hv with e1 _ e3
  subst e1 e3
  refine ⟨⟨_, m - l, rfl, by dsimp only; omega, by omega, ?_, ?_, ?_, fun e he => by cases he⟩, fun i hi => ?_, fun hn b ht => h.fresh hn b (touch_disown (touch_piece (cap := cap) h2 ht))⟩
  · intro hA
    split at hA
    · omega
    · cases A with
      | none => have := hcn rfl; omega
      | some a => cases hA
  · intro h; dsimp only; rw [ht h]
  · intro h0
    dsimp only at h0
    obtain ⟨b, o, rfl, hlt, hcell⟩ := g1 (by omega)
    refine ⟨b, o + l * R.sz, by rw [if_neg (by omega)]; simp [add_off], hlt, fun i vs hi hvs j u hu => ?_⟩
    dsimp only at hi hvs ⊢
    rw [hc i hi] at hvs
    have := hcell (l + i) vs (by omega) hvs j u hu
    rw [Nat.add_mul] at this
    rw [show o + l * R.sz + i * R.sz + j = o + (l * R.sz + i * R.sz) + j by omega]
    exact this
  · dsimp only at hi ⊢
    rw [hc i hi]
    exact h.each (l + i) (by omega)
section
variable {P : Program} {T : Tab} (hT : TabOk P T) {W : Base} {s : St} {ρ : Env} {w : World} (hm : Mem W s ρ w) {get : Operand → Option SV} {box : Nat → Option (List At)} {row : Nat → Option Row} {nb nr : Nat} {e : Operand → Value}
  (hget : ∀ x sv, get x = some sv → sv.rep ρ (e x)) (hbox : ∀ i c, box i = some c → s.B[i]? = some (some c)) (hrow : ∀ r R, row r = some R → s.R[r]? = some (some R))
  (hnb : ρ.β nb = none) (hnr : ρ.σ nr = none) {o : Oper} {ev : Ev} (hob : ev.ob)
include hT hm hget hbox hrow hnb hnr hob

theorem snd_len {c : Call} (hc : c.callee = .builtin .len) (ho : o.op = .call c) (h : evalOp T get box row (.call c) = some ev) : Comes1 P W s ρ w nb nr e o ev := by
  obtain ⟨cs, hbi⟩ := run_builtin hT hm hget hbox hrow hnb hnr hob ho hc
  simp only [evalOp, hc] at h
  split at h
  · rename_i x t hargs htys
    have ha : c.args = #[x] := by rw [← Array.toArray_toList (xs := c.args), hargs]
    have hb : c.argTypes = #[t] := by rw [← Array.toArray_toList (xs := c.argTypes), htys]
    have hrun : ∀ v, (Builtin.len_ #[t] o.type #[e x]).run P w = .ok v w → (execOp e o).run P w = .ok (.value v) w := by
      intro v hr
      rw [hbi, ha, hb]
      simp only [builtin, List.map_toArray, List.map_cons, List.map_nil, Sem.run_bind, hr, Result.andThen_ok]
      rfl
    split at h
    · rename_i ty str hty hx
      split at h
      · rename_i hk
        injection h with h; subst h
        have hp := hget _ _ hx
        injection hp with hp
        refine .val hm (hrun (.int .i64 str.size) ?_) rfl
        simp [Builtin.len_, run_underlying ((hT _ _ hty).str hk), ← hp, goInt, Sem.run, pure]
      · cases h
    · rename_i ty a n cp hty hx
      split at h
      · rename_i el hk
        injection h with h; subst h
        have hp := hget _ _ hx
        injection hp with hp
        refine .val hm (hrun (.int .i64 n) ?_) rfl
        simp [Builtin.len_, run_underlying ((hT _ _ hty).slice hk), ← hp, goInt, Sem.run, pure]
      · cases h
    · rename_i ty r hty hx
      split at h
      · rename_i el R hk hR
        injection h with h; subst h
        obtain ⟨v0, hσ, hok⟩ := hm.row r R (hrow _ _ hR)
        obtain ⟨A, cap, rfl, _⟩ := hok.form
        have hp := hget _ _ hx
        simp only [SV.rep, Cv.den, At.den, hσ, Option.some.injEq] at hp
        refine .val hm (hrun (.int .i64 R.len) ?_) rfl
        simp [Builtin.len_, run_underlying ((hT _ _ hty).slice hk), ← hp, goInt, Sem.run, pure]
      · cases h
    · rename_i ty c sz len cells hty hx
      split at h
      · rename_i el hk
        injection h with h; subst h
        have hp := hget _ _ hx
        simp only [SV.rep, Cv.den, At.den] at hp
        split at hp
        · rename_i hr
          obtain ⟨A, cap, rfl, _⟩ := inn_now hm hr
          simp only [Option.some.injEq] at hp
          refine .val hm (hrun (.int .i64 len) ?_) rfl
          simp [Builtin.len_, run_underlying ((hT _ _ hty).slice hk), ← hp, goInt, Sem.run, pure]
        · cases hp
      · cases h
    · cases h
  · cases h
theorem snd_min {c : Call} (hc : c.callee = .builtin .min) (ho : o.op = .call c) (h : evalOp T get box row (.call c) = some ev) : Comes1 P W s ρ w nb nr e o ev := by
  obtain ⟨cs, hbi⟩ := run_builtin hT hm hget hbox hrow hnb hnr hob ho hc
  simp only [evalOp, hc] at h
  split at h
  · rename_i x y hargs
    have ha : c.args = #[x, y] := by rw [← Array.toArray_toList (xs := c.args), hargs]
    split at h
    · rename_i k a k' b hx hy
      injection h with h; subst h
      have hp := hget _ _ hx
      injection hp with hp
      have hq := hget _ _ hy
      injection hq with hq
      refine .val hm (v := .int k (if b < a then b else a)) ?_ rfl
      rw [hbi, ha]
      simp only [builtin, List.map_toArray, List.map_cons, List.map_nil, Builtin.min_, List.foldlM, ← hp, ← hq, Builtin.min2, Sem.run_bind, pure, Sem.run, Result.andThen_ok]
    · cases h
  · cases h
theorem snd_max {c : Call} (hc : c.callee = .builtin .max) (ho : o.op = .call c) (h : evalOp T get box row (.call c) = some ev) : Comes1 P W s ρ w nb nr e o ev := by
  obtain ⟨cs, hbi⟩ := run_builtin hT hm hget hbox hrow hnb hnr hob ho hc
  simp only [evalOp, hc] at h
  split at h
  · rename_i x y hargs
    have ha : c.args = #[x, y] := by rw [← Array.toArray_toList (xs := c.args), hargs]
    split at h
    · rename_i k a k' b hx hy
      injection h with h; subst h
      have hp := hget _ _ hx
      injection hp with hp
      have hq := hget _ _ hy
      injection hq with hq
      refine .val hm (v := .int k (if b > a then b else a)) ?_ rfl
      rw [hbi, ha]
      simp only [builtin, List.map_toArray, List.map_cons, List.map_nil, Builtin.max_, List.foldlM, ← hp, ← hq, Builtin.max2, Sem.run_bind, pure, Sem.run, Result.andThen_ok]
    · cases h
  · cases h
theorem snd_call {c : Call} (ho : o.op = .call c) (h : evalOp T get box row (.call c) = some ev) : Comes1 P W s ρ w nb nr e o ev := by
  cases hc : c.callee with
  | value f => simp [evalOp, hc] at h
  | invoke r m => simp [evalOp, hc] at h
  | builtin b =>
    by_cases h1 : b = .len
    · subst h1; exact snd_len hT hm hget hbox hrow hnb hnr hob hc ho h
    by_cases h2 : b = .min
    · subst h2; exact snd_min hT hm hget hbox hrow hnb hnr hob hc ho h
    by_cases h4 : b = .max
    · subst h4; exact snd_max hT hm hget hbox hrow hnb hnr hob hc ho h
    by_cases h3 : b = .append
    · subst h3; exact snd_append hT hm hget hbox hrow hnb hnr hob hc ho h
    cases b <;> first | (exact absurd rfl h1) | (exact absurd rfl h2) | (exact absurd rfl h3) | (exact absurd rfl h4) | (simp [evalOp, hc] at h)

omit hm hbox hrow hnb hnr hob hT in
theorem boundSV_run {x : Option Operand} {n : Option Int} (h : boundSV get x = some n) : (x = none ∧ n = none) ∨ ∃ y k i, x = some y ∧ n = some i ∧ e y = .int k i := by
  unfold boundSV at h
  split at h
  · injection h with h; subst h; exact .inl ⟨rfl, rfl⟩
  · rename_i y
    split at h
    · rename_i i hi
      injection h with h; subst h
      unfold intOfSV at hi
      split at hi
      · rename_i k m hx
        injection hi with hi; subst hi
        have hp := hget _ _ hx
        injection hp with hp
        exact .inr ⟨y, k, m, rfl, rfl, hp.symm⟩
      · cases hi
    · cases h
theorem snd_slice {t : TypeId} {x : Operand} {lo hi mx : Option Operand} (ho : o.op = .slice t x lo hi mx) (h : evalOp T get box row (.slice t x lo hi mx) = some ev) : Comes1 P W s ρ w nb nr e o ev := by
  have hrun : ∀ v, (Instr.sliceAt t (e x) (lo.map e) (hi.map e) (mx.map e)).run P w = .ok v w → (execOp e o).run P w = .ok (.value v) w := by
    intro v hv
    unfold execOp
    rw [ho]
    simp only [Sem.run_bind, hv, Result.andThen_ok]
    rfl
  simp only [evalOp] at h
  split at h
  · rename_i ty str l hh hty hx hl hhi hmx
    split at h
    · rename_i hk
      injection h with h; subst h
      obtain ⟨h0, h1, h2⟩ := hob
      have hp := hget _ _ hx
      injection hp with hp
      have hu := (hT _ _ hty).str hk
      refine .val hm (hrun (.string (str.extract (l.getD 0).toNat (hiN str.size hh))) ?_) rfl
      rw [run_sliceAt_string w t _ _ _ _ hu, ← hp]
      rcases boundSV_run hget hmx with ⟨rfl, _⟩ | ⟨y, k, i, _, h, _⟩
      · rcases boundSV_run hget hl with ⟨rfl, rfl⟩ | ⟨yl, kl, il, rfl, rfl, el⟩ <;> rcases boundSV_run hget hhi with ⟨rfl, rfl⟩ | ⟨yh, kh, ih, rfl, rfl, eh⟩
        · exact run_slice_string_all w t str hu
        · simp only [Option.map_none, Option.map_some, eh]
          exact run_slice_string_h w t str hu kh ih (by simpa using h1) (by simpa using h2)
        · simp only [Option.map_none, Option.map_some, el]
          exact run_slice_string_l w t str hu kl il (by simpa using h0) (by simpa using h1)
        · simp only [Option.map_none, Option.map_some, el, eh]
          exact run_slice_string w t str kl kh il ih hu (by simpa using h0) (by simpa using h1) (by simpa using h2)
      · cases h
    · cases h
  · rename_i ty r l hh m hty hx hl hhi hmx
    split at h
    · rename_i R el hR hk
      split at h
      · rename_i te hte
        split at h
        · rename_i hsz
          injection h with h; subst h
          have hob' := hob
          obtain ⟨h0, h1, h2, h3⟩ := hob'
          obtain ⟨v0, hσ, hok⟩ := hm.row r R (hrow _ _ hR)
          obtain ⟨A, cap, rfl, hcl, hcm, hcn, hct, g1, _⟩ := hok.form
          have hp := hget _ _ hx
          simp only [SV.rep, Cv.den, At.den, hσ, Option.some.injEq] at hp
          have hu := (hT _ _ hty).slice hk
          have hel := elem_slice hT hm hget hbox hrow hnb hnr hob hu
          have hu' : P.underlying t = some (.slice (P.elem t)) := by rw [hel]; exact hu
          have hsize := (hT _ _ hte).runSize w
          rw [hsz] at hsize
          have key : ∃ M : Nat, (Instr.sliceAt t (e x) (lo.map e) (hi.map e) (mx.map e)).run P w = .ok (sliced A (l.getD 0).toNat (hiN R.len hh) M R.sz) w ∧ (l.getD 0).toNat ≤ hiN R.len hh ∧ hiN R.len hh ≤ R.len ∧ hiN R.len hh ≤ M ∧ M ≤ cap ∧ (tightN R.tight hh m = true → M = hiN R.len hh) := by
            rw [run_sliceAt_slice w t _ _ _ _ hu', ← hp]
            rcases boundSV_run hget hmx with ⟨rfl, rfl⟩ | ⟨ym, km, im, rfl, rfl, em⟩
            · refine ⟨cap, ?_⟩
              rcases boundSV_run hget hl with ⟨rfl, rfl⟩ | ⟨yl, kl, il, rfl, rfl, el⟩ <;> rcases boundSV_run hget hhi with ⟨rfl, rfl⟩ | ⟨yh, kh, ih, rfl, rfl, eh⟩
              · refine ⟨?_, by simp [hiN], by simp [hiN], hcl, Nat.le_refl _, fun ht => hct ht⟩
                have := run_slice_all w t A R.len cap hu'
                rw [hel, hsize] at this
                exact this
              · simp only [Option.getD_some, Option.getD_none] at h0 h1 h2
                refine ⟨?_, by simp [hiN], by simp [hiN]; omega, by simp [hiN]; omega, Nat.le_refl _, fun ht => by simp [tightN] at ht⟩
                simp only [Option.map_none, Option.map_some, eh]
                have := run_slice_h w t A R.len cap hu' kh ih (by omega) (by omega)
                rw [hel, hsize] at this
                exact this
              · simp only [Option.getD_some, Option.getD_none] at h0 h1 h2
                refine ⟨?_, by simp [hiN]; omega, by simp [hiN], by simp [hiN]; omega, Nat.le_refl _, fun ht => hct ht⟩
                simp only [Option.map_none, Option.map_some, el]
                have := run_slice_l w t A R.len cap hu' kl il (by omega) (by omega)
                rw [hel, hsize] at this
                exact this
              · simp only [Option.getD_some] at h0 h1 h2
                refine ⟨?_, by simp [hiN]; omega, by simp [hiN]; omega, by simp [hiN]; omega, Nat.le_refl _, fun ht => by simp [tightN] at ht⟩
                simp only [Option.map_none, Option.map_some, el, eh]
                have := run_slice_lh w t A R.len cap hu' kl kh il ih (by omega) (by omega) (by omega)
                rw [hel, hsize] at this
                exact this
            · simp only [maxOk] at h3
              subst h3
              rcases boundSV_run hget hhi with ⟨_, h⟩ | ⟨yh, kh, ih, rfl, h, eh⟩
              · cases h
              · injection h with h; subst h
                refine ⟨im.toNat, ?_⟩
                rcases boundSV_run hget hl with ⟨rfl, rfl⟩ | ⟨yl, kl, il, rfl, rfl, el⟩
                · simp only [Option.getD_some, Option.getD_none] at h0 h1 h2
                  refine ⟨?_, by simp [hiN], by simp [hiN]; omega, by simp [hiN], by omega, fun _ => by simp [hiN]⟩
                  simp only [Option.map_none, Option.map_some, eh, em]
                  have := run_slice_hm w t A R.len cap hu' kh km im im (by omega) (by omega) (by omega)
                  rw [hel, hsize] at this
                  exact this
                · simp only [Option.getD_some] at h0 h1 h2
                  refine ⟨?_, by simp [hiN]; omega, by simp [hiN]; omega, by simp [hiN], by omega, fun _ => by simp [hiN]⟩
                  simp only [Option.map_some, el, eh, em]
                  have := run_slice_lhm w t A R.len cap hu' kl kh km il im im (by omega) (by omega) (by omega) (by omega)
                  rw [hel, hsize] at this
                  exact this
          obtain ⟨M, hr, k1, k2, k3, k4, k5⟩ := key
          generalize hH : hiN R.len hh = H at *
          have hpc : RowOk W ρ w (sliced A (l.getD 0).toNat H M R.sz) ⟨R.sz, H - (l.getD 0).toNat, fromL R.cells l, none, tightN R.tight hh m, R.new⟩ := by
            refine hok.piece k1 k2 k3 k4 ?_ k5
            intro i hi
            cases l with
            | none => simp [fromL]
            | some l => simp [fromL]
          refine ⟨_, w, { ρ with σ := upd ρ.σ nr (sliced A (l.getD 0).toNat H M R.sz) }, .inl (hrun _ hr), Env.le_row hnr _, ?_, ?_, fun _ _ => rfl, fun r hr => upd_ne _ _ (hr.resolve_right (by simp [Ev.isRow]))⟩
          · simp only [Ev.sv, SV.rep, Cv.den, At.den, upd_same, sliced]
          · have hd := hm.disown r
            simp only [St.eff, hH]
            refine hd.newRow hnr hpc ?_ ?_
            · intro i c b hi hb ht
              exact hm.rowBox r R _ i c b (hrow _ _ hR) hσ hi hb (touch_disown (touch_piece (cap := cap) k2 ht))
            · intro r' R' v' b hr' hv' hown ht' ht
              have htr := touch_piece (cap := cap) k2 ht
              have hown' : R'.own.isSome = true := by
                rcases hown with h | h
                · cases h
                · exact h
              rcases disown_get _ _ _ _ hr' with ⟨hne, hr'⟩ | ⟨hne, R0, hr', rfl⟩
              · exact hm.rowRow r' r R' R v' _ b hne hr' (hrow _ _ hR) hv' hσ hown' ht' (touch_disown htr)
              · cases hown'
        · cases h
      · cases h
    · cases h
  · cases h
end
end Go.Sx
