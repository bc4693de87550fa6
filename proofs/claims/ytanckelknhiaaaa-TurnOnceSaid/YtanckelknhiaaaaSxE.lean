/- More operations on what is known. -/
import Derived.Test.YtanckelknhiaaaaSxD
namespace Go.Sx
open Go.RowKit
set_option linter.unusedVariables false
set_option linter.unusedSimpArgs false
set_option linter.unusedSectionVars false

theorem dens_pasted {ρ : Env} {l c : List At} {vs us : List Value} (h : dens ρ l = some vs) (hc : dens ρ c = some us) (o : Nat) : dens ρ (pasted l o c) = some (vs.take o ++ (us ++ vs.drop (o + us.length))) := by
  unfold pasted
  rw [dens_len hc]
  exact dens_append (dens_take o h) (dens_append hc (dens_drop _ h))
theorem run_storeVar_cells {P : Program} {t : TypeId} {ty : Ty} (h : TyOk P t ty) {w : World} {b o : Nat} {v : Value} {cur : List Value} {tt : TypeId} (hv : v.cells.size = ty.size) (h1 : ∀ u ∈ v.cells.toList, u.oneCell' = true)
    (hb : w.heap[b]? = some (.cells cur.toArray tt (0, 0))) (hle : o + ty.size ≤ cur.length) :
    (storeVar t ⟨b, o, none⟩ v).run P w = .ok () (w.setRow b (cur.take o ++ (v.cells.toList ++ cur.drop (o + v.cells.toList.length))).toArray) := by
  unfold storeVar
  simp only [Sem.run_bind, h.runSize, Result.andThen_ok, hv, ne_eq, not_true_eq_false, if_false]
  have := run_storeCells_at P b o tt v.cells.toList 0 cur.toArray w hb (by simp [hv]; omega) h1
  simp only [Nat.add_zero, List.append_assoc] at this
  simpa using this

theorem paste_get {α : Type} (l us : List α) (o q : Nat) (h : o + us.length ≤ l.length) : (l.take o ++ (us ++ l.drop (o + us.length)))[q]? = if q < o then l[q]? else if q < o + us.length then us[q - o]? else l[q]? := by
  have hlt : (l.take o).length = o := by simp; omega
  by_cases h1 : q < o
  · rw [if_pos h1, List.getElem?_append_left (by omega), List.getElem?_take, if_pos h1]
  · rw [if_neg h1, List.getElem?_append_right (by omega), hlt]
    by_cases h2 : q < o + us.length
    · rw [if_pos h2, List.getElem?_append_left (by omega)]
    · rw [if_neg h2, List.getElem?_append_right (by omega), List.getElem?_drop]
      congr 1; omega
theorem Mem.putRow {W : Base} {s : St} {ρ : Env} {w w' : World} (h : Mem W s ρ w) {r : Nat} {R R' : Row} {v : Value} {b : Nat} (hr : s.R[r]? = some (some R)) (hv : ρ.σ r = some v) (hown : R.own.isSome = true) (hb : R.touch v b) (hW : W.mine b)
    (h1 : R'.own = R.own) (h2 : R'.len = R.len) (hok : RowOk W ρ w' v R') (hk : ∀ k, k ≠ b → w'.heap[k]? = w.heap[k]?) (hs : w'.heap.size = w.heap.size) (ho : w'.os = w.os ∧ w'.tape = w.tape ∧ w'.output = w.output) :
    Mem W { s with R := setAt s.R r R' } ρ w' := by
  have ht : ∀ v b, R'.touch v b ↔ R.touch v b := fun v b => by unfold Row.touch; rw [h1, h2]
  refine ⟨⟨ho.1.trans h.below.os, ho.2.1.trans h.below.tape, ho.2.2.trans h.below.output, by rw [hs]; exact h.below.size, fun k hkW hg => (hk k (fun e => by subst e; rcases hW with hW | hW; (omega); exact hg hW)).trans (h.below.block k hkW hg)⟩,
    fun j d hj => ?_, h.boxNe, fun r2 R2 hr2 => ?_, fun r2 R2 v2 j d b' hr2 hv2 hj hb' => ?_, fun r2 r3 R2 R3 v2 v3 b' hne hr2 hr3 hv2 hv3 hown2 ht2 => ?_⟩
  · obtain ⟨b', us, t', g1, g2, g3, g4⟩ := h.box j d hj
    exact ⟨b', us, t', g1, g2, g3, (hk b' (fun e => by subst e; exact h.rowBox r R v j d b' hr hv hj g1 hb)).trans g4⟩
  · rcases setAt_get _ _ _ _ _ hr2 with ⟨rfl, rfl⟩ | ⟨hne, hr2⟩
    · exact ⟨v, hv, hok⟩
    · obtain ⟨v2, hv2, hok2⟩ := h.row r2 R2 hr2
      exact ⟨v2, hv2, hok2.keep (by omega) fun b' ht' => hk b' (fun e => by subst e; exact h.rowRow r r2 R R2 v v2 b' (Ne.symm hne) hr hr2 hv hv2 hown hb ht')⟩
  · rcases setAt_get _ _ _ _ _ hr2 with ⟨rfl, rfl⟩ | ⟨hne, hr2⟩
    · rw [ht]; exact h.rowBox r2 R v2 j d b' hr hv2 hj hb'
    · exact h.rowBox r2 R2 v2 j d b' hr2 hv2 hj hb'
  · rcases setAt_get _ _ _ _ _ hr2 with ⟨e1, e2⟩ | ⟨hne2, hr2b⟩ <;> rcases setAt_get _ _ _ _ _ hr3 with ⟨e3, e4⟩ | ⟨hne3, hr3b⟩
    · exact absurd (e1.trans e3.symm) hne
    · subst e1 e2
      exact h.rowRow r2 r3 R R3 v2 v3 b' hne hr hr3b hv2 hv3 hown ((ht v2 b').1 ht2)
    · subst e3 e4
      rw [ht]; exact h.rowRow r2 r3 R2 R v2 v3 b' hne hr2b hr hv2 hv3 hown2 ht2
    · exact h.rowRow r2 r3 R2 R3 v2 v3 b' hne hr2b hr3b hv2 hv3 hown2 ht2

section
variable {P : Program} {ρ : Env} {w : World}
theorem run_part1 {e : TypeId} {k : Nat} (he : (P.underlying e).map tagOf = some k) (h0 : k ≠ 0) {xs : Array Value} {off : Nat} {v : Value} (hx : xs[off]? = some v) : (part e xs off).run P w = .ok v w := by
  obtain ⟨d, hu, hk⟩ := Option.map_eq_some_iff.1 he
  cases d <;> simp [tagOf] at hk <;> first
    | (exfalso; exact h0 hk.symm; done)
    | simp [part, isAgg, run_underlying hu, hx]
theorem boolOf_den {x : At} {b : Bool} (h : boolOf x = some b) : x.den ρ = some (.bool b) := by
  unfold boolOf at h
  split at h
  · injection h with h; subst h; rfl
  · injection h with h; subst h; rfl
  · cases h
theorem eqAt_run {d k : Nat} {e : TypeId} {x y : At} {v u : Value} {r : Bool} (he : (P.underlying e).map tagOf = some k) (h : eqAt k x y = some r) (hx : x.den ρ = some v) (hy : y.den ρ = some u) : (Op.equalIn (d + 1) e v u).run P w = .ok r w := by
  obtain ⟨t, hu, hk⟩ := Option.map_eq_some_iff.1 he
  unfold eqAt at h
  split at h
  · injection hx with hx; injection hy with hy; subst hx hy
    split at h
    · injection h with h; subst h
      rename_i hkk; subst hkk
      cases t <;> simp [tagOf] at hk
      exact run_equalIn_int w d e _ _ _ _ hu
    · cases h
  · split at h
    · rename_i a b ha hb
      injection h with h; subst h
      rw [boolOf_den ha] at hx; injection hx with hx; subst hx
      rw [boolOf_den hb] at hy; injection hy with hy; subst hy
      cases t <;> simp [tagOf] at hk
      exact run_equalIn_bool w d e _ _ hu
    · cases h
  · injection hx with hx; injection hy with hy; subst hx hy
    injection h with h; subst h
    cases t <;> simp [tagOf] at hk
    exact run_equalIn_string w d e _ _ hu
  · cases h
theorem eqFields_run {d : Nat} : ∀ {fs : List Field} {ks : List Nat} {off : Nat} {as bs : List At} {vs us : List Value} {xs ys : Array Value} {r : Bool}, flatFs P fs off ks = true → eqCells ks as bs = some r → dens ρ as = some vs → dens ρ bs = some us →
    (∀ j v, vs[j]? = some v → xs[off + j]? = some v) → (∀ j v, us[j]? = some v → ys[off + j]? = some v) → (Op.eqFields (d + 1) xs ys fs).run P w = .ok r w
  | [], k :: ks, off, as, bs, vs, us, xs, ys, r, hf, _, _, _, _, _ => by simp [flatFs] at hf
  | fs, [], off, as, bs, vs, us, xs, ys, r, _, he, _, _, _, _ => by simp [eqCells] at he
  | f :: fs, k :: ks, off, [], bs, vs, us, xs, ys, r, _, he, _, _, _, _ => by simp [eqCells] at he
  | f :: fs, k :: ks, off, a :: as, [], vs, us, xs, ys, r, _, he, _, _, _, _ => by simp [eqCells] at he
  | f :: fs, k :: ks, off, a :: as, b :: bs, vs, us, xs, ys, r, hf, he, ha, hb, hx, hy => by
    simp only [flatFs, Bool.and_eq_true, bne_iff_ne, beq_iff_eq] at hf
    obtain ⟨hn, rfl, hk, hk0, hf⟩ := hf
    obtain ⟨v, vs', ha1, ha2, rfl⟩ := dens_cons ha
    obtain ⟨u, us', hb1, hb2, rfl⟩ := dens_cons hb
    have px := run_part1 (w := w) hk hk0 (hx 0 v (by simp))
    have py := run_part1 (w := w) hk hk0 (hy 0 u (by simp))
    simp only [Nat.add_zero] at px py
    simp only [eqCells] at he
    split at he
    · rename_i e hea
      have hrun := eqAt_run (w := w) (d := d) hk hea ha1 hb1
      simp only [Op.eqFields, if_pos hn, Sem.run_bind, px, py, hrun, Result.andThen_ok, Sem.run_ite]
      split at he
      · rename_i hks
        split at he
        · injection he with he; subst he
          cases fs with
          | nil => cases e <;> simp [Op.eqFields]
          | cons g gs => simp [flatFs] at hf
        · cases he
      · split at he
        · rename_i r' hr'
          injection he with he; subst he
          have ih := eqFields_run (d := d) (xs := xs) (ys := ys) hf hr' ha2 hb2 (fun j v h => by have := hx (j + 1) v (by simpa using h); rwa [show f.offset + (j + 1) = f.offset + 1 + j by omega] at this) (fun j v h => by have := hy (j + 1) v (by simpa using h); rwa [show f.offset + (j + 1) = f.offset + 1 + j by omega] at this)
          cases e
          · simp
          · simpa using ih
        · cases he
    · cases he
end
section
variable {P : Program} {T : Tab} (hT : TabOk P T) {W : Base} {s : St} {ρ : Env} {w : World} (hm : Mem W s ρ w) {get : Operand → Option SV} {box : Nat → Option (List At)} {row : Nat → Option Row} {nb nr : Nat} {e : Operand → Value}
  (hget : ∀ x sv, get x = some sv → sv.rep ρ (e x)) (hbox : ∀ i c, box i = some c → s.B[i]? = some (some c)) (hrow : ∀ r R, row r = some R → s.R[r]? = some (some R))
  (hnb : ρ.β nb = none) (hnr : ρ.σ nr = none) {o : Oper} {ev : Ev} (hob : ev.ob)
include hT hm hget hbox hrow hnb hnr hob

theorem snd_store {t : TypeId} {x y : Operand} (ho : o.op = .store t x y) (h : evalOp T get box row (.store t x y) = some ev) : Comes1 P W s ρ w nb nr e o ev := by
  have hrun : ∀ a w', e x = .pointer (some a) → (storeVar t a (e y)).run P w = .ok () w' → (execOp e o).run P w = .ok .skip w' := by
    intro a w' ha hv
    unfold execOp
    rw [ho]
    simp only [Instr.storeAt, ha, Instr.sureAddr, pure, Sem.run_bind, Sem.run, Result.andThen_ok, hv]
  simp only [evalOp] at h
  split at h
  · rename_i ty i off c hty hx hy
    split at h
    · rename_i old hb
      split at h
      · rename_i hsz
        injection h with h; subst h
        obtain ⟨b, vs, tt, h1, h2, h3, h4⟩ := hm.box i old (hbox _ _ hb)
        have hp := hget _ _ hx
        simp only [SV.rep, Cv.den, At.den, Pt.den, h1, Option.map_some, Option.some.injEq] at hp
        have hc := Cv.den_cells (hget _ _ hy)
        have hl := dens_len hc
        have hrw := run_storeVar_cells (hT _ _ hty) (o := off) (v := e y) (by simpa using hl.trans hsz.1) (dens_one hc) h4 (by rw [dens_len h3]; exact hsz.2)
        refine ⟨_, _, ρ, .inr ⟨hrun _ _ hp.symm hrw, rfl⟩, Env.le_refl ρ, ⟨[], rfl, rfl⟩, ?_, fun _ _ => rfl, fun _ _ => rfl⟩
        exact hm.putBox (hbox _ _ hb) h1 (dens_pasted h3 hc off) (setRow_heap w b _ _ tt (0, 0) h4) (fun k hk => setRow_other w b k _ hk) (by simp) ⟨rfl, rfl, rfl⟩
      · cases h
    · cases h
  · rename_i ty r i sz off c hty hx hy
    split at h
    · rename_i R hR
      split at h
      · rename_i el hown
        split at h
        · rename_i hsz
          injection h with h; subst h
          obtain ⟨hi0, hi1⟩ := hob
          obtain ⟨hc1, hc2, hc3⟩ := hsz
          subst hc3
          have hR' := hrow _ _ hR
          obtain ⟨v0, hσ, hok⟩ := hm.row r R hR'
          obtain ⟨A, cap, rfl, hcl, hcm, hcn, hct, g1, g2⟩ := hok.form
          have hlen : i.toNat < R.len := by omega
          obtain ⟨b, oo, rfl, hlt, hcell⟩ := g1 (by omega)
          rcases g2 el hown with h0 | ⟨g, cur, hg0, hWg, hg, hcs⟩
          · omega
          injection hg0 with hg0; injection hg0 with e1 e2 _
          subst e1 e2
          obtain ⟨vs, hvs, hvl⟩ := hok.each i.toNat hlen
          have hp := hget _ _ hx
          simp only [SV.rep, Cv.den, At.den, Pt.den, hσ, Option.some.injEq, add_off] at hp
          have hc := Cv.den_cells (hget _ _ hy)
          have hl := dens_len hc
          have hmul : i.toNat * R.sz + R.sz ≤ cap * R.sz := by
            rw [← Nat.succ_mul]; exact Nat.mul_le_mul_right _ (by omega)
          have hcurl : cur.toList.length = cap * R.sz := by simpa using hcs
          have hrw := run_storeVar_cells (hT _ _ hty) (w := w) (b := b) (o := 0 + i.toNat * R.sz + off) (v := e y) (cur := cur.toList) (tt := el) (by simpa using hl.trans hc1) (dens_one hc) (by simpa using hg) (by rw [hcurl]; omega)
          refine ⟨_, _, ρ, .inr ⟨hrun _ _ hp.symm hrw, rfl⟩, Env.le_refl ρ, ⟨[], rfl, rfl⟩, ?_, fun _ _ => rfl, fun _ _ => rfl⟩
          have htouch : R.touch (.slice (some ⟨b, 0, none⟩) R.len cap) b := ⟨rfl, .inr (by omega)⟩
          have hulen : (e y).cells.toList.length = ty.size := hl.trans hc1
          refine hm.putRow hR' hσ (by simp [hown]) htouch hWg rfl rfl ?_ (fun k hk => setRow_other w b k _ hk) (by simp) ⟨rfl, rfl, rfl⟩
          have hnew := setRow_heap w b cur (cur.toList.take (0 + i.toNat * R.sz + off) ++ ((e y).cells.toList ++ cur.toList.drop (0 + i.toNat * R.sz + off + (e y).cells.toList.length))).toArray el (0, 0) hg
          have hcd := dens_len hc
          refine ⟨⟨_, cap, rfl, hcl, hcm, hcn, hct, fun _ => ⟨b, 0, rfl, by simpa using hlt, fun i' vs' hi' hvs' j u hu => ?_⟩, fun e' he' => ?_⟩, fun i' hi' => ?_, fun hn b' ht' => hok.fresh hn b' ht'⟩
          · rw [cell_of_blk hnew, paste_get _ _ _ _ (by rw [hcurl, hulen]; omega)]
            dsimp only at hvs' hi' ⊢
            by_cases hii : i' = i.toNat
            · rw [if_pos hii] at hvs'
              have hpd := dens_pasted hvs hc off
              rw [← hii] at hpd hvs
              rw [hpd] at hvs'; injection hvs' with hvs'; subst hvs'
              rw [paste_get _ _ _ _ (by rw [hvl, hulen]; omega)] at hu
              rw [← hii, hulen]
              rw [hulen] at hu
              have hq : ∀ u, vs[j]? = some u → cur.toList[0 + i' * R.sz + j]? = some u := fun u hu => by
                have := hcell i' vs hi' hvs j u hu
                simpa [World.cell?, hg] using this
                
              by_cases h1 : j < off
              · rw [if_pos h1] at hu; rw [if_pos (by omega)]; exact hq _ hu
              · rw [if_neg h1] at hu; rw [if_neg (by omega)]
                by_cases h2 : j < off + ty.size
                · rw [if_pos h2] at hu; rw [if_pos (by omega)]
                  rw [show 0 + i' * R.sz + j - (0 + i' * R.sz + off) = j - off by omega]; exact hu
                · rw [if_neg h2] at hu; rw [if_neg (by omega)]; exact hq _ hu
            · rw [if_neg hii] at hvs'
              have hj : j < R.sz := by
                obtain ⟨ws, hws, hwl⟩ := hok.each i' hi'
                rw [hvs'] at hws; injection hws with hws; subst hws
                rw [← hwl]; exact (List.getElem?_eq_some_iff.1 hu).1
              have hq : cur.toList[0 + i' * R.sz + j]? = some u := by
                have := hcell i' vs' hi' hvs' j u hu
                simpa [World.cell?, hg] using this
              rw [hulen]
              rcases Nat.lt_or_gt_of_ne hii with hlt' | hlt'
              · have : i' * R.sz + R.sz ≤ i.toNat * R.sz := by rw [← Nat.succ_mul]; exact Nat.mul_le_mul_right _ (by omega)
                rw [if_pos (by omega)]; exact hq
              · have : i.toNat * R.sz + R.sz ≤ i' * R.sz := by rw [← Nat.succ_mul]; exact Nat.mul_le_mul_right _ (by omega)
                rw [if_neg (by omega), if_neg (by omega)]; exact hq
          · dsimp only at he'
            rw [hown] at he'; injection he' with he'; subst he'
            exact .inr ⟨b, _, rfl, hWg, hnew, by simp [hulen]; rw [hcs]; omega⟩
          · dsimp only at hi' ⊢
            by_cases hii : i' = i.toNat
            · rw [if_pos hii, hii]
              exact ⟨_, dens_pasted hvs hc off, by simp [hvl, hulen]; omega⟩
            · rw [if_neg hii]; exact hok.each i' hi'
        · cases h
      · cases h
    · cases h
  · cases h

theorem snd_nilCheck {x : Operand} (ho : o.op = .nilCheck x) (h : evalOp T get box row (.nilCheck x) = some ev) : Comes1 P W s ρ w nb nr e o ev := by
  simp only [evalOp] at h
  split at h
  · rename_i p hx
    injection h with h; subst h
    obtain ⟨a, ha⟩ := Pt.den_form (hget _ _ hx)
    refine .val hm (v := e x) ?_ (hget _ _ hx)
    unfold execOp
    rw [ho]
    simp only [ha]
    rfl
  · rename_i f c hx
    injection h with h; subst h
    have hp := hget _ _ hx
    refine .val hm (v := e x) ?_ hp
    simp only [SV.rep, Cv.den, At.den, Option.map_eq_some_iff] at hp
    obtain ⟨vs, _, hv⟩ := hp
    unfold execOp
    rw [ho]
    simp only [← hv]
    rfl
  · cases h

theorem evalBin_run {op : BinOp} {x y : At} {v u r : Value} {ob : Option Prop} {t : TypeId} {X Y : Operand} (h : evalBin op x y = some (r, ob)) (hx : x.den ρ = some v) (hy : y.den ρ = some u) (hob : holds ob) :
    (do eqGuard op t X Y v u; binOp op t v u : Sem Value).run P w = .ok r w ∧ r.oneCell' = true := by
  unfold evalBin at h
  split at h
  · rename_i k a k' b
    injection hx with hx; injection hy with hy; subst hx hy
    have hg : (eqGuard op t X Y (.int k a) (.int k' b)).run P w = .ok () w := by unfold eqGuard; split <;> rfl
    simp only [Sem.run_bind, hg, Result.andThen_ok]
    split at h
    · injection h with h; injection h with h1 h2; subst h1 h2
      have hob' : 0 ≤ b := hob
      have : ¬ b < 0 := by omega
      simp [binOp, Op.shift, this, Sem.run, pure, Value.oneCell']
    · injection h with h; injection h with h1 h2; subst h1 h2
      have hob' : 0 ≤ b := hob
      have : ¬ b < 0 := by omega
      simp [binOp, Op.shift, this, Sem.run, pure, Value.oneCell']
    · split at h
      · rename_i hkk
        subst hkk
        unfold intBin at h
        split at h <;> first
          | (injection h with h; injection h with h1 h2; subst h1 h2; simp_all [holds, binOp, Op.intArith, Op.intCmp, Op.intBits, Op.intDiv, Sem.run, pure, Value.oneCell']; done)
          | cases h
      · cases h
  · rename_i a b
    injection hx with hx; injection hy with hy; subst hx hy
    have hg : (eqGuard op t X Y (.string a) (.string b)).run P w = .ok () w := by unfold eqGuard; split <;> rfl
    simp only [Sem.run_bind, hg, Result.andThen_ok]
    unfold strBin at h
    split at h
    · injection h with h; injection h with h1 h2; subst h1 h2
      have hob' : a.size + b.size ≤ 9223372036854775807 := hob
      have : ¬ ((a.size + b.size : Nat) : Int) > IntKind.i64.max := by
        have : IntKind.i64.max = 9223372036854775807 := by decide
        omega
      simp only [binOp, Op.stringOp, this, if_false]
      exact ⟨rfl, rfl⟩
    · injection h with h; injection h with h1 h2; subst h1 h2
      exact ⟨rfl, rfl⟩
    · injection h with h; injection h with h1 h2; subst h1 h2
      exact ⟨rfl, rfl⟩
    · cases h
  · cases h
theorem snd_binOp {op : BinOp} {t ty : TypeId} {x y : Operand} (ho : o.op = .binOp op t x y ty) (h : evalOp T get box row (.binOp op t x y ty) = some ev) : Comes1 P W s ρ w nb nr e o ev := by
  simp only [evalOp] at h
  split at h
  · rename_i a b hx hy
    split at h
    · rename_i v ob hv
      injection h with h; subst h
      obtain ⟨h1, h2⟩ := evalBin_run hT hm hget hbox hrow hnb hnr hob (t := t) (X := x) (Y := y) hv (hget _ _ hx) (hget _ _ hy) hob
      refine .val hm (v := v) ?_ (by simp [SV.rep, Cv.den, At.den, h2])
      unfold execOp
      rw [ho]
      simp only [Sem.run_bind] at h1 ⊢
      simp only [h1]
      rfl
    · split at h
      · rename_i p q hp hq
        split at h
        · rename_i tt htt
          split at h
          · rename_i hk
            have hu := (hT t tt htt).bool hk
            have e1 : e x = .bool p := by have := hget _ _ hx; simp only [SV.rep, Cv.den] at this; rw [boolOf_den hp] at this; injection this with this; exact this.symm
            have e2 : e y = .bool q := by have := hget _ _ hy; simp only [SV.rep, Cv.den] at this; rw [boolOf_den hq] at this; injection this with this; exact this.symm
            have hg : ∀ op X Y, (eqGuard op t X Y (.bool p) (.bool q)).run P w = .ok () w := fun op X Y => by unfold eqGuard; split <;> rfl
            unfold boolBin at h
            split at h
            · rename_i v hv
              injection h with h; subst h
              split at hv
              · injection hv with hv; subst hv
                refine .val hm (v := .bool (p == q)) ?_ rfl
                unfold execOp
                rw [ho]
                simp only [Sem.run_bind, e1, e2, hg, Result.andThen_ok, run_eql_bool w t p q hu]
                rfl
              · injection hv with hv; subst hv
                refine .val hm (v := .bool (!(p == q))) ?_ rfl
                unfold execOp
                rw [ho]
                have : (binOp .neq t (.bool p) (.bool q)).run P w = .ok (.bool (!(p == q))) w := by
                  simp [binOp, run_equal_bool w t p q hu]
                simp only [Sem.run_bind, e1, e2, hg, Result.andThen_ok, this]
                rfl
              · cases hv
            · cases h
          · cases h
        · cases h
      · cases h
  · rename_i a b hx hy
    split at h
    · rename_i tt htt
      split at h
      · rename_i r hr
        obtain ⟨vs, h1, h2⟩ : ∃ vs, dens ρ a = some vs ∧ e x = .agg vs.toArray := by
          have := hget _ _ hx
          simp only [SV.rep, Cv.den, Option.map_eq_some_iff] at this
          obtain ⟨vs, h1, h2⟩ := this; exact ⟨vs, h1, h2.symm⟩
        obtain ⟨us, h3, h4⟩ : ∃ vs, dens ρ b = some vs ∧ e y = .agg vs.toArray := by
          have := hget _ _ hy
          simp only [SV.rep, Cv.den, Option.map_eq_some_iff] at this
          obtain ⟨vs, h1, h2⟩ := this; exact ⟨vs, h1, h2.symm⟩
        rcases (hT t tt htt).2.2.2.2 with h0 | ⟨hu, hs, hgd, hfl⟩
        · rw [h0] at hr; simp [eqCells] at hr
        have hrun : (Op.equalIn 10000 t (.agg vs.toArray) (.agg us.toArray)).run P w = .ok r w := by
          rw [run_equalIn_agg w 9999 t _ _ hu hs]
          exact eqFields_run hfl hr h1 h3 (fun j v h => by simpa using h) (fun j v h => by simpa using h)
        split at h
        · injection h with h; subst h
          refine .val hm (v := .bool r) ?_ rfl
          unfold execOp
          rw [ho]
          simp only [Sem.run_bind, h2, h4, run_eqGuard_agg w _ t _ _ _ _ hgd, Result.andThen_ok, run_eql_struct, hrun]
          rfl
        · injection h with h; subst h
          refine .val hm (v := .bool (!r)) ?_ rfl
          unfold execOp
          rw [ho]
          simp only [Sem.run_bind, h2, h4, run_eqGuard_agg w _ t _ _ _ _ hgd, Result.andThen_ok, run_neq_struct, hrun]
          rfl
        · cases h
      · cases h
    · cases h
  · cases h
theorem snd_unOp {op : UnOp} {t : TypeId} {x : Operand} (ho : o.op = .unOp op t x) (h : evalOp T get box row (.unOp op t x) = some ev) : Comes1 P W s ρ w nb nr e o ev := by
  simp only [evalOp] at h
  split at h
  · rename_i b hx
    injection h with h; subst h
    have hp := hget _ _ hx
    injection hp with hp
    refine .val hm (v := .bool (!b)) ?_ rfl
    unfold execOp
    rw [ho]
    simp only [← hp]
    rfl
  · rename_i b hx
    injection h with h; subst h
    have hp := hget _ _ hx
    injection hp with hp
    refine .val hm (v := .bool (!b)) ?_ rfl
    unfold execOp
    rw [ho]
    simp only [← hp]
    rfl
  · rename_i k n hx
    injection h with h; subst h
    have hp := hget _ _ hx
    injection hp with hp
    refine .val hm (v := .int k (k.wrap (0 - n))) ?_ rfl
    unfold execOp
    rw [ho]
    simp only [← hp]
    rfl
  · cases h
theorem snd_convert {t1 t2 : TypeId} {x : Operand} (ho : o.op = .convert t1 t2 x) (h : evalOp T get box row (.convert t1 t2 x) = some ev) : Comes1 P W s ρ w nb nr e o ev := by
  simp only [evalOp] at h
  split at h
  · rename_i ts td k0 n hts htd hx
    split at h
    · rename_i k hk
      injection h with h; subst h
      have hp := hget _ _ hx
      injection hp with hp
      refine .val hm (v := .int k (k.wrap n)) ?_ rfl
      obtain ⟨d1, hd1, _⟩ := (hT _ _ hts).und
      have hd2 := (hT _ _ htd).int hk
      unfold execOp
      rw [ho]
      simp only [convert, Sem.run_bind, run_underlying hd1, run_underlying hd2, Result.andThen_ok, ← hp]
      cases d1 <;> rfl
    · cases h
  · cases h
theorem ptDens_map {l : List Operand} : ∀ {ps : List Pt}, (l.mapM fun c => match get c with
        | some (.cv (.one (.pt p))) => some p
        | _ => none) = some ps → ptDens ρ ps = some (l.map e) := by
  induction l with
  | nil => intro ps h; simp at h; subst h; rfl
  | cons x l ih =>
    intro ps h
    simp only [List.mapM_cons, Option.bind_eq_bind, Option.bind_eq_some_iff, Option.pure_def, Option.some.injEq] at h
    obtain ⟨p, hp, qs, hqs, rfl⟩ := h
    split at hp
    · rename_i p' hx
      injection hp with hp; subst hp
      have h1 : p'.den ρ = some (e x) := hget _ _ hx
      simp only [ptDens, h1, ih hqs, List.map_cons]
    · cases hp
theorem snd_makeFunc {f : FuncId} {first caps : Array Operand} (ho : o.op = .makeFunc (.func f) first caps) (h : evalOp T get box row (.makeFunc (.func f) first caps) = some ev) : Comes1 P W s ρ w nb nr e o ev := by
  simp only [evalOp] at h
  split at h
  · rename_i hf
    split at h
    · rename_i ps hps
      injection h with h; subst h
      have hd := ptDens_map hT hm hget hbox hrow hnb hnr hob hps
      have hf' : first = #[] := by simpa using hf
      refine .val hm (v := .func (.func f) #[] (caps.map e)) ?_ (by simp [SV.rep, Cv.den, At.den, hd, ← Array.toList_map])
      unfold execOp
      rw [ho, hf']
      simp [Instr.makeFunc, Sem.run, pure, Sem.run_bind]
    · cases h
  · cases h
theorem snd_extract {x : Operand} {i : Nat} (ho : o.op = .extract x i) (h : evalOp T get box row (.extract x i) = some ev) : Comes1 P W s ρ w nb nr e o ev := by
  simp only [evalOp] at h
  split at h
  · rename_i l hx
    split at h
    · rename_i c hc
      injection h with h; subst h
      obtain ⟨vs, h1, h2⟩ := hget _ _ hx
      have key : ∀ (l : List Cv) (vs : List Value) (i : Nat), cvDens ρ l = some vs → l[i]? = some c → ∃ v, vs[i]? = some v ∧ c.den ρ = some v := by
        intro l
        induction l with
        | nil => intro vs i h hi; simp at hi
        | cons y l ih =>
          intro vs i h hi
          simp only [cvDens] at h
          split at h
          · rename_i v ws g1 g2
            injection h with h; subst h
            cases i with
            | zero => simp at hi; subst hi; exact ⟨v, by simp, g1⟩
            | succ i => simp at hi; obtain ⟨u, g3, g4⟩ := ih ws i g2 hi; exact ⟨u, by simpa using g3, g4⟩
          · cases h
      obtain ⟨v, hv, hd⟩ := key l vs i h1 hc
      refine .val hm (v := v) ?_ hd
      unfold execOp
      rw [ho]
      simp only [Instr.extract, h2]
      simp [hv, Sem.run, pure]
    · cases h
  · cases h
theorem snd_field {t : TypeId} {x : Operand} {f : Nat} (ho : o.op = .field t x f) (h : evalOp T get box row (.field t x f) = some ev) : Comes1 P W s ρ w nb nr e o ev := by
  simp only [evalOp] at h
  split at h
  · rename_i ty l hty hx
    split at h
    · rename_i fs hk
      split at h
      · rename_i off ft hf
        split at h
        · rename_i tf htf
          split at h
          · rename_i c hc
            injection h with h; subst h
            obtain ⟨gs, hgs, hmap⟩ := (hT _ _ hty).struct hk
            have hp := hget _ _ hx
            simp only [SV.rep, Cv.den, Option.map_eq_some_iff] at hp
            obtain ⟨vs, hvs, hv⟩ := hp
            obtain ⟨fd, hfd, hfe⟩ : ∃ fd : Field, gs[f]? = some fd ∧ (fd.offset, fd.type) = (off, ft) := by
              rw [← hmap, List.getElem?_map, Option.map_eq_some_iff] at hf
              obtain ⟨fd, h1, h2⟩ := hf
              exact ⟨fd, by simpa using h1, h2⟩
            injection hfe with e1 e2
            have hok := hT _ _ htf
            have hpart : ∃ v, (part ft vs.toArray off).run P w = .ok v w ∧ c.den ρ = some v := by
              unfold part
              rcases mkCv_den hc (dens_take tf.size (dens_drop off hvs)) with ⟨h1, h2, h3⟩ | ⟨h1, v, h2, h3⟩
              · refine ⟨_, ?_, h3⟩
                simp only [Sem.run_bind, hok.runAgg, Result.andThen_ok, h1, if_true, hok.runSize]
                simp only [pure, Sem.run, Result.ok.injEq, Value.agg.injEq, and_true]
                apply Array.ext'
                simp [List.drop_take]
              · refine ⟨v, ?_, h3⟩
                have hg : vs[off]? = some v := by
                  have := congrArg (fun z => z[0]?) h2
                  simp only [List.getElem?_cons_zero] at this
                  have := cut_get this
                  simpa using this.1
                simp only [Sem.run_bind, hok.runAgg, Result.andThen_ok, h1]
                simp [hg, Sem.run, pure]
            obtain ⟨v, hr, hd⟩ := hpart
            refine .val hm (v := v) ?_ hd
            unfold execOp
            rw [ho]
            simp only [Instr.field, Sem.run_bind, run_underlying hgs, Result.andThen_ok, hfd, ← hv, asAgg, e1, e2]
            simp [Sem.run, pure, hr]
          · cases h
        · cases h
      · cases h
    · cases h
  · cases h
theorem snd_fieldAddr {t : TypeId} {x : Operand} {f : Nat} (ho : o.op = .fieldAddr t x f) (h : evalOp T get box row (.fieldAddr t x f) = some ev) : Comes1 P W s ρ w nb nr e o ev := by
  simp only [evalOp] at h
  split at h
  · rename_i ty p hty hx
    split at h
    · rename_i fs hk
      split at h
      · rename_i off ft hf
        split at h
        · rename_i tf htf
          split at h
          · rename_i hpos
            obtain ⟨gs, hgs, hmap⟩ := (hT _ _ hty).struct hk
            obtain ⟨fd, hfd, hfe⟩ : ∃ fd : Field, gs[f]? = some fd ∧ (fd.offset, fd.type) = (off, ft) := by
              rw [← hmap, List.getElem?_map, Option.map_eq_some_iff] at hf
              obtain ⟨fd, h1, h2⟩ := hf
              exact ⟨fd, by simpa using h1, h2⟩
            injection hfe with e1 e2
            have hok := hT _ _ htf
            have hrun : ∀ a, e x = .pointer (some a) → (execOp e o).run P w = .ok (.value (.pointer (some (a.add off)))) w := by
              intro a ha
              unfold execOp
              rw [ho]
              simp only [Instr.fieldAt, Sem.run_bind, run_underlying hgs, Result.andThen_ok, hfd, ha, Instr.sureAddr]
              simp [Sem.run, pure, fieldPlace_run hok w hpos a fd e2, e1]
            have hp := hget _ _ hx
            split at h
            · rename_i i o'
              injection h with h; subst h
              simp only [SV.rep, Cv.den, At.den, Pt.den, Option.map_eq_some_iff] at hp
              obtain ⟨b, hb, hv⟩ := hp
              refine .val hm (hrun _ hv.symm) ?_
              simp [SV.rep, Cv.den, At.den, Pt.den, hb, add_off]
            · rename_i r i sz o'
              injection h with h; subst h
              simp only [SV.rep, Cv.den, At.den, Pt.den] at hp
              split at hp
              · rename_i a n c hσ
                injection hp with hp
                refine .val hm (hrun _ hp.symm) ?_
                simp only [SV.rep, Cv.den, At.den, Pt.den, hσ, Option.some.injEq, Value.pointer.injEq]
                unfold Addr.add
                by_cases h1 : off = 0 <;> by_cases h2 : o' = 0 <;> by_cases h3 : i.toNat * sz = 0 <;> simp [h1, h2, h3, Nat.add_assoc]
              · cases hp
          · cases h
        · cases h
      · cases h
    · cases h
  · cases h
theorem intOfSV_run {x : Operand} {n : Int} (h : intOfSV (get x) = some n) : ∃ k, e x = .int k n := by
  unfold intOfSV at h
  split at h
  · rename_i k m hx
    injection h with h; subst h
    have hp := hget _ _ hx
    injection hp with hp
    exact ⟨k, hp.symm⟩
  · cases h
theorem elem_slice {t e' : TypeId} (h : P.underlying t = some (.slice e')) : P.elem t = e' := by simp [Program.elem, h]
theorem snd_indexAddr {t : TypeId} {x i : Operand} (ho : o.op = .indexAddr t x i) (h : evalOp T get box row (.indexAddr t x i) = some ev) : Comes1 P W s ρ w nb nr e o ev := by
  simp only [evalOp] at h
  split at h
  · rename_i ty r n hty hx hi
    obtain ⟨k, hk⟩ := intOfSV_run hT hm hget hbox hrow hnb hnr hob hi
    split at h
    · rename_i el R hkd hR
      split at h
      · rename_i te hte
        split at h
        · rename_i hsz
          injection h with h; subst h
          obtain ⟨h0, h1⟩ := hob
          obtain ⟨v0, hσ, hok⟩ := hm.row r R (hrow _ _ hR)
          obtain ⟨A, cap, rfl, hc, _, _, _, g1, _⟩ := hok.form
          obtain ⟨b, oo, rfl, hlt, _⟩ := g1 (by omega)
          have hp := hget _ _ hx
          simp only [SV.rep, Cv.den, At.den, hσ, Option.some.injEq] at hp
          have hu := (hT _ _ hty).slice hkd
          refine .val hm (v := .pointer (some ((⟨b, oo, none⟩ : Addr).add (n.toNat * te.size)))) ?_ ?_
          · unfold execOp
            rw [ho]
            simp only [Instr.indexAt, Sem.run_bind, hk, asIntOf, ← hp, run_underlying hu, Result.andThen_ok]
            simp [Sem.run, pure, h0, h1, (hT _ _ hte).runSize]
          · simp only [SV.rep, Cv.den, At.den, Pt.den, hσ, hsz, add_off, Nat.add_zero]
        · cases h
      · cases h
    · cases h
  · rename_i ty b0 off n hty hx hi
    obtain ⟨k, hk⟩ := intOfSV_run hT hm hget hbox hrow hnb hnr hob hi
    split at h
    · rename_i len el hkd
      split at h
      · rename_i te hte
        injection h with h; subst h
        obtain ⟨h0, h1⟩ := hob
        have hp := hget _ _ hx
        simp only [SV.rep, Cv.den, At.den, Pt.den, Option.map_eq_some_iff] at hp
        obtain ⟨b, hb, hv⟩ := hp
        have hu := (hT _ _ hty).array hkd
        refine .val hm (v := .pointer (some ((⟨b, off, none⟩ : Addr).add (n.toNat * te.size)))) ?_ ?_
        · unfold execOp
          rw [ho]
          simp only [Instr.indexAt, Sem.run_bind, hk, asIntOf, ← hv, run_underlying hu, Result.andThen_ok]
          simp [Sem.run, pure, h0, h1, (hT _ _ hte).runSize, Instr.sureAddr]
        · simp [SV.rep, Cv.den, At.den, Pt.den, hb, add_off]
      · cases h
    · cases h
  · cases h
theorem snd_index {t : TypeId} {x i : Operand} (ho : o.op = .index t x i) (h : evalOp T get box row (.index t x i) = some ev) : Comes1 P W s ρ w nb nr e o ev := by
  simp only [evalOp] at h
  split at h
  · rename_i ty str n hty hx hi
    obtain ⟨k, hk⟩ := intOfSV_run hT hm hget hbox hrow hnb hnr hob hi
    split at h
    · rename_i hkd
      injection h with h; subst h
      obtain ⟨h0, h1⟩ := hob
      have hp := hget _ _ hx
      injection hp with hp
      have hu := (hT _ _ hty).str hkd
      have hlt : n.toNat < str.size := by omega
      refine .val hm (v := .int .u8 (byteAt str n)) ?_ rfl
      unfold execOp
      rw [ho]
      simp only [Instr.index, Sem.run_bind, hk, asIntOf, ← hp, run_underlying hu, Result.andThen_ok]
      have hg : str[n.toNat]? = some str[n.toNat] := by simp [hlt]
      simp [Sem.run, pure, h0, hg, byteAt]
    · cases h
  · cases h
end
end Go.Sx
