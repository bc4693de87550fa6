/- Operations on what is known: they come to what 'evalOp' says. -/
import Derived.Test.YtlbldfdkicofdaaSxC
namespace Go.Sx
open Go.RowKit
set_option linter.unusedVariables false
set_option linter.unusedSimpArgs false
set_option linter.unusedSectionVars false

def Ev.isBox : Ev → Bool
  | .box _ => true
  | _ => false
def Ev.isRow : Ev → Bool
  | .row _ _ | .sub _ _ _ | .app _ _ _ => true
  | _ => false
def Comes1 (P : Program) (W : Base) (s : St) (ρ : Env) (w : World) (nb nr : Nat) (e : Operand → Value) (o : Oper) (ev : Ev) : Prop :=
  ∃ v w' ρ', ((execOp e o).run P w = .ok (.value v) w' ∨ ((execOp e o).run P w = .ok .skip w' ∧ v = undef)) ∧ ρ.le ρ' ∧ (ev.sv nb nr).rep ρ' v ∧ Mem W (s.eff nb nr ev) ρ' w' ∧
    (∀ i, (i ≠ nb ∨ ev.isBox = false) → ρ'.β i = ρ.β i) ∧ (∀ r, (r ≠ nr ∨ ev.isRow = false) → ρ'.σ r = ρ.σ r)

theorem Comes1.val {P : Program} {W : Base} {s : St} {ρ : Env} {w : World} {nb nr : Nat} {e : Operand → Value} {o : Oper} {sv : SV} {ob : Option Prop} (hm : Mem W s ρ w) {v : Value}
    (hr : (execOp e o).run P w = .ok (.value v) w) (hv : sv.rep ρ v) : Comes1 P W s ρ w nb nr e o (.val sv ob) :=
  ⟨v, w, ρ, .inl hr, Env.le_refl ρ, hv, hm, fun _ _ => rfl, fun _ _ => rfl⟩

theorem den_atOf {ρ : Env} {v : Value} (h : v.oneCell' = true) : (atOf v).den ρ = some v := by cases v <;> first | rfl | cases h
theorem dens_atOf {ρ : Env} : ∀ {l : List Value}, (∀ u ∈ l, u.oneCell' = true) → dens ρ (l.map atOf) = some l
  | [], _ => rfl
  | v :: l, h => dens_mk (den_atOf (h v (by simp))) (dens_atOf fun u hu => h u (by simp [hu]))

theorem mkCv_den {ρ : Env} {a : Bool} {n : Nat} {l : List At} {c : Cv} {vs : List Value} (h : mkCv a n l = some c) (hd : dens ρ l = some vs) :
    (a = true ∧ vs.length = n ∧ c.den ρ = some (.agg vs.toArray)) ∨ (a = false ∧ ∃ v, vs = [v] ∧ c.den ρ = some v) := by
  cases a with
  | true =>
    simp only [mkCv] at h
    split at h
    · injection h with h; subst h
      exact .inl ⟨rfl, by rw [dens_len hd]; assumption, by simp [Cv.den, hd]⟩
    · cases h
  | false =>
    simp only [mkCv] at h
    split at h
    · injection h with h; subst h
      obtain ⟨v, ws, h1, h2, rfl⟩ := dens_cons hd
      injection h2 with h2; subst h2
      exact .inr ⟨rfl, v, rfl, h1⟩
    · cases h
/-- A variable is read where its cells read so. -/
theorem run_loadVar_cells {P : Program} {t : TypeId} {ty : Ty} (h : TyOk P t ty) {w : World} {a : Addr} {l : List At} {c : Cv} {ρ : Env} {vs : List Value}
    (hc : mkCv ty.isAgg ty.size l = some c) (hd : dens ρ l = some vs) (hcell : ∀ j u, vs[j]? = some u → w.cell? (a.add j) = some u) :
    ∃ v, (loadVar t a).run P w = .ok v w ∧ c.den ρ = some v := by
  unfold loadVar
  rcases mkCv_den hc hd with ⟨h1, h2, h3⟩ | ⟨h1, v, rfl, h3⟩
  · refine ⟨_, ?_, h3⟩
    simp only [Sem.run_bind, h.runAgg, Result.andThen_ok, h1, if_true, h.runSize]
    rw [← h2, run_loadCells_list w a vs hcell]
    rfl
  · refine ⟨v, ?_, h3⟩
    have := hcell 0 v (by simp)
    simp only [Sem.run_bind, h.runAgg, Result.andThen_ok, h1]
    have ha : a.add 0 = a := by simp [Addr.add]
    rw [ha] at this
    simp [load, Sem.run, this]
theorem add_off (b o j : Nat) : (⟨b, o, none⟩ : Addr).add j = ⟨b, o + j, none⟩ := by unfold Addr.add; split <;> simp_all
theorem take_get {α : Type} {l : List α} {n j : Nat} {x : α} (h : (l.take n)[j]? = some x) : l[j]? = some x ∧ j < n := by
  rw [List.getElem?_take] at h
  split at h
  · exact ⟨h, by assumption⟩
  · cases h
theorem cut_get {α : Type} {l : List α} {o n j : Nat} {x : α} (h : ((l.drop o).take n)[j]? = some x) : l[o + j]? = some x ∧ j < n := by
  obtain ⟨h, hj⟩ := take_get h
  rw [List.getElem?_drop] at h
  exact ⟨h, hj⟩
theorem cell_of_blk {w : World} {b : Nat} {vs : List Value} {t : TypeId} {fr : Nat × Nat} (h : w.heap[b]? = some (.cells vs.toArray t fr)) (j : Nat) : w.cell? ⟨b, j, none⟩ = vs[j]? := by
  simp [World.cell?, h]

section
variable {P : Program} {T : Tab} (hT : TabOk P T) {W : Base} {s : St} {ρ : Env} {w : World} (hm : Mem W s ρ w) {get : Operand → Option SV} {box : Nat → Option (List At)} {row : Nat → Option Row} {nb nr : Nat} {e : Operand → Value}
  (hget : ∀ x sv, get x = some sv → sv.rep ρ (e x)) (hbox : ∀ i c, box i = some c → s.B[i]? = some (some c)) (hrow : ∀ r R, row r = some R → s.R[r]? = some (some R))
  (hnb : ρ.β nb = none) (hnr : ρ.σ nr = none) {o : Oper} {ev : Ev} (hob : ev.ob)
include hT hm hget hbox hrow hnb hnr hob

theorem snd_move {x : Operand} (ho : o.op = .move x ∨ o.op = .assign x) (h : evalOp T get box row (.move x) = some ev) : Comes1 P W s ρ w nb nr e o ev := by
  simp only [evalOp] at h
  split at h
  · rename_i sv hx
    injection h with h; subst h
    refine .val hm (v := e x) ?_ (hget _ _ hx)
    unfold execOp
    rcases ho with ho | ho <;> rw [ho] <;> rfl
  · cases h

theorem snd_pick {c a b : Operand} (ho : o.op = .pick c a b) (h : evalOp T get box row (.pick c a b) = some ev) : Comes1 P W s ρ w nb nr e o ev := by
  simp only [evalOp] at h
  split at h
  · rename_i t hc
    have hc' : e c = .bool t := by
      have := hget _ _ hc
      simp only [SV.rep, Cv.den, At.den, Option.some.injEq] at this
      exact this.symm
    have hrun : ∀ v, (if t = true then e a else e b) = v → (execOp e o).run P w = .ok (.value v) w := by
      intro v hv
      unfold execOp
      rw [ho]
      simp only [hc', asBool, pure, Sem.run_bind, Sem.run, Result.andThen_ok, hv]
    cases t with
    | true =>
      simp only at h
      split at h
      · rename_i sv hx
        injection h with h; subst h
        exact .val hm (hrun _ rfl) (by simpa using hget _ _ hx)
      · cases h
    | false =>
      simp only at h
      split at h
      · rename_i sv hx
        injection h with h; subst h
        exact .val hm (hrun _ rfl) (by simpa using hget _ _ hx)
      · cases h
  · cases h

theorem box_done {c : List At} {vs : List Value} (t : TypeId) (hd : dens ρ c = some vs) (hr : (execOp e o).run P w = .ok (.value (.pointer (some ⟨w.heap.size, 0, none⟩))) (w.alloc (.cells vs.toArray t))) :
    Comes1 P W s ρ w nb nr e o (.box c) := by
  refine ⟨_, _, { ρ with β := upd ρ.β nb w.heap.size }, .inl hr, Env.le_box hnb _, ?_, hm.newBox hnb hd t, fun i hi => upd_ne _ _ (hi.resolve_right (by simp [Ev.isBox])), fun _ _ => rfl⟩
  simp [Ev.sv, SV.rep, Cv.den, At.den, Pt.den, upd_same]

theorem snd_box {t : TypeId} {x : Operand} (ho : o.op = .box t x) (h : evalOp T get box row (.box t x) = some ev) : Comes1 P W s ρ w nb nr e o ev := by
  simp only [evalOp] at h
  split at h
  · rename_i c hx
    injection h with h; subst h
    have hc := Cv.den_cells (hget _ _ hx)
    refine box_done hT hm hget hbox hrow hnb hnr hob t hc ?_
    unfold execOp
    rw [ho]
    rfl
  · cases h

theorem snd_alloc {t : TypeId} (ho : o.op = .alloc t) (h : evalOp T get box row (.alloc t) = some ev) : Comes1 P W s ρ w nb nr e o ev := by
  simp only [evalOp] at h
  split at h
  · rename_i ty hty
    injection h with h; subst h
    have hok := hT _ _ hty
    refine box_done hT hm hget hbox hrow hnb hnr hob t (dens_atOf hok.2.2.2.1) ?_
    unfold execOp
    rw [ho]
    simp only [Instr.alloc, Sem.run_bind, hok.runZero, Result.andThen_ok]
    rfl
  · cases h

omit hT hm hget hbox hrow hnb hnr hob in
theorem intsOf_dens {k : IntKind} : ∀ {l : List At} {xs : List Int}, intsOf k l = some xs → dens ρ l = some (xs.map (Value.int k))
  | [], xs, h => by injection h with h; subst h; rfl
  | x :: l, xs, h => by
    unfold intsOf at h
    split at h
    · cases ‹_ :: _ = []›
    · rename_i k' y l' heq
      injection heq with e1 e2
      subst e1 e2
      split at h
      · rename_i hk
        subst hk
        split at h
        · rename_i ys hys
          injection h with h; subst h
          exact dens_mk (v := .int k y) (by simp [At.den, Value.oneCell']) (intsOf_dens hys)
        · cases h
      · cases h
    · cases h
omit hT hm hget hbox hrow hnb hnr hob in
theorem dens_v : ∀ {l : List Value}, (∀ u ∈ l, u.oneCell' = true) → dens ρ (l.map At.v) = some l
  | [], _ => rfl
  | v :: l, h => dens_mk (by simp [At.den, h v (by simp)]) (dens_v fun u hu => h u (by simp [hu]))
omit hT hget hbox hrow hnb hnr hob in
/-- What is known of a slice that lies in a row of slices. -/
theorem inn_now {c : Value} {sz len : Nat} {cells : Nat → List Value} (h : ρ.ι c sz len cells) : ∃ A cap, c = .slice A len cap ∧ len ≤ cap ∧ cap ≤ maxLen ∧
    (0 < len → ∃ b o, A = some ⟨b, o, none⟩ ∧ b < W.w.heap.size ∧ ∀ i j u, i < len → (cells i)[j]? = some u → w.cell? ⟨b, o + i * sz + j, none⟩ = some u) := by
  obtain ⟨A, cap, rfl, h1, h2, h3⟩ := (hm.inn c sz len cells h).form
  refine ⟨A, cap, rfl, h1, h2, fun hl => ?_⟩
  obtain ⟨b, o, rfl, h4, h5, h6⟩ := h3 hl
  exact ⟨b, o, rfl, h4, fun i j u hi hu => (World.cell?_of_block (a := ⟨b, o + i * sz + j, none⟩) (hm.below.block b h4 h5)).trans (h6 i j u hi hu)⟩
theorem snd_load {t : TypeId} {x : Operand} (ho : o.op = .load t x) (h : evalOp T get box row (.load t x) = some ev) : Comes1 P W s ρ w nb nr e o ev := by
  have hrun : ∀ a v, e x = .pointer (some a) → (loadVar t a).run P w = .ok v w → (execOp e o).run P w = .ok (.value v) w := by
    intro a v ha hv
    unfold execOp
    rw [ho]
    simp only [Instr.loadAt, ha, Instr.sureAddr, pure, Sem.run_bind, Sem.run, Result.andThen_ok, hv]
  simp only [evalOp] at h
  split at h
  · rename_i ty i off hty hx
    split at h
    · rename_i c hb
      split at h
      · rename_i cv hcv
        injection h with h; subst h
        obtain ⟨b, vs, tt, h1, h2, h3, h4⟩ := hm.box i c (hbox _ _ hb)
        have hp := hget _ _ hx
        simp only [SV.rep, Cv.den, At.den, Pt.den, h1, Option.map_some, Option.some.injEq] at hp
        obtain ⟨v, hv, hden⟩ := run_loadVar_cells (a := ⟨b, off, none⟩) (hT _ _ hty) hcv (dens_take ty.size (dens_drop off h3)) (w := w) (fun j u hu => by
          rw [add_off, cell_of_blk h4]
          exact (cut_get hu).1)
        exact .val hm (hrun _ _ hp.symm hv) hden
      · cases h
    · cases h
  · rename_i ty r i sz off hty hx
    split at h
    · rename_i R hR
      split at h
      · rename_i cv hcv
        split at h
        · rename_i hsz
          injection h with h; subst h
          obtain ⟨hi0, hi1⟩ := hob
          have hmul : i.toNat * sz = i.toNat * R.sz := by
            rcases hsz with h | h
            · rw [h]
            · rw [h]; simp
          obtain ⟨v0, hσ, hok⟩ := hm.row r R (hrow _ _ hR)
          obtain ⟨A, cap, rfl, hc, _, _, _, h1, _⟩ := hok.form
          have hlen : i.toNat < R.len := by omega
          obtain ⟨b, oo, rfl, hlt, hcell⟩ := h1 (by omega)
          obtain ⟨vs, hvs, hvl⟩ := hok.each i.toNat hlen
          have hp := hget _ _ hx
          simp only [SV.rep, Cv.den, At.den, Pt.den, hσ, Option.some.injEq, add_off] at hp
          obtain ⟨v, hv, hden⟩ := run_loadVar_cells (a := ⟨b, oo + i.toNat * sz + off, none⟩) (hT _ _ hty) hcv (dens_take ty.size (dens_drop off hvs)) (w := w) (fun j u hu => by
            rw [add_off, hmul, Nat.add_assoc _ off j]
            exact hcell i.toNat vs hlen hvs (off + j) u (cut_get hu).1)
          exact .val hm (hrun _ _ hp.symm hv) hden
        · cases h
      · cases h
    · cases h
  · rename_i ty i off n len hty hx
    split at h
    · rename_i c k hb hk
      split at h
      · rename_i xs hxs
        split at h
        · rename_i hl
          injection h with h; subst h
          obtain ⟨b, vs, tt, h1, h2, h3, h4⟩ := hm.box i c (hbox _ _ hb)
          have hp := hget _ _ hx
          simp only [SV.rep, Cv.den, At.den, Pt.den, h1, Option.map_some] at hp
          split at hp
          · rename_i hr
            simp only [Option.some.injEq] at hp
            have hds := intsOf_dens hxs (ρ := ρ)
            have hd2 := dens_take len (dens_drop off h3)
            rw [hds] at hd2
            injection hd2 with hd2
            have hcell : vs[off + n.toNat]? = some (.int k (pickI xs n)) := by
              have hlt : n.toNat < xs.length := by omega
              have h5 : (xs.map (Value.int k))[n.toNat]? = some (.int k (pickI xs n)) := by
                rw [List.getElem?_map, List.getElem?_eq_getElem hlt]
                simp [pickI, List.getElem?_eq_getElem hlt]
              rw [hd2] at h5
              exact (cut_get h5).1
            obtain ⟨v, hv, hden⟩ := run_loadVar_cells (a := ⟨b, off + n.toNat, none⟩) (l := [.v (.int k (pickI xs n))]) (c := .one (.v (.int k (pickI xs n)))) (hT _ _ hty) (by simp [mkCv, Ty.isAgg, hk]) (ρ := ρ) (vs := [.int k (pickI xs n)]) (by simp [dens, At.den, Value.oneCell']) (w := w) (fun j u hu => by
              cases j with
              | zero =>
                simp at hu; subst hu
                rw [add_off, Nat.add_zero, cell_of_blk h4]
                exact hcell
              | succ j => simp at hu)
            exact .val hm (hrun _ _ hp.symm hv) hden
          · cases hp
        · cases h
      · cases h
    · cases h
  · rename_i ty c sz len cells i off hty hx
    split at h
    · rename_i cv hcv
      injection h with h; subst h
      have hp := hget _ _ hx
      simp only [SV.rep, Cv.den, At.den, Pt.den] at hp
      split at hp
      · rename_i hr
        obtain ⟨hi, hi0, hi1⟩ := hr
        obtain ⟨A, cap, rfl, _, _, h1⟩ := inn_now hm hi
        obtain ⟨b, oo, rfl, _, hcell⟩ := h1 (by omega)
        have he := (hm.inn _ _ _ _ hi).each i.toNat (by omega)
        simp only [Option.some.injEq, add_off] at hp
        obtain ⟨v, hv, hden⟩ := run_loadVar_cells (a := ⟨b, oo + i.toNat * sz + off, none⟩) (hT _ _ hty) hcv (dens_take ty.size (dens_drop off (dens_v he.2))) (ρ := ρ) (w := w) (fun j u hu => by
          rw [add_off, Nat.add_assoc _ off j]
          exact hcell i.toNat (off + j) u (by omega) (cut_get hu).1)
        exact .val hm (hrun _ _ hp.symm hv) hden
      · cases hp
    · cases h
  · cases h
end
end Go.Sx
