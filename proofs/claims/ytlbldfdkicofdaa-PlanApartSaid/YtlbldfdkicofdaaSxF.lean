/- append, len, min on what is known. -/
import Derived.Test.YtlbldfdkicofdaaSxE
import Derived.Maps.AppendAt
import Derived.ArgAppend
import Derived.Laws.AppendOwnNone
namespace Go.Sx
open Go.RowKit
set_option linter.unusedVariables false
set_option linter.unusedSimpArgs false
set_option linter.unusedSectionVars false

/-- The value v is a slice of n elements, of sz cells each, and reads the cells C. -/
def Sl (w : World) (sz : Nat) (v : Value) (n : Nat) (C : List Value) : Prop :=
  C.length = n * sz ∧ ∃ A cap, v = .slice A n cap ∧ n ≤ cap ∧ cap ≤ maxLen ∧ (A = none → cap = 0) ∧
    (0 < n → ∃ b o, A = some ⟨b, o, none⟩ ∧ b < w.heap.size ∧ ∀ j u, C[j]? = some u → w.cell? ⟨b, o + j, none⟩ = some u)
section
variable {α : Type}
theorem flat_len {f : α → List Value} {sz : Nat} (hf : ∀ x, (f x).length = sz) : ∀ L : List α, (L.flatMap f).length = L.length * sz
  | [] => by simp
  | x :: L => by rw [List.flatMap_cons, List.length_append, hf, flat_len hf L, List.length_cons, Nat.add_mul]; omega
theorem flat_get {f : α → List Value} {sz : Nat} (hf : ∀ x, (f x).length = sz) : ∀ (L : List α) (k i : Nat) (x : α), L[k]? = some x → i < sz → (L.flatMap f)[k * sz + i]? = (f x)[i]?
  | [], k, i, x, h, _ => by simp at h
  | y :: L, 0, i, x, h, hi => by
    simp only [List.getElem?_cons_zero, Option.some.injEq] at h
    subst h
    rw [List.flatMap_cons, List.getElem?_append_left (by rw [hf]; omega)]
    simp
  | y :: L, k + 1, i, x, h, hi => by
    simp only [List.getElem?_cons_succ] at h
    rw [List.flatMap_cons, List.getElem?_append_right (by rw [hf, Nat.add_mul]; omega), hf, ← flat_get hf L k i x h hi]
    congr 1
    rw [Nat.add_mul]; omega
end
/-- The cells of an element, as values. -/
noncomputable def Row.vals (R : Row) (ρ : Env) (i : Nat) : List Value := match dens ρ (R.cells i) with
  | some vs => if vs.length = R.sz then vs else List.replicate R.sz undef
  | none => List.replicate R.sz undef
noncomputable def Row.flat (R : Row) (ρ : Env) : List Value := (List.range R.len).flatMap (R.vals ρ)
theorem Row.vals_len (R : Row) (ρ : Env) (i : Nat) : (R.vals ρ i).length = R.sz := by
  unfold Row.vals
  split
  · split
    · assumption
    · simp
  · simp
theorem Row.flat_length (R : Row) (ρ : Env) : (R.flat ρ).length = R.len * R.sz := by
  unfold Row.flat; rw [flat_len (R.vals_len ρ)]; simp
theorem Row.flat_get (R : Row) (ρ : Env) {i j : Nat} {vs : List Value} (hi : i < R.len) (hvs : dens ρ (R.cells i) = some vs) (hl : vs.length = R.sz) (hj : j < R.sz) : (R.flat ρ)[i * R.sz + j]? = vs[j]? := by
  unfold Row.flat
  rw [Sx.flat_get (R.vals_len ρ) _ i j i (by simp [hi]) hj]
  simp [Row.vals, hvs, hl]
theorem Row.flat_at (R : Row) (ρ : Env) (h : ∀ i, i < R.len → ∃ vs, dens ρ (R.cells i) = some vs ∧ vs.length = R.sz) {q : Nat} {u : Value} (hq : (R.flat ρ)[q]? = some u) :
    ∃ i j vs, i < R.len ∧ dens ρ (R.cells i) = some vs ∧ vs.length = R.sz ∧ q = i * R.sz + j ∧ vs[j]? = some u := by
  have hlt := (List.getElem?_eq_some_iff.1 hq).1
  rw [R.flat_length] at hlt
  have hsz : 0 < R.sz := by
    rcases Nat.eq_zero_or_pos R.sz with h0 | h0
    · rw [h0] at hlt; omega
    · exact h0
  have hdiv : q / R.sz < R.len := (Nat.div_lt_iff_lt_mul hsz).2 hlt
  have hmod := Nat.mod_lt q hsz
  have he : q = q / R.sz * R.sz + q % R.sz := by rw [Nat.mul_comm]; exact (Nat.div_add_mod q R.sz).symm
  obtain ⟨vs, h1, h2⟩ := h _ hdiv
  refine ⟨_, _, vs, hdiv, h1, h2, he, ?_⟩
  rw [← R.flat_get ρ hdiv h1 h2 hmod, ← he]; exact hq

section
variable {W : Base} {w w' : World} {ρ : Env} {v : Value} {R : Row}
theorem RowOk.sl (h : RowOk W ρ w v R) : Sl w R.sz v R.len (R.flat ρ) := by
  obtain ⟨A, cap, rfl, hc, hm, hn, _, h1, _⟩ := h.form
  refine ⟨R.flat_length ρ, A, cap, rfl, hc, hm, hn, fun h0 => ?_⟩
  obtain ⟨b, o, rfl, hlt, hcell⟩ := h1 h0
  refine ⟨b, o, rfl, hlt, fun q u hq => ?_⟩
  obtain ⟨i, j, vs, hi, h1, h2, rfl, hj⟩ := R.flat_at ρ h.each hq
  have := hcell i vs hi h1 j u hj
  rwa [Nat.add_assoc] at this
theorem RowOk.flat_one (h : RowOk W ρ w v R) : ∀ u ∈ R.flat ρ, u.oneCell' = true := by
  intro u hu
  obtain ⟨q, hq⟩ := List.getElem?_of_mem hu
  obtain ⟨i, j, vs, hi, h1, h2, rfl, hj⟩ := R.flat_at ρ h.each hq
  exact dens_one h1 u (List.mem_of_getElem? hj)
/-- A row of the call's own, out of the law's own word. -/
theorem RowOk.of_ownsB {base : Nat} {e : TypeId} {n sz : Nat} {C : List Value} {cells : Nat → List At} (h : ownsB w base e sz v n C) (hb : ∀ g, v.ownBlock = some g → W.mine g)
    (he : ∀ i, i < n → ∃ vs, dens ρ (cells i) = some vs ∧ vs.length = sz ∧ ∀ j u, vs[j]? = some u → C[i * sz + j]? = some u) : RowOk W ρ w v ⟨sz, n, cells, some e, false, true⟩ := by
  obtain ⟨hl, ⟨rfl, rfl⟩ | ⟨g, cap, cur, fz, rfl, hbg, hg, hbeh, hnc, hcm, hcs, ht⟩⟩ := h
  · exact ⟨⟨none, 0, rfl, Nat.le_refl _, Nat.zero_le _, fun _ => rfl, (fun h => by cases h), fun h => absurd h (by simp), fun _ _ => .inl rfl⟩, fun i hi => absurd hi (by simp), fun _ b ht => by cases ht.1⟩
  · refine ⟨⟨some ⟨g, 0, none⟩, cap, rfl, hnc, hcm, (fun e => by cases e), (fun h => by cases h), fun _ => ⟨g, 0, rfl, (Array.getElem?_eq_some_iff.1 hg).1, fun i vs hi hvs j u hu => ?_⟩, fun e' he' => ?_⟩, fun i hi => ?_, fun _ b ht => hb b ht.1⟩
    · obtain ⟨vs', h1, h2, h3⟩ := he i hi
      rw [hvs] at h1; injection h1 with h1; subst h1
      have := h3 j u hu
      rw [← ht, List.getElem?_take] at this
      split at this
      · simp [World.cell?, hg] at this ⊢; exact this
      · cases this
    · injection he' with he'; subst he'
      exact .inr ⟨g, cur, fz, rfl, hb g rfl, hg, hcs, hbeh⟩
    · obtain ⟨vs', h1, h2, h3⟩ := he i hi
      exact ⟨vs', h1, h2⟩
theorem RowOk.of_owns {base : Nat} {e : TypeId} {n sz : Nat} {C : List Value} {cells : Nat → List At} (h : w.ownsRow base e sz v n C) (hb : ∀ g, v.ownBlock = some g → W.mine g)
    (he : ∀ i, i < n → ∃ vs, dens ρ (cells i) = some vs ∧ vs.length = sz ∧ ∀ j u, vs[j]? = some u → C[i * sz + j]? = some u) : RowOk W ρ w v ⟨sz, n, cells, some e, false, true⟩ := .of_ownsB (.of h) hb he
theorem RowOk.owns (h : RowOk W ρ w v R) {e : TypeId} (he : R.own = some e) (h0 : 0 < capOf v) : ownsB w 0 e R.sz v R.len (R.flat ρ) := by
  have hsl := h.sl
  obtain ⟨A, cap, rfl, hc, hm, hn, _, h1, h2⟩ := h.form
  rcases h2 e he with hz | ⟨g, cur, fz, rfl, hW, hg, hcs, hbeh⟩
  · simp [capOf] at h0; omega
  refine ⟨R.flat_length ρ, .inr ⟨g, cap, cur, fz, rfl, Nat.zero_le _, hg, hbeh, hc, hm, hcs, ?_⟩⟩
  have hle : R.len * R.sz ≤ cap * R.sz := Nat.mul_le_mul_right _ hc
  apply List.ext_getElem?
  intro q
  by_cases hq : q < R.len * R.sz
  · have hql : q < (R.flat ρ).length := by rw [R.flat_length]; exact hq
    obtain ⟨i, j, vs, hi, g1, g2, rfl, hj⟩ := R.flat_at ρ h.each (List.getElem?_eq_getElem hql)
    obtain ⟨b, o, hb, _, hcell⟩ := h1 (by omega)
    injection hb with hb; injection hb with e1 e2; subst e1 e2
    have := hcell i vs hi g1 j _ hj
    simp only [Nat.zero_add, World.cell?, hg] at this
    rw [List.getElem?_take, if_pos hq, List.getElem?_eq_getElem hql]
    simpa using this
  · rw [List.getElem?_take, if_neg hq, List.getElem?_eq_none (by rw [R.flat_length]; omega)]
end

section
variable {P : Program} (w : World)
theorem run_app_none (base : Nat) (t ty e : TypeId) (i : TypeInfo) (size : Nat) (ht : P.underlying t = some (.slice e)) (hi : P.info? e = some i)
    (v : Value) (n : Nat) (xs : List Value) (hown : ownsB w base e size v n xs) (c : Nat) : (Builtin.append_ #[t, t] ty #[v, .slice none 0 c]).run P w = .ok v w := by
  rcases hown.2 with ⟨rfl, rfl⟩ | ⟨g, cap, cur, fz, rfl, _, _, _, hnc, _⟩
  · simp [Builtin.append_, run_underlying ht, sizeOf, typeInfo, hi, Builtin.lenOf, Builtin.firstCells]
  · simp [Builtin.append_, run_underlying ht, sizeOf, typeInfo, hi, Builtin.lenOf, Builtin.firstCells, hnc, storeCells]
theorem Sl.open_ {sz n : Nat} {v : Value} {C : List Value} (h : Sl w sz v n C) : (n = 0 ∧ C = [] ∧ ∃ A cap, v = .slice A 0 cap ∧ cap ≤ maxLen ∧ (A = none → cap = 0)) ∨
    (0 < n ∧ ∃ b o cap, v = .slice (some ⟨b, o, none⟩) n cap ∧ n ≤ cap ∧ cap ≤ maxLen ∧ b < w.heap.size ∧ ∀ j u, C[j]? = some u → w.cell? ⟨b, o + j, none⟩ = some u) := by
  obtain ⟨hl, A, cap, rfl, hc, hm, hn, hx⟩ := h
  rcases Nat.eq_zero_or_pos n with h0 | h0
  · subst h0
    exact .inl ⟨rfl, List.eq_nil_of_length_eq_zero (by simpa using hl), A, cap, rfl, hm, hn⟩
  · obtain ⟨b, o, rfl, hlt, hcell⟩ := hx h0
    exact .inr ⟨h0, b, o, cap, rfl, hc, hm, hlt, hcell⟩
/-- append onto a row of the call's own: whatever slice is appended. -/
theorem run_app_own (base : Nat) (t ty e : TypeId) (i : TypeInfo) (z : Value) (size bytes : Nat) (ht : P.underlying t = some (.slice e)) (hi : P.info? e = some i) (hz : i.zero = some z)
    (hsize : i.size = size) (hby : i.bytes = bytes) (hzs : z.cells.size = size) (hsz : 0 < size)
    (v : Value) (n : Nat) (xs : List Value) (hown : ownsB w base e size v n xs) (x : Value) (m : Nat) (news : List Value) (hx : Sl w size x m news) (h1 : ∀ u ∈ news, u.oneCell' = true)
    (h63 : n + m ≤ maxLen) (hbytes : (n + m) * bytes ≤ 140737488355328) (hbase : base ≤ w.heap.size) :
    ∃ v' w', (Builtin.append_ #[t, t] ty #[v, x]).run P w = .ok v' w' ∧ ownsB w' base e size v' (n + m) (xs ++ news) ∧ w.grownBy w' v.ownBlock ∧ (v'.ownBlock = v.ownBlock ∨ v'.ownBlock = some w.heap.size) := by
  have hxl := hx.1
  rcases hx.open_ with ⟨rfl, rfl, A, cap, rfl, hm, hA⟩ | ⟨h0, b, o, cap, rfl, _, _, hlt, hcell⟩
  · cases A with
    | none => exact ⟨v, w, run_app_none w base t ty e i size ht hi v n xs hown cap, by simpa using hown, ⟨rfl, rfl, rfl, Nat.le_refl _, fun _ _ _ => rfl⟩, .inl rfl⟩
    | some ad =>
      obtain ⟨v', w', h2, h3, h4, _, h5⟩ := run_append_ownB (P := P) w base t ty e i z size bytes ht hi hz hsize hby hzs hsz v n xs hown ad 0 cap [] (by simp) (by simp) h1 h63 hbytes hbase
      exact ⟨v', w', h2, h3, h4, h5⟩
  · obtain ⟨v', w', h2, h3, h4, _, h5⟩ := run_append_ownB (P := P) w base t ty e i z size bytes ht hi hz hsize hby hzs hsz v n xs hown ⟨b, o, none⟩ m cap news hxl (fun j u hu => by rw [add_off]; exact hcell j u hu) h1 h63 hbytes hbase
    exact ⟨v', w', h2, h3, h4, h5⟩
/-- append onto a slice without room: a row of the call's own. -/
theorem run_app_tight (t ty e : TypeId) (i : TypeInfo) (z : Value) (size bytes : Nat) (ht : P.underlying t = some (.slice e)) (hi : P.info? e = some i) (hz : i.zero = some z)
    (hsize : i.size = size) (hby : i.bytes = bytes) (hzs : z.cells.size = size) (hsz : 0 < size)
    (A : Option Addr) (n : Nat) (xs : List Value) (hv : Sl w size (.slice A n n) n xs) (x : Value) (m : Nat) (news : List Value) (hx : Sl w size x m news) (h1 : ∀ u ∈ news, u.oneCell' = true)
    (hm : 0 < m) (h63 : n + m ≤ maxLen) (hbytes : (n + m) * bytes ≤ 140737488355328) :
    ∃ v' w', (Builtin.append_ #[t, t] ty #[.slice A n n, x]).run P w = .ok v' w' ∧ w'.ownsRow w.heap.size e size v' (n + m) (xs ++ news) ∧ Below w.heap.size w w' := by
  have hxl := hx.1
  have hvl := hv.1
  rcases hx.open_ with ⟨rfl, _⟩ | ⟨h0, b, o, cap, rfl, _, _, hlt, hcell⟩
  · omega
  · have hcell' : ∀ j u, news[j]? = some u → w.cell? ((⟨b, o, none⟩ : Addr).add j) = some u := fun j u hu => by rw [add_off]; exact hcell j u hu
    cases A with
    | some ad =>
      have hol : ∀ j u, xs[j]? = some u → w.cell? (ad.add j) = some u := by
        intro j u hu
        rcases hv.open_ with ⟨rfl, rfl, _⟩ | ⟨h0', b', o', cap', hv', _, _, _, hc'⟩
        · simp at hu
        · injection hv' with e1 e2 e3
          injection e1 with e1
          subst e1
          rw [add_off]
          exact hc' j u hu
      obtain ⟨v', w', r1, r2, r3⟩ := run_append_arg_grows (P := P) w t ty e i z size bytes ht hi hz hsize hby hzs hsz ad n n xs hvl hol ⟨b, o, none⟩ m cap news hxl hcell' (by omega) h63 hbytes
      exact ⟨v', w', r1, r2, ⟨r3.os, r3.tape, r3.output, r3.size, fun k hk => r3.block k hk (by simp)⟩⟩
    | none =>
      obtain ⟨_, A', cap', hv', _, _, hn', hx'⟩ := hv
      injection hv' with e1 e2 e3
      have hn0 : n = 0 := by have := hn' e1.symm; omega
      subst hn0
      have : xs = [] := List.eq_nil_of_length_eq_zero (by simpa using hvl)
      subst this
      obtain ⟨v', w', r1, r2, r3, _⟩ := run_append_own (P := P) w w.heap.size t ty e i z size bytes ht hi hz hsize hby hzs hsz (.slice none 0 0) 0 [] (World.ownsRow_nil _ _ _ _) ⟨b, o, none⟩ m cap news hxl hcell' h1 h63 hbytes (Nat.le_refl _)
      exact ⟨v', w', r1, r2, ⟨r3.os, r3.tape, r3.output, r3.size, fun k hk => r3.block k hk (by simp [Value.ownBlock])⟩⟩
/-- append of nothing onto a slice without room. -/
theorem run_app_tight_nil (t ty e : TypeId) (i : TypeInfo) (ht : P.underlying t = some (.slice e)) (hi : P.info? e = some i)
    (A : Option Addr) (n : Nat) (hA : A = none → n = 0) (B : Option Addr) (c : Nat) : (Builtin.append_ #[t, t] ty #[.slice A n n, .slice B 0 c]).run P w = .ok (.slice A n n) w := by
  cases A with
  | none =>
    obtain rfl := hA rfl
    cases B <;> simp [Builtin.append_, run_underlying ht, sizeOf, typeInfo, hi, Builtin.lenOf, Builtin.firstCells, loadCells, loadCellsFrom]
  | some a =>
    cases B <;> simp [Builtin.append_, run_underlying ht, sizeOf, typeInfo, hi, Builtin.lenOf, Builtin.firstCells, storeCells, loadCells, loadCellsFrom]
end

theorem unset_get {α : Type} : ∀ (l : List (Option α)) (n i : Nat) (d : α), (unset l n)[i]? = some (some d) → i ≠ n ∧ l[i]? = some (some d)
  | [], n, i, d, h => by simp [unset] at h
  | y :: l, 0, i, d, h => by
    cases i with
    | zero => simp [unset] at h
    | succ i => simp only [unset, List.getElem?_cons_succ] at h; exact ⟨by omega, by simpa using h⟩
  | y :: l, n + 1, i, d, h => by
    cases i with
    | zero => simp [unset] at h; exact ⟨by omega, by simpa using h⟩
    | succ i =>
      simp only [unset, List.getElem?_cons_succ] at h
      have := unset_get l n i d h
      exact ⟨by omega, by simpa using this.2⟩

section
variable {P : Program} {T : Tab} (hT : TabOk P T) {W : Base} {s : St} {ρ : Env} {w : World} (hm : Mem W s ρ w) {get : Operand → Option SV} {box : Nat → Option (List At)} {row : Nat → Option Row} {nb nr : Nat} {e : Operand → Value}
  (hget : ∀ x sv, get x = some sv → sv.rep ρ (e x)) (hbox : ∀ i c, box i = some c → s.B[i]? = some (some c)) (hrow : ∀ r R, row r = some R → s.R[r]? = some (some R))
  (hnb : ρ.β nb = none) (hnr : ρ.σ nr = none) {o : Oper} {ev : Ev} (hob : ev.ob)
include hT hm hget hbox hrow hnb hnr hob

/-- What stands for a slice in an append. -/
theorem rowOf_ok {x : Operand} {rx : Option Nat} {X : Row} (h : rowOf row (get x) = some (rx, X)) {el : TypeId} (sz : Nat) (hsz : X.sz = sz ∨ rx = none) :
    ∃ X', X'.sz = sz ∧ X'.len = X.len ∧ (∀ i, i < X.len → X'.cells i = X.cells i) ∧ X'.own = X.own ∧ X'.tight = X.tight ∧ RowOk W ρ w (e x) X' ∧ (∀ r, rx = some r → X' = X ∧ s.R[r]? = some (some X) ∧ ρ.σ r = some (e x)) ∧ (rx = none → X.len = 0 ∧ X.own = none) := by
  unfold rowOf at h
  split at h
  · rename_i r hx
    split at h
    · rename_i R hR
      injection h with h; injection h with h1 h2; subst h1 h2
      obtain ⟨v, hσ, hok⟩ := hm.row r R (hrow _ _ hR)
      have hp := hget _ _ hx
      obtain ⟨A, cap, rfl, _⟩ := hok.form
      simp only [SV.rep, Cv.den, At.den, hσ, Option.some.injEq] at hp
      rw [← hp]
      have hsz' : R.sz = sz := by rcases hsz with h | h; exact h; cases h
      exact ⟨R, hsz', rfl, fun _ _ => rfl, rfl, rfl, hok, fun r' hr' => by injection hr' with hr'; subst hr'; exact ⟨rfl, hrow _ _ hR, hσ⟩, fun h => by cases h⟩
    · cases h
  · rename_i hx
    injection h with h; injection h with h1 h2; subst h1 h2
    have hp := hget _ _ hx
    injection hp with hp
    rw [← hp]
    refine ⟨⟨sz, 0, fun _ => [], none, true, true⟩, rfl, rfl, fun _ _ => rfl, rfl, rfl, ⟨⟨none, 0, rfl, Nat.le_refl _, Nat.zero_le _, fun _ => rfl, fun _ => rfl, fun h => absurd h (by simp), (fun e' he' => by cases he')⟩, fun i hi => absurd hi (by simp), fun _ b ht => by cases ht.1⟩, (fun r' hr' => by cases hr'), fun _ => ⟨rfl, rfl⟩⟩
  · cases h

theorem run_builtin {c : Call} {b : Builtin} (ho : o.op = .call c) (hc : c.callee = .builtin b) : ∃ cs, (execOp e o).run P w = (builtin b c.argTypes o.type cs (c.args.map e)).run P w := by
  refine ⟨(c.args.map fun | .const _ => true | _ => false), ?_⟩
  unfold execOp
  rw [ho]
  simp only [resolve, hc, invoke, Sem.run_bind, pure, Sem.run, Result.andThen_ok]
  rfl

theorem app_each {X Y : Row} (hX : ∀ i, i < X.len → ∃ vs, dens ρ (X.cells i) = some vs ∧ vs.length = X.sz) (hY : ∀ i, i < Y.len → ∃ vs, dens ρ (Y.cells i) = some vs ∧ vs.length = Y.sz) {sz : Nat} (h1 : X.sz = sz) (h2 : Y.sz = sz)
    {cells : Nat → List At} {n m : Nat} (hn : n = X.len) (hm' : m = Y.len) (hcells : ∀ i, i < n + m → cells i = if i < X.len then X.cells i else Y.cells (i - X.len)) :
    ∀ i, i < n + m → ∃ vs, dens ρ (cells i) = some vs ∧ vs.length = sz ∧ ∀ j u, vs[j]? = some u → (X.flat ρ ++ Y.flat ρ)[i * sz + j]? = some u := by
  intro i hi
  subst hn hm'
  rw [hcells i hi]
  by_cases h : i < X.len
  · rw [if_pos h]
    obtain ⟨vs, g1, g2⟩ := hX i h
    refine ⟨vs, g1, g2.trans h1, fun j u hu => ?_⟩
    have hj : j < X.sz := by rw [← g2]; exact (List.getElem?_eq_some_iff.1 hu).1
    have hlt : i * sz + j < X.len * sz := by
      have : i * sz + sz ≤ X.len * sz := by rw [← Nat.succ_mul]; exact Nat.mul_le_mul_right _ (by omega)
      omega
    rw [List.getElem?_append_left (by rw [X.flat_length, h1]; exact hlt), ← h1, X.flat_get ρ h g1 g2 hj]
    exact hu
  · rw [if_neg h]
    obtain ⟨vs, g1, g2⟩ := hY (i - X.len) (by omega)
    refine ⟨vs, g1, g2.trans h2, fun j u hu => ?_⟩
    have hj : j < Y.sz := by rw [← g2]; exact (List.getElem?_eq_some_iff.1 hu).1
    have he : i * sz + j = X.len * sz + ((i - X.len) * sz + j) := by
      have : i * sz = X.len * sz + (i - X.len) * sz := by rw [← Nat.add_mul]; congr 1; omega
      omega
    rw [List.getElem?_append_right (by rw [X.flat_length, h1]; omega), X.flat_length, h1, he, Nat.add_sub_cancel_left, ← h2, Y.flat_get ρ (by omega) g1 g2 hj]
    exact hu

theorem snd_append {c : Call} (hc : c.callee = .builtin .append) (ho : o.op = .call c) (h : evalOp T get box row (.call c) = some ev) : Comes1 P W s ρ w nb nr e o ev := by
  obtain ⟨cs, hbi⟩ := run_builtin hT hm hget hbox hrow hnb hnr hob ho hc
  simp only [evalOp, hc] at h
  split at h
  · rename_i x y t t' hargs htys
    split at h
    · rename_i ty hty
      split at h
      · rename_i el hk
        split at h
        · rename_i te rx X ry Y hte hX hY
          split at h
          · rename_i hcond
            obtain ⟨rfl, hsz, hxs, hys, hown⟩ := hcond
            injection h with h; subst h
            have hob' := hob
            obtain ⟨hl, hby, hgrow⟩ := hob'
            have hok := hT _ _ hty
            have hokE := hT _ _ hte
            have hu := hok.slice hk
            obtain ⟨i0, hi0, hi1, hi2, hi3⟩ := hokE.info
            obtain ⟨X', x1, x2, x3, x4, x5, x6, x7, x8⟩ := rowOf_ok hT hm hget hbox hrow hnb hnr hob (el := el) hX te.size hxs
            obtain ⟨Y', y1, y2, y3, y4, y5, y6, y7, y8⟩ := rowOf_ok hT hm hget hbox hrow hnb hnr hob (el := el) hY te.size hys
            have hrun : ∀ v' w', (Builtin.append_ #[t, t] o.type #[e x, e y]).run P w = .ok v' w' → (execOp e o).run P w = .ok (.value v') w' := by
              intro v' w' hr
              rw [hbi]
              have ha : c.args = #[x, y] := by rw [← Array.toArray_toList (xs := c.args), hargs]
              have hb : c.argTypes = #[t, t] := by rw [← Array.toArray_toList (xs := c.argTypes), htys]
              rw [ha, hb]
              simp only [builtin, List.map_toArray, List.map_cons, List.map_nil, Sem.run_bind, hr, Result.andThen_ok]
              rfl
            have hsx := x6.sl
            have hsy := y6.sl
            rw [x1] at hsx
            rw [y1] at hsy
            have hmx : X'.len + Y'.len ≤ maxLen := by unfold maxLen; omega
            have hbx : (X'.len + Y'.len) * te.bytes ≤ 140737488355328 := by rw [x2, y2]; exact hby
            have heach := app_each hT hm hget hbox hrow hnb hnr hob x6.each y6.each x1 y1 (cells := fun i => if i < X.len then X.cells i else Y.cells (i - X.len)) x2.symm y2.symm (fun i hi => by
              rw [x2]
              by_cases h : i < X.len
              · simp [h, x3 i h]
              · simp [h, y3 (i - X.len) (by omega)])
            have hlen : X'.len + Y'.len = X.len + Y.len := by rw [x2, y2]
            rw [hlen] at hmx hbx
            -- a new row in new memory
            have fresh : ∀ (v' : Value) (w' : World), (Builtin.append_ #[t, t] o.type #[e x, e y]).run P w = .ok v' w' → w'.ownsRow w.heap.size el te.size v' (X.len + Y.len) (X'.flat ρ ++ Y'.flat ρ) → Below w.heap.size w w' →
                ∀ (s' : St), Mem W s' ρ w → (∃ v w'' ρ', ((execOp e o).run P w = .ok (.value v) w'' ∨ ((execOp e o).run P w = .ok .skip w'' ∧ v = undef)) ∧ ρ.le ρ' ∧ SV.rep ρ' (.cv (.one (.rs nr))) v ∧
                  Mem W { s' with R := setAt s'.R nr ⟨te.size, X.len + Y.len, fun i => if i < X.len then X.cells i else Y.cells (i - X.len), some el, false, true⟩ } ρ' w'' ∧ (∀ i, (i ≠ nb ∨ false = false) → ρ'.β i = ρ.β i) ∧ (∀ r, (r ≠ nr ∨ true = false) → ρ'.σ r = ρ.σ r)) := by
              intro v' w' hr how hbw s' hms
              have hrok := RowOk.of_owns (W := W) (ρ := ρ) how (fun g hg => by
                rcases how.2 with ⟨rfl, _⟩ | ⟨g', cap, cur, rfl, hbg, _⟩
                · cases hg
                · simp [Value.ownBlock] at hg; subst hg; have := hm.below.size; exact .inl (by omega)) heach
              have hfb : ∀ b, (Row.mk te.size (X.len + Y.len) (fun i => if i < X.len then X.cells i else Y.cells (i - X.len)) (some el) false true).touch v' b → w.heap.size ≤ b := by
                intro b hb
                rcases how.2 with ⟨rfl, _⟩ | ⟨g, cap, cur, rfl, hbg, _⟩
                · cases hb.1
                · have := hb.1; simp [Value.ownBlock] at this; omega
              obtain ⟨A, cap, hv', _⟩ := hrok.form
              refine ⟨v', w', { ρ with σ := upd ρ.σ nr v' }, .inl (hrun _ _ hr), Env.le_row hnr _, ?_, hms.freshRow hbw hnr hrok hfb, fun _ _ => rfl, fun r hr => upd_ne _ _ (hr.resolve_right (by simp [Ev.isRow]))⟩
              simp only [SV.rep, Cv.den, At.den, upd_same, hv']
            -- the same slice, without room
            have nilcase : ∀ (A : Option Addr), e x = .slice A 0 0 → X.len = 0 → Y.len = 0 → ∀ (s' : St), Mem W s' ρ w → (∃ v w'' ρ', ((execOp e o).run P w = .ok (.value v) w'' ∨ ((execOp e o).run P w = .ok .skip w'' ∧ v = undef)) ∧ ρ.le ρ' ∧ SV.rep ρ' (.cv (.one (.rs nr))) v ∧
                  Mem W { s' with R := setAt s'.R nr ⟨te.size, X.len + Y.len, fun i => if i < X.len then X.cells i else Y.cells (i - X.len), some el, false, true⟩ } ρ' w'' ∧ (∀ i, (i ≠ nb ∨ false = false) → ρ'.β i = ρ.β i) ∧ (∀ r, (r ≠ nr ∨ true = false) → ρ'.σ r = ρ.σ r)) := by
              intro A hA hx0 hy0 s' hms
              obtain ⟨B, cB, hB, _⟩ := y6.form
              rw [y2, hy0] at hB
              have hr := run_app_tight_nil (P := P) w t o.type el i0 hu hi0 A 0 (fun _ => rfl) B cB
              rw [← hA, ← hB] at hr
              rw [hA] at hr
              refine ⟨_, w, { ρ with σ := upd ρ.σ nr (.slice A 0 0) }, .inl (hrun _ _ (by rw [hA]; exact hr)), Env.le_row hnr _, ?_, ?_, fun _ _ => rfl, fun r hr => upd_ne _ _ (hr.resolve_right (by simp [Ev.isRow]))⟩
              · simp only [SV.rep, Cv.den, At.den, upd_same]
              · refine hms.newRow hnr ⟨⟨A, 0, by simp [hx0, hy0], by simp [hx0, hy0], Nat.zero_le _, fun _ => rfl, (fun h => by cases h), fun h => absurd h (by simp [hx0, hy0]), fun _ _ => .inl rfl⟩, fun i hi => absurd hi (by simp [hx0, hy0]), fun _ b ht => by have := ht.2; simp [capOf, hx0, hy0] at this⟩ ?_ ?_
                · intro i c b _ _ ht
                  have := ht.2
                  simp [capOf, hx0, hy0] at this
                · intro r R' v' b _ _ _ _ ht
                  have := ht.2
                  simp [capOf, hx0, hy0] at this
            obtain ⟨A, cap, hA, hcl, hcm, hcn, hct, _, _⟩ := x6.form
            rw [x2] at hA hcl
            have tightcase : cap = X.len → (X.len = 0 ∨ 0 < Y.len) → ∀ (s' : St), Mem W s' ρ w → (∃ v w'' ρ', ((execOp e o).run P w = .ok (.value v) w'' ∨ ((execOp e o).run P w = .ok .skip w'' ∧ v = undef)) ∧ ρ.le ρ' ∧ SV.rep ρ' (.cv (.one (.rs nr))) v ∧
                  Mem W { s' with R := setAt s'.R nr ⟨te.size, X.len + Y.len, fun i => if i < X.len then X.cells i else Y.cells (i - X.len), some el, false, true⟩ } ρ' w'' ∧ (∀ i, (i ≠ nb ∨ false = false) → ρ'.β i = ρ.β i) ∧ (∀ r, (r ≠ nr ∨ true = false) → ρ'.σ r = ρ.σ r)) := by
              intro hcap hg s' hms
              subst hcap
              rcases Nat.eq_zero_or_pos Y.len with hy0 | hy0
              · have hx0 : X.len = 0 := by rcases hg with h | h <;> omega
                exact nilcase A (by rw [hA, hx0]) hx0 hy0 s' hms
              · have hsx' := hsx
                rw [x2, hA] at hsx'
                rw [y2] at hsy
                obtain ⟨v', w', r1, r2, r3⟩ := run_app_tight (P := P) w t o.type el i0 te.zero te.size te.bytes hu hi0 hi3 hi1 hi2 hokE.2.2.1 hsz A X.len _ hsx' (e y) Y.len _ hsy y6.flat_one hy0 hmx hbx
                exact fresh v' w' (by rw [hA]; exact r1) r2 r3 s' hms
            cases hXo : X.own with
            | none =>
              have ht : X.tight = true := by rcases hown with h | h; (rw [hXo] at h; cases h); exact h.2
              simp only [growOk, hXo] at hgrow
              exact tightcase (by rw [← x2]; exact hct (x5.trans ht)) hgrow s hm
            | some el' =>
              have hel : el' = el := by
                rcases hown with h | h
                · rw [hXo] at h; injection h
                · rw [hXo] at h; cases h.1
              subst hel
              obtain ⟨r, rfl⟩ : ∃ r, rx = some r := by
                cases rx with
                | some r => exact ⟨r, rfl⟩
                | none => have := (x8 rfl).2; rw [hXo] at this; cases this
              obtain ⟨rfl, hXr, hσ⟩ := x7 r rfl
              have hmu : Mem W { s with R := unset s.R r } ρ w := hm.sub (fun _ _ h => h) (fun r' R' h => (unset_get _ _ _ _ h).2)
              by_cases h0 : 0 < cap
              · have how := x6.owns hXo (by rw [hA]; exact h0)
                rw [x1] at how
                rw [y2] at hsy
                obtain ⟨v', w', r1, r2, r3, r4⟩ := run_app_own (P := P) w 0 t o.type el' i0 te.zero te.size te.bytes hu hi0 hi3 hi1 hi2 hokE.2.2.1 hsz (e x) X'.len _ how (e y) Y.len _ hsy y6.flat_one hmx hbx (Nat.zero_le _)
                obtain ⟨g, hg⟩ : ∃ g, (e x).ownBlock = some g ∧ W.mine g := by
                  obtain ⟨A2, cap2, hA2, _, _, _, _, _, hmine⟩ := x6.form
                  rw [hA] at hA2
                  injection hA2 with e1 _ e3
                  subst e1 e3
                  rcases hmine el' hXo with h | ⟨g, cur, fz, h, hbg, _⟩
                  · omega
                  · exact ⟨g, by rw [hA, h]; rfl, hbg⟩
                have hrok := RowOk.of_ownsB (W := W) (ρ := ρ) r2 (fun g' hg' => by
                  rcases r4 with h | h
                  · rw [h, hg.1] at hg'; injection hg' with hg'; subst hg'; exact hg.2
                  · rw [h] at hg'; injection hg' with hg'; subst hg'; exact .inl hm.below.size) heach
                have htx : X'.touch (e x) g := ⟨hg.1, .inl ⟨by rw [hXo]; rfl, by rw [hA]; exact h0⟩⟩
                have hbg : ∀ i c b, s.B[i]? = some (some c) → ρ.β i = some b → b ≠ g := fun i c b hi hb he => by
                  subst he; exact hm.rowBox r X' (e x) i c b hXr hσ hi hb htx
                have hrg : ∀ r' R' v2 b, r' ≠ r → s.R[r']? = some (some R') → ρ.σ r' = some v2 → R'.touch v2 b → b ≠ g := fun r' R' v2 b hne hr' hv2 ht he => by
                  subst he; exact hm.rowRow r r' X' R' (e x) v2 b (Ne.symm hne) hXr hr' hσ hv2 (by rw [hXo]; rfl) htx ht
                have hmu' : Mem W { s with R := unset s.R r } ρ w' := by
                  refine hmu.keep (hm.below.but r3 (fun k hk => by rw [hg.1] at hk; injection hk with hk; subst hk; exact hg.2) (fun k hk => by rw [hg.1] at hk; injection hk with hk; subst hk; exact (by obtain ⟨v2, h1, h2⟩ := hm.row r X' hXr; rw [hσ] at h1; injection h1 with h1; rw [h1] at htx; exact h2.own_cells (by rw [hXo]; rfl) htx))) r3.size ?_ ?_
                  · intro i c b hi hb
                    refine r3.block b (hm.box_lt hi hb) ?_
                    rw [hg.1]; intro h; injection h with h; exact hbg i c b hi hb h
                  · intro r' R' v2 b hr' hv2 ht
                    obtain ⟨hne, hr'⟩ := unset_get _ _ _ _ hr'
                    refine r3.block b (hm.row_lt hr' hv2 ht) ?_
                    rw [hg.1]; intro h; injection h with h; exact hrg r' R' v2 b hne hr' hv2 ht h
                obtain ⟨A', cap', hv', _⟩ := hrok.form
                have hblk : ∀ b, v'.ownBlock = some b → b = g ∨ b = w.heap.size := fun b hb => by
                  rcases r4 with h | h
                  · rw [h, hg.1] at hb; injection hb with hb; exact .inl hb.symm
                  · rw [h] at hb; injection hb with hb; exact .inr hb.symm
                refine ⟨v', w', { ρ with σ := upd ρ.σ nr v' }, .inl (hrun _ _ r1), Env.le_row hnr _, ?_, hmu'.newRow hnr hrok ?_ ?_, fun _ _ => rfl, fun r hr => upd_ne _ _ (hr.resolve_right (by simp [Ev.isRow]))⟩
                · simp only [Ev.sv, SV.rep, Cv.den, At.den, upd_same, hv']
                · intro i c b hi hb ht
                  rcases hblk b ht.1 with h | h
                  · exact hbg i c b hi hb h
                  · have := hm.box_lt hi hb; omega
                · intro r' R' v2 b hr' hv2 _ ht ht2
                  obtain ⟨hne, hr'⟩ := unset_get _ _ _ _ hr'
                  rcases hblk b ht2.1 with h | h
                  · exact hrg r' R' v2 b hne hr' hv2 ht h
                  · have := hm.row_lt hr' hv2 ht; omega
              · have hc0 : cap = 0 := by omega
                have hx0 : X'.len = 0 := by omega
                exact tightcase (by omega) (.inl hx0) _ hmu
          · cases h
        · cases h
      · cases h
    · cases h
  · cases h
end
end Go.Sx
