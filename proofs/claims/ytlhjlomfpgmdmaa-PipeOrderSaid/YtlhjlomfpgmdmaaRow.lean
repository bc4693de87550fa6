/- Slices in memory, nil and empty ones let in: what they read; what append makes of them. -/
import Derived.Test.YtlhjlomfpgmdmaaBase
import Derived.ArgAppend
import Derived.OwnWalk
import Derived.Laws.OwnMore
import Derived.Laws.AppendOwnNone
import Derived.Deep.AppendLies
import Derived.Deep.Onto
namespace Go.Proofs.Ytlhjlomfpgmdmaa
open Go.RowKit
set_option linter.unusedVariables false

theorem lts {b n : Nat} (h : b < n) : b < n + 1 ∧ b < n + 1 + 1 ∧ b < n + 1 + 1 + 1 ∧ b ≤ n ∧ b ≤ n + 1 ∧ b ≤ n + 1 + 1 ∧ b ≤ n + 1 + 1 + 1 := by omega
theorem own_mono {w : World} {base base' : Nat} {e : TypeId} {size n n' : Nat} {v v' : Value} {xs xs' : List Value} (h : w.ownsRow base e size v n xs) (hb : base' ≤ base) (hv : v = v') (hn : n = n') (hx : xs = xs') : w.ownsRow base' e size v' n' xs' := by
  subst hn hx hv
  exact h.mono hb
theorem add_none (b o j : Nat) : (⟨b, o, none⟩ : Addr).add j = ⟨b, o + j, none⟩ := by unfold Addr.add; split <;> simp_all

/-- The value v is a slice of n elements, of sz cells each, and reads the cells C. -/
def Sl (w : World) (sz : Nat) (v : Value) (n : Nat) (C : List Value) : Prop :=
  C.length = n * sz ∧ ∃ A cap, v = .slice A n cap ∧ n ≤ cap ∧ cap ≤ maxLen ∧ (A = none → cap = 0) ∧
    (0 < n → ∃ b o, A = some ⟨b, o, none⟩ ∧ b < w.heap.size ∧ ∀ j u, C[j]? = some u → w.cell? ⟨b, o + j, none⟩ = some u)

section
variable {w w' : World} {sz n : Nat} {v : Value} {C : List Value}
theorem Sl.nil (w : World) (sz : Nat) : Sl w sz (.slice none 0 0) 0 [] := ⟨by simp, none, 0, rfl, Nat.le_refl _, Nat.zero_le _, fun _ => rfl, fun h => absurd h (by omega)⟩
theorem Sl.bare (w : World) (sz : Nat) (a : Addr) (cap : Nat) (h : cap ≤ maxLen) : Sl w sz (.slice (some a) 0 cap) 0 [] := ⟨by simp, some a, cap, rfl, Nat.zero_le _, h, (fun e => by cases e), fun h => absurd h (by omega)⟩
theorem Sl.below (h : Sl w sz v n C) (hb : Below w.heap.size w w') : Sl w' sz v n C := by
  obtain ⟨hl, A, cap, hv, hc, hm, hn, hx⟩ := h
  refine ⟨hl, A, cap, hv, hc, hm, hn, fun h0 => ?_⟩
  obtain ⟨b, o, hA, hlt, hcell⟩ := hx h0
  exact ⟨b, o, hA, Nat.lt_of_lt_of_le hlt hb.size, fun j u hu => (hb.cell (p := ⟨b, o + j, none⟩) hlt).trans (hcell j u hu)⟩
theorem Sl.below_of {B : Nat} {w0 : World} (h : Sl w0 sz v n C) (hB : w0.heap.size ≤ B) (h0 : Below B w0 w') : Sl w' sz v n C := h.below (h0.mono hB)
theorem Sl.of_own {base : Nat} {e : TypeId} (h : w.ownsRow base e sz v n C) : Sl w sz v n C := by
  rcases h with ⟨hl, ⟨rfl, rfl⟩ | ⟨g, cap, cur, rfl, hb, hg, hnc, hcm, hcs, ht⟩⟩
  · have : C = [] := List.eq_nil_of_length_eq_zero (by simpa using hl)
    subst this
    exact Sl.nil w sz
  · refine ⟨hl, some ⟨g, 0, none⟩, cap, rfl, hnc, hcm, (fun e => by cases e), fun h0 => ⟨g, 0, rfl, (Array.getElem?_eq_some_iff.1 hg).1, fun j u hu => ?_⟩⟩
    have := World.ownsRow.cells (w := w) (base := base) (e := e) (size := sz) (v := .slice (some ⟨g, 0, none⟩) n cap) (n := n) (xs := C) ⟨hl, .inr ⟨g, cap, cur, rfl, hb, hg, hnc, hcm, hcs, ht⟩⟩ (g := g) rfl j u hu
    rwa [add_none] at this
theorem Sl.slice (h : Sl w sz v n C) : ∃ A cap, v = .slice A n cap ∧ n ≤ cap ∧ cap ≤ maxLen := by
  obtain ⟨_, A, cap, hv, hc, hm, _⟩ := h
  exact ⟨A, cap, hv, hc, hm⟩
/-- The value, written out: either of no elements, or at an address. -/
theorem Sl.open_ (h : Sl w sz v n C) : (n = 0 ∧ C = [] ∧ ∃ A cap, v = .slice A 0 cap ∧ cap ≤ maxLen ∧ (A = none → cap = 0)) ∨
    (0 < n ∧ ∃ b o cap, v = .slice (some ⟨b, o, none⟩) n cap ∧ n ≤ cap ∧ cap ≤ maxLen ∧ b < w.heap.size ∧ ∀ j u, C[j]? = some u → w.cell? ⟨b, o + j, none⟩ = some u) := by
  obtain ⟨hl, A, cap, rfl, hc, hm, hn, hx⟩ := h
  rcases Nat.eq_zero_or_pos n with h0 | h0
  · subst h0
    exact .inl ⟨rfl, List.eq_nil_of_length_eq_zero (by simpa using hl), A, cap, rfl, hm, hn⟩
  · obtain ⟨b, o, rfl, hlt, hcell⟩ := hx h0
    exact .inr ⟨h0, b, o, cap, rfl, hc, hm, hlt, hcell⟩
theorem Sl.tight {A : Option Addr} {cap : Nat} (h : Sl w sz (.slice A n cap) n C) : Sl w sz (.slice A n n) n C := by
  obtain ⟨hl, A', cap', hv, hc, hm, hn, hx⟩ := h
  injection hv with e1 e2 e3
  subst e1 e3
  exact ⟨hl, A, n, rfl, Nat.le_refl _, Nat.le_trans hc hm, fun e => by have := hn e; omega, hx⟩
theorem sl_new {W : World} {b : Nat} {C : Array Value} {t : TypeId} (hb : b = W.heap.size) (hs : C.size = sz) : Sl (W.alloc (.cells C t)) sz (.slice (some ⟨b, 0, none⟩) 1 1) 1 C.toList := by
  subst hb
  refine ⟨by simpa using hs, _, _, rfl, Nat.le_refl _, by unfold maxLen; omega, (fun e => by cases e), fun _ => ⟨_, _, rfl, by simp, fun j u hu => ?_⟩⟩
  rw [World.cell?_alloc_at _ _ _ _ (by simp)]
  simpa using hu
theorem Sl.at_ {b o cap : Nat} (hlt : b < w.heap.size) (hl : C.length = n * sz) (hc : n ≤ cap) (hm : cap ≤ maxLen) (hcell : ∀ j u, C[j]? = some u → w.cell? ⟨b, o + j, none⟩ = some u) : Sl w sz (.slice (some ⟨b, o, none⟩) n cap) n C :=
  ⟨hl, _, _, rfl, hc, hm, (fun e => by cases e), fun _ => ⟨b, o, rfl, hlt, hcell⟩⟩
end

section
variable {P : Program} (w : World)

theorem run_app_none (base : Nat) (t ty e : TypeId) (i : TypeInfo) (size : Nat) (ht : P.underlying t = some (.slice e)) (hi : P.info? e = some i)
    (v : Value) (n : Nat) (xs : List Value) (hown : w.ownsRow base e size v n xs) (c : Nat) : (Builtin.append_ #[t, t] ty #[v, .slice none 0 c]).run P w = .ok v w := by
  rcases hown.2 with ⟨rfl, rfl⟩ | ⟨g, cap, cur, rfl, _, _, hnc, _⟩
  · simp [Builtin.append_, run_underlying ht, sizeOf, typeInfo, hi, Builtin.lenOf, Builtin.firstCells]
  · simp [Builtin.append_, run_underlying ht, sizeOf, typeInfo, hi, Builtin.lenOf, Builtin.firstCells, hnc, storeCells]

/-- append onto a row of the call's own: whatever slice is appended. -/
theorem run_app_own (base : Nat) (t ty e : TypeId) (i : TypeInfo) (z : Value) (size bytes : Nat) (ht : P.underlying t = some (.slice e)) (hi : P.info? e = some i) (hz : i.zero = some z)
    (hsize : i.size = size) (hby : i.bytes = bytes) (hzs : z.cells.size = size) (hsz : 0 < size)
    (v : Value) (n : Nat) (xs : List Value) (hown : w.ownsRow base e size v n xs) (x : Value) (m : Nat) (news : List Value) (hx : Sl w size x m news) (h1 : ∀ u ∈ news, u.oneCell' = true)
    (h63 : n + m ≤ maxLen) (hbytes : (n + m) * bytes ≤ 140737488355328) (hbase : base ≤ w.heap.size) :
    ∃ v' w', (Builtin.append_ #[t, t] ty #[v, x]).run P w = .ok v' w' ∧ w'.ownsRow base e size v' (n + m) (xs ++ news) ∧ w.grownBy w' v.ownBlock := by
  have hxl := hx.1
  rcases hx.open_ with ⟨rfl, rfl, A, cap, rfl, hm, hA⟩ | ⟨h0, b, o, cap, rfl, _, _, hlt, hcell⟩
  · cases A with
    | none => exact ⟨v, w, run_app_none w base t ty e i size ht hi v n xs hown cap, by simpa using hown, ⟨rfl, rfl, rfl, Nat.le_refl _, fun _ _ _ => rfl⟩⟩
    | some ad =>
      obtain ⟨v', w', h2, h3, h4, _⟩ := run_append_own (P := P) w base t ty e i z size bytes ht hi hz hsize hby hzs hsz v n xs hown ad 0 cap [] (by simp) (by simp) h1 h63 hbytes hbase
      exact ⟨v', w', h2, h3, h4⟩
  · obtain ⟨v', w', h2, h3, h4, _⟩ := run_append_own (P := P) w base t ty e i z size bytes ht hi hz hsize hby hzs hsz v n xs hown ⟨b, o, none⟩ m cap news hxl (fun j u hu => by rw [add_none]; exact hcell j u hu) h1 h63 hbytes hbase
    exact ⟨v', w', h2, h3, h4⟩

/-- append onto a slice without room: a row of the call's own. -/
theorem run_app_tight (t ty e : TypeId) (i : TypeInfo) (z : Value) (size bytes : Nat) (ht : P.underlying t = some (.slice e)) (hi : P.info? e = some i) (hz : i.zero = some z)
    (hsize : i.size = size) (hby : i.bytes = bytes) (hzs : z.cells.size = size) (hsz : 0 < size)
    (A : Option Addr) (n : Nat) (xs : List Value) (hv : Sl w size (.slice A n n) n xs) (x : Value) (m : Nat) (news : List Value) (hx : Sl w size x m news) (h1 : ∀ u ∈ news, u.oneCell' = true)
    (hm : 0 < m) (h63 : n + m ≤ maxLen) (hbytes : (n + m) * bytes ≤ 140737488355328) :
    ∃ v' w', (Builtin.append_ #[t, t] ty #[.slice A n n, x]).run P w = .ok v' w' ∧ w'.ownsRow w.heap.size e size v' (n + m) (xs ++ news) ∧ Below w.heap.size w w' := by
  have hxl := hx.1
  have hvl := hv.1
  rcases hx.open_ with ⟨rfl, _⟩ | ⟨h0, b, o, cap, rfl, _, _, hlt, hcell⟩
  · omega
  · have hcell' : ∀ j u, news[j]? = some u → w.cell? ((⟨b, o, none⟩ : Addr).add j) = some u := fun j u hu => by rw [add_none]; exact hcell j u hu
    cases A with
    | some ad =>
      have hol : ∀ j u, xs[j]? = some u → w.cell? (ad.add j) = some u := by
        intro j u hu
        rcases hv.open_ with ⟨rfl, rfl, _⟩ | ⟨h0', b', o', cap', hv', _, _, _, hc'⟩
        · simp at hu
        · injection hv' with e1 e2 e3
          injection e1 with e1
          subst e1
          rw [add_none]
          exact hc' j u hu
      obtain ⟨v', w', r1, r2, r3⟩ := run_append_arg_grows (P := P) w t ty e i z size bytes ht hi hz hsize hby hzs hsz ad n n xs hvl hol ⟨b, o, none⟩ m cap news hxl hcell' (by omega) h63 hbytes
      exact ⟨v', w', r1, r2, ⟨r3.os, r3.tape, r3.output, r3.size, fun k hk => r3.block k hk (by simp)⟩⟩
    | none =>
      obtain ⟨_, A', cap', hv', _, _, hn', hx'⟩ := hv
      injection hv' with e1 e2 e3
      have hn0 : n = 0 := by have := hn' e1.symm; omega
      subst hn0
      have : xs = [] := List.eq_nil_of_length_eq_zero (by simpa using hvl)
      subst this
      obtain ⟨v', w', r1, r2, r3, _⟩ := run_append_own (P := P) w w.heap.size t ty e i z size bytes ht hi hz hsize hby hzs hsz (.slice none 0 0) 0 [] (World.ownsRow_nil _ _ _ _) ⟨b, o, none⟩ m cap news hxl hcell' h1 h63 hbytes (Nat.le_refl _)
      exact ⟨v', w', r1, r2, ⟨r3.os, r3.tape, r3.output, r3.size, fun k hk => r3.block k hk (by simp [Value.ownBlock])⟩⟩

/-- append of nothing onto a slice without room. -/
theorem run_app_tight_nil (t ty e : TypeId) (i : TypeInfo) (ht : P.underlying t = some (.slice e)) (hi : P.info? e = some i)
    (A : Option Addr) (n : Nat) (hA : A = none → n = 0) (B : Option Addr) (c : Nat) : (Builtin.append_ #[t, t] ty #[.slice A n n, .slice B 0 c]).run P w = .ok (.slice A n n) w := by
  cases A with
  | none =>
    obtain rfl := hA rfl
    cases B <;> simp [Builtin.append_, run_underlying ht, sizeOf, typeInfo, hi, Builtin.lenOf, Builtin.firstCells, loadCells, loadCellsFrom]
  | some a =>
    cases B <;> simp [Builtin.append_, run_underlying ht, sizeOf, typeInfo, hi, Builtin.lenOf, Builtin.firstCells, storeCells, loadCells, loadCellsFrom]

variable {ops : Array Oper} {rest : List Oper} {o : Oper} {a : Act} {Q : Exit → Act → World → Prop}
theorem wpList_app_own (hgd : o.guard = none) (s x : Operand) (t : TypeId) (ho : o.op = .call { callee := .builtin .append, args := #[s, x], argTypes := #[t, t] })
    (base : Nat) (e : TypeId) (i : TypeInfo) (z : Value) (size bytes : Nat) (ht : P.underlying t = some (.slice e)) (hi : P.info? e = some i) (hz : i.zero = some z)
    (hsize : i.size = size) (hby : i.bytes = bytes) (hzs : z.cells.size = size) (hsz : 0 < size)
    (v : Value) (n : Nat) (xs : List Value) (hs : a.eval s = v) (hown : w.ownsRow base e size v n xs) (xv : Value) (m : Nat) (news : List Value) (hxv : a.eval x = xv) (hx : Sl w size xv m news) (h1 : ∀ u ∈ news, u.oneCell' = true)
    (h63 : n + m ≤ maxLen) (hbytes : (n + m) * bytes ≤ 140737488355328) (hbase : base ≤ w.heap.size)
    (h : ∀ v' w', w'.ownsRow base e size v' (n + m) (xs ++ news) → w.grownBy w' v.ownBlock → wpList P ops Q rest (a.put o.dst v') w') : wpList P ops Q (o :: rest) a w := by
  refine wpList_plain hgd fun K hK => ?_
  obtain ⟨v', w', hr, h2, h3⟩ := run_app_own (P := P) w base t o.type e i z size bytes ht hi hz hsize hby hzs hsz v n xs hown xv m news hx h1 h63 hbytes hbase
  unfold Oper.wp execOp
  simp only [ho, resolve, invoke, builtin, Sem.run_bind, Sem.run_pure, Result.andThen_ok, List.map_toArray, List.map_cons, List.map_nil, hs, hxv, hr]
  exact hK _ _ (h v' w' h2 h3)
theorem wpList_app_tight (hgd : o.guard = none) (s x : Operand) (t : TypeId) (ho : o.op = .call { callee := .builtin .append, args := #[s, x], argTypes := #[t, t] })
    (e : TypeId) (i : TypeInfo) (z : Value) (size bytes : Nat) (ht : P.underlying t = some (.slice e)) (hi : P.info? e = some i) (hz : i.zero = some z)
    (hsize : i.size = size) (hby : i.bytes = bytes) (hzs : z.cells.size = size) (hsz : 0 < size)
    (A : Option Addr) (n : Nat) (xs : List Value) (hs : a.eval s = .slice A n n) (hv : Sl w size (.slice A n n) n xs) (xv : Value) (m : Nat) (news : List Value) (hxv : a.eval x = xv) (hx : Sl w size xv m news) (h1 : ∀ u ∈ news, u.oneCell' = true)
    (hm : 0 < m) (h63 : n + m ≤ maxLen) (hbytes : (n + m) * bytes ≤ 140737488355328)
    (h : ∀ v' w', w'.ownsRow w.heap.size e size v' (n + m) (xs ++ news) → Below w.heap.size w w' → wpList P ops Q rest (a.put o.dst v') w') : wpList P ops Q (o :: rest) a w := by
  refine wpList_plain hgd fun K hK => ?_
  obtain ⟨v', w', hr, h2, h3⟩ := run_app_tight (P := P) w t o.type e i z size bytes ht hi hz hsize hby hzs hsz A n xs hv xv m news hx h1 hm h63 hbytes
  unfold Oper.wp execOp
  simp only [ho, resolve, invoke, builtin, Sem.run_bind, Sem.run_pure, Result.andThen_ok, List.map_toArray, List.map_cons, List.map_nil, hs, hxv, hr]
  exact hK _ _ (h v' w' h2 h3)
theorem wpList_app_tight_nil (hgd : o.guard = none) (s x : Operand) (t : TypeId) (ho : o.op = .call { callee := .builtin .append, args := #[s, x], argTypes := #[t, t] })
    (e : TypeId) (i : TypeInfo) (ht : P.underlying t = some (.slice e)) (hi : P.info? e = some i)
    (A : Option Addr) (n : Nat) (hs : a.eval s = .slice A n n) (hA : A = none → n = 0) (B : Option Addr) (c : Nat) (hxv : a.eval x = .slice B 0 c)
    (h : wpList P ops Q rest (a.put o.dst (.slice A n n)) w) : wpList P ops Q (o :: rest) a w := by
  refine wpList_plain hgd fun K hK => ?_
  have hr := run_app_tight_nil (P := P) w t o.type e i ht hi A n hA B c
  unfold Oper.wp execOp
  simp only [ho, resolve, invoke, builtin, Sem.run_bind, Sem.run_pure, Result.andThen_ok, List.map_toArray, List.map_cons, List.map_nil, hs, hxv, hr]
  exact hK _ _ h
end

section
variable {α : Type}
theorem flat_len {f : α → List Value} {sz : Nat} (hf : ∀ x, (f x).length = sz) : ∀ L : List α, (L.flatMap f).length = L.length * sz
  | [] => by simp
  | x :: L => by rw [List.flatMap_cons, List.length_append, hf, flat_len hf L, List.length_cons, Nat.add_mul]; omega
theorem flat_get {f : α → List Value} {sz : Nat} (hf : ∀ x, (f x).length = sz) : ∀ (L : List α) (k i : Nat) (x : α), L[k]? = some x → i < sz → (L.flatMap f)[k * sz + i]? = (f x)[i]?
  | [], k, i, x, h, _ => by simp at h
  | y :: L, 0, i, x, h, hi => by
    simp only [List.getElem?_cons_zero, Option.some.injEq] at h
    subst h
    rw [List.flatMap_cons, List.getElem?_append_left (by rw [hf]; omega)]
    simp
  | y :: L, k + 1, i, x, h, hi => by
    simp only [List.getElem?_cons_succ] at h
    rw [List.flatMap_cons, List.getElem?_append_right (by rw [hf, Nat.add_mul]; omega), hf, ← flat_get hf L k i x h hi]
    congr 1
    rw [Nat.add_mul]; omega
end
end Go.Proofs.Ytlhjlomfpgmdmaa
