/- Values, memory and frames as they are known in a walk. -/
import Derived.Test.YtlbldfdkicofdaaSxA
import Derived.Test.YtlbldfdkicofdaaSxAM
import Derived.WalkKit
namespace Go.Sx
open Go.RowKit
set_option linter.unusedVariables false
set_option linter.unusedSimpArgs false

inductive Pt where
  | bp (i off : Nat)
  | rp (r : Nat) (i : Int) (sz off : Nat)
  /-- One of so many cells of a box, from a place on. -/
  | ba (i off : Nat) (n : Int) (len : Nat)
  /-- Into a slice that lies in a row of slices. -/
  | op (c : Value) (sz len : Nat) (cells : Nat → List Value) (i : Int) (off : Nat)
/-- What a bound receiver is made of. -/
inductive BAt where
  | v (x : Value)
  | lb (b : Bool)
  | rs (r : Nat)
inductive At where
  | v (x : Value)
  | lb (b : Bool)
  | pt (p : Pt)
  | rs (r : Nat)
  | clo (f : FuncId) (caps : List Pt)
  | clb (f : FuncId) (agg : Bool) (l : List BAt)
  /-- A slice that lies in a row of slices, as it came in: what its elements read as. -/
  | ro (c : Value) (sz len : Nat) (cells : Nat → List Value)
inductive Cv where
  | one (x : At)
  | agg (l : List At)
inductive SV where
  | any
  | cv (x : Cv)
  | tup (l : List Cv)

structure Env where
  β : Nat → Option Nat
  σ : Nat → Option Value
  /-- The slices in rows of slices that are known. -/
  ι : Value → Nat → Nat → (Nat → List Value) → Prop
structure Env.le (ρ ρ' : Env) : Prop where
  β : ∀ i b, ρ.β i = some b → ρ'.β i = some b
  σ : ∀ i v, ρ.σ i = some v → ρ'.σ i = some v
  ι : ρ.ι = ρ'.ι
theorem Env.le_refl (ρ : Env) : ρ.le ρ := ⟨fun _ _ h => h, fun _ _ h => h, rfl⟩
theorem Env.le_trans {a b c : Env} (h : a.le b) (k : b.le c) : a.le c := ⟨fun _ _ x => k.1 _ _ (h.1 _ _ x), fun _ _ x => k.2 _ _ (h.2 _ _ x), h.3.trans k.3⟩
def upd {α : Type} (g : Nat → Option α) (n : Nat) (x : α) (i : Nat) : Option α := if i = n then some x else g i
theorem upd_same {α : Type} (g : Nat → Option α) (n : Nat) (x : α) : upd g n x n = some x := by simp [upd]
theorem upd_ne {α : Type} (g : Nat → Option α) {n i : Nat} (x : α) (h : i ≠ n) : upd g n x i = g i := by simp [upd, h]
theorem Env.le_box {ρ : Env} {n : Nat} (h : ρ.β n = none) (b : Nat) : ρ.le { ρ with β := upd ρ.β n b } :=
  ⟨fun i c hi => by show upd _ _ _ _ = _; rw [upd_ne _ _ (by rintro rfl; rw [h] at hi; cases hi)]; exact hi, fun _ _ h => h, rfl⟩
theorem Env.le_row {ρ : Env} {n : Nat} (h : ρ.σ n = none) (v : Value) : ρ.le { ρ with σ := upd ρ.σ n v } :=
  ⟨fun _ _ h => h, fun i c hi => by show upd _ _ _ _ = _; rw [upd_ne _ _ (by rintro rfl; rw [h] at hi; cases hi)]; exact hi, rfl⟩

open Classical in
noncomputable def Pt.den (ρ : Env) : Pt → Option Value
  | .bp i off => (ρ.β i).map fun b => .pointer (some ⟨b, off, none⟩)
  | .rp r i sz off => match ρ.σ r with
    | some (.slice (some a) _ _) => some (.pointer (some ((a.add (i.toNat * sz)).add off)))
    | _ => none
  | .ba i off n len => if 0 ≤ n ∧ n < len then (ρ.β i).map fun b => .pointer (some ⟨b, off + n.toNat, none⟩) else none
  | .op c sz len cells i off => if ρ.ι c sz len cells ∧ 0 ≤ i ∧ i < len then (match c with
    | .slice (some a) _ _ => some (.pointer (some ((a.add (i.toNat * sz)).add off)))
    | _ => none) else none
noncomputable def ptDens (ρ : Env) : List Pt → Option (List Value)
  | [] => some []
  | p :: l => match p.den ρ, ptDens ρ l with
    | some v, some vs => some (v :: vs)
    | _, _ => none
def BAt.den (ρ : Env) : BAt → Option Value
  | .v x => if x.oneCell' = true then some x else none
  | .lb b => some (.bool b)
  | .rs r => match ρ.σ r with
    | some (.slice a n c) => some (.slice a n c)
    | _ => none
def bDens (ρ : Env) : List BAt → Option (List Value)
  | [] => some []
  | p :: l => match p.den ρ, bDens ρ l with
    | some v, some vs => some (v :: vs)
    | _, _ => none
def bVal : Bool → List Value → Option Value
  | true, vs => some (.agg vs.toArray)
  | false, [v] => some v
  | false, _ => none
open Classical in
noncomputable def At.den (ρ : Env) : At → Option Value
  | .v x => if x.oneCell' = true then some x else none
  | .lb b => some (.bool b)
  | .pt p => p.den ρ
  | .rs r => match ρ.σ r with
    | some (.slice a n c) => some (.slice a n c)
    | _ => none
  | .clo f caps => (ptDens ρ caps).map fun vs => .func (.func f) #[] vs.toArray
  | .clb f agg l => ((bDens ρ l).bind (bVal agg)).map fun v => .func (.func f) #[v] #[]
  | .ro c sz len cells => if ρ.ι c sz len cells then (match c with
    | .slice a n k => some (.slice a n k)
    | _ => none) else none
noncomputable def dens (ρ : Env) : List At → Option (List Value)
  | [] => some []
  | p :: l => match p.den ρ, dens ρ l with
    | some v, some vs => some (v :: vs)
    | _, _ => none
noncomputable def Cv.den (ρ : Env) : Cv → Option Value
  | .one x => x.den ρ
  | .agg l => (dens ρ l).map fun vs => .agg vs.toArray
def Cv.cells : Cv → List At
  | .one x => [x]
  | .agg l => l
noncomputable def cvDens (ρ : Env) : List Cv → Option (List Value)
  | [] => some []
  | p :: l => match p.den ρ, cvDens ρ l with
    | some v, some vs => some (v :: vs)
    | _, _ => none
def SV.rep (ρ : Env) : SV → Value → Prop
  | .any, _ => True
  | .cv c, v => c.den ρ = some v
  | .tup l, v => ∃ vs, cvDens ρ l = some vs ∧ v = .tuple vs.toArray

section
variable {ρ ρ' : Env}
theorem Pt.den_le (h : ρ.le ρ') {p : Pt} {v : Value} (hv : p.den ρ = some v) : p.den ρ' = some v := by
  cases p with
  | bp i off =>
    simp only [Pt.den, Option.map_eq_some_iff] at *
    obtain ⟨b, hb, rfl⟩ := hv
    exact ⟨b, h.1 _ _ hb, rfl⟩
  | rp r i sz off =>
    simp only [Pt.den] at *
    split at hv
    · rename_i a _ _ ha
      rw [h.2 _ _ ha]; exact hv
    · cases hv
  | ba i off n len =>
    simp only [Pt.den] at *
    split at hv
    · rename_i hr
      rw [if_pos hr]
      simp only [Option.map_eq_some_iff] at *
      obtain ⟨b, hb, rfl⟩ := hv
      exact ⟨b, h.1 _ _ hb, rfl⟩
    · cases hv
  | op c sz len cells i off =>
    simp only [Pt.den] at *
    split at hv
    · rename_i hr
      rw [← h.3, if_pos hr]; exact hv
    · cases hv
theorem ptDens_le (h : ρ.le ρ') : ∀ {l : List Pt} {vs : List Value}, ptDens ρ l = some vs → ptDens ρ' l = some vs
  | [], vs, hv => hv
  | p :: l, vs, hv => by
    simp only [ptDens] at *
    split at hv
    · rename_i v ws h1 h2
      rw [Pt.den_le h h1, ptDens_le h h2]; exact hv
    · cases hv
theorem BAt.den_le (h : ρ.le ρ') {x : BAt} {v : Value} (hv : x.den ρ = some v) : x.den ρ' = some v := by
  cases x with
  | v x => exact hv
  | lb b => exact hv
  | rs r =>
    simp only [BAt.den] at *
    split at hv
    · rename_i ha; rw [h.2 _ _ ha]; exact hv
    · cases hv
theorem bDens_le (h : ρ.le ρ') : ∀ {l : List BAt} {vs : List Value}, bDens ρ l = some vs → bDens ρ' l = some vs
  | [], vs, hv => hv
  | p :: l, vs, hv => by
    simp only [bDens] at *
    split at hv
    · rename_i v ws h1 h2
      rw [BAt.den_le h h1, bDens_le h h2]; exact hv
    · cases hv
theorem At.den_le (h : ρ.le ρ') {x : At} {v : Value} (hv : x.den ρ = some v) : x.den ρ' = some v := by
  cases x with
  | v x => exact hv
  | lb b => exact hv
  | pt p => exact Pt.den_le h hv
  | rs r =>
    simp only [At.den] at *
    split at hv
    · rename_i ha; rw [h.2 _ _ ha]; exact hv
    · cases hv
  | clo f caps =>
    simp only [At.den, Option.map_eq_some_iff] at *
    obtain ⟨vs, h1, h2⟩ := hv
    exact ⟨vs, ptDens_le h h1, h2⟩
  | clb f agg l =>
    simp only [At.den, Option.map_eq_some_iff, Option.bind_eq_some_iff] at *
    obtain ⟨v, ⟨vs, h1, h2⟩, h3⟩ := hv
    exact ⟨v, ⟨vs, bDens_le h h1, h2⟩, h3⟩
  | ro c sz len cells =>
    simp only [At.den] at *
    split at hv
    · rename_i hr
      rw [← h.3, if_pos hr]; exact hv
    · cases hv
theorem dens_le (h : ρ.le ρ') : ∀ {l : List At} {vs : List Value}, dens ρ l = some vs → dens ρ' l = some vs
  | [], vs, hv => hv
  | p :: l, vs, hv => by
    simp only [dens] at *
    split at hv
    · rename_i v ws h1 h2
      rw [At.den_le h h1, dens_le h h2]; exact hv
    · cases hv
theorem Cv.den_le (h : ρ.le ρ') {c : Cv} {v : Value} (hv : c.den ρ = some v) : c.den ρ' = some v := by
  cases c with
  | one x => exact At.den_le h hv
  | agg l =>
    simp only [Cv.den, Option.map_eq_some_iff] at *
    obtain ⟨vs, h1, h2⟩ := hv
    exact ⟨vs, dens_le h h1, h2⟩
theorem cvDens_le (h : ρ.le ρ') : ∀ {l : List Cv} {vs : List Value}, cvDens ρ l = some vs → cvDens ρ' l = some vs
  | [], vs, hv => hv
  | p :: l, vs, hv => by
    simp only [cvDens] at *
    split at hv
    · rename_i v ws h1 h2
      rw [Cv.den_le h h1, cvDens_le h h2]; exact hv
    · cases hv
theorem SV.rep_le (h : ρ.le ρ') {x : SV} {v : Value} (hv : x.rep ρ v) : x.rep ρ' v := by
  cases x with
  | any => trivial
  | cv c => exact Cv.den_le h hv
  | tup l => obtain ⟨vs, h1, h2⟩ := hv; exact ⟨vs, cvDens_le h h1, h2⟩
theorem Pt.den_form {p : Pt} {v : Value} (hv : p.den ρ = some v) : ∃ a, v = .pointer (some a) := by
  cases p with
  | bp i off =>
    simp only [Pt.den, Option.map_eq_some_iff] at hv
    obtain ⟨b, _, rfl⟩ := hv
    exact ⟨_, rfl⟩
  | rp r i sz off =>
    simp only [Pt.den] at hv
    split at hv
    · injection hv with hv; exact ⟨_, hv.symm⟩
    · cases hv
  | ba i off n len =>
    simp only [Pt.den] at hv
    split at hv
    · simp only [Option.map_eq_some_iff] at hv
      obtain ⟨b, _, rfl⟩ := hv
      exact ⟨_, rfl⟩
    · cases hv
  | op c sz len cells i off =>
    simp only [Pt.den] at hv
    split at hv
    · split at hv
      · injection hv with hv; exact ⟨_, hv.symm⟩
      · cases hv
    · cases hv
theorem At.den_one {x : At} {v : Value} (hv : x.den ρ = some v) : v.oneCell' = true := by
  cases x with
  | v x =>
    simp only [At.den] at hv
    split at hv
    · injection hv with hv; subst hv; assumption
    · cases hv
  | lb b => injection hv with hv; subst hv; rfl
  | pt p => obtain ⟨a, rfl⟩ := Pt.den_form hv; rfl
  | rs r =>
    simp only [At.den] at hv
    split at hv
    · injection hv with hv; subst hv; rfl
    · cases hv
  | clo f caps =>
    simp only [At.den, Option.map_eq_some_iff] at hv
    obtain ⟨vs, _, rfl⟩ := hv; rfl
  | clb f agg l =>
    simp only [At.den, Option.map_eq_some_iff] at hv
    obtain ⟨vs, _, rfl⟩ := hv; rfl
  | ro c sz len cells =>
    simp only [At.den] at hv
    split at hv
    · split at hv
      · injection hv with hv; subst hv; rfl
      · cases hv
    · cases hv
theorem cells_one {v : Value} (h : v.oneCell' = true) : v.cells = #[v] := by cases v <;> first | rfl | cases h
theorem dens_cons {x : At} {l : List At} {vs : List Value} (h : dens ρ (x :: l) = some vs) : ∃ v ws, x.den ρ = some v ∧ dens ρ l = some ws ∧ vs = v :: ws := by
  simp only [dens] at h
  split at h
  · rename_i v ws h1 h2
    injection h with h
    exact ⟨v, ws, h1, h2, h.symm⟩
  · cases h
theorem dens_mk {x : At} {l : List At} {v : Value} {ws : List Value} (h1 : x.den ρ = some v) (h2 : dens ρ l = some ws) : dens ρ (x :: l) = some (v :: ws) := by simp [dens, h1, h2]
theorem dens_len : ∀ {l : List At} {vs : List Value}, dens ρ l = some vs → vs.length = l.length
  | [], vs, h => by injection h with h; subst h; rfl
  | x :: l, vs, h => by
    obtain ⟨v, ws, _, h2, rfl⟩ := dens_cons h
    simp [dens_len h2]
theorem dens_get : ∀ {l : List At} {vs : List Value} {j : Nat} {x : At}, dens ρ l = some vs → l[j]? = some x → ∃ v, x.den ρ = some v ∧ vs[j]? = some v
  | [], vs, j, x, h, hj => by simp at hj
  | y :: l, vs, j, x, h, hj => by
    obtain ⟨v, ws, h1, h2, rfl⟩ := dens_cons h
    cases j with
    | zero => simp at hj; subst hj; exact ⟨v, h1, by simp⟩
    | succ j => simp at hj; obtain ⟨u, h3, h4⟩ := dens_get h2 hj; exact ⟨u, h3, by simpa using h4⟩
theorem dens_one : ∀ {l : List At} {vs : List Value}, dens ρ l = some vs → ∀ u ∈ vs, u.oneCell' = true
  | [], vs, h => by injection h with h; subst h; simp
  | x :: l, vs, h => by
    obtain ⟨v, ws, h1, h2, rfl⟩ := dens_cons h
    intro u hu
    rcases List.mem_cons.1 hu with rfl | hu
    · exact At.den_one h1
    · exact dens_one h2 u hu
theorem dens_append : ∀ {l m : List At} {vs ws : List Value}, dens ρ l = some vs → dens ρ m = some ws → dens ρ (l ++ m) = some (vs ++ ws)
  | [], m, vs, ws, h, k => by injection h with h; subst h; simpa using k
  | x :: l, m, vs, ws, h, k => by
    obtain ⟨v, us, h1, h2, rfl⟩ := dens_cons h
    exact dens_mk h1 (dens_append h2 k)
theorem dens_take : ∀ {l : List At} {vs : List Value} (n : Nat), dens ρ l = some vs → dens ρ (l.take n) = some (vs.take n)
  | l, vs, 0, h => by simp [dens]
  | [], vs, n + 1, h => by injection h with h; subst h; rfl
  | x :: l, vs, n + 1, h => by
    obtain ⟨v, us, h1, h2, rfl⟩ := dens_cons h
    exact dens_mk h1 (dens_take n h2)
theorem dens_drop : ∀ {l : List At} {vs : List Value} (n : Nat), dens ρ l = some vs → dens ρ (l.drop n) = some (vs.drop n)
  | l, vs, 0, h => by simpa using h
  | [], vs, n + 1, h => by injection h with h; subst h; rfl
  | x :: l, vs, n + 1, h => by
    obtain ⟨v, us, h1, h2, rfl⟩ := dens_cons h
    simpa using dens_drop n h2
theorem Cv.den_cells {c : Cv} {v : Value} (h : c.den ρ = some v) : dens ρ c.cells = some v.cells.toList := by
  cases c with
  | one x => rw [cells_one (At.den_one h)]; exact dens_mk h rfl
  | agg l =>
    simp only [Cv.den, Option.map_eq_some_iff] at h
    obtain ⟨vs, h1, rfl⟩ := h
    exact h1
end

/-- A slice in memory that may be read: so many elements, of sz cells each; with the element's type, if it is the call's own. -/
structure Row where
  sz : Nat
  len : Nat
  cells : Nat → List At
  own : Option TypeId
  tight : Bool
  new : Bool
def reps (ρ : Env) : List SV → List Value → Prop
  | [], [] => True
  | x :: xs, v :: vs => x.rep ρ v ∧ reps ρ xs vs
  | _, _ => False
theorem reps_le {ρ ρ' : Env} (hl : ρ.le ρ') : ∀ {F : List SV} {vs : List Value}, reps ρ F vs → reps ρ' F vs
  | [], [], _ => trivial
  | x :: xs, v :: vs, h => ⟨SV.rep_le hl h.1, reps_le hl h.2⟩
  | [], v :: vs, h => h.elim
  | x :: xs, [], h => h.elim
/-- What lies in memory besides variables: the record of a range over a function, the block that its mark names. -/
inductive Ob where
  | df (o : Option (List Deferred))
  | lp (l : Loop)
def Ob.obj : Ob → Obj
  | .df o => .deferred o
  | .lp l => .loop l
/-- The world that a call began in, and a block of it that was given away; the slots of those who wait; what lies in memory besides. -/
structure Base where
  w : World
  g : Option Nat
  gs : List Value := []
  objs : List (Nat × Ob) := []
def Base.mine (W : Base) (b : Nat) : Prop := W.w.heap.size ≤ b ∨ W.g = some b
structure Kept (W : Base) (w : World) : Prop where
  os : w.os = W.w.os
  tape : w.tape = W.w.tape
  output : w.output = W.w.output
  size : W.w.heap.size ≤ w.heap.size
  block : ∀ k, k < W.w.heap.size → W.g ≠ some k → w.heap[k]? = W.w.heap[k]?
  objs : ∀ k o, (k, o) ∈ W.objs → w.heap[k]? = some o.obj
  low : ∀ k o, (k, o) ∈ W.objs → W.w.heap.size ≤ k
  nd : (W.objs.map Prod.fst).Nodup
theorem Kept.refl (w : World) (g : Option Nat) (gs : List Value) : Kept ⟨w, g, gs, []⟩ w := ⟨rfl, rfl, rfl, Nat.le_refl _, fun _ _ _ => rfl, (fun k o h => by cases h), (fun k o h => by cases h), by simp⟩
theorem heap_lt {w : World} {b : Nat} {o : Obj} (h : w.heap[b]? = some o) : b < w.heap.size := (Array.getElem?_eq_some_iff.1 h).1
theorem ob_ne {w : World} {b k : Nat} {o : Ob} {c : Array Value} {t : TypeId} {f : Nat × Nat} (h : w.heap[b]? = some (.cells c t f)) (hk : w.heap[k]? = some o.obj) : k ≠ b := fun e => by
  subst e; rw [h] at hk; cases o <;> cases hk
theorem Kept.callee {W : Base} {w w' : World} (h : Kept W w) (hb : Below w.heap.size w w') : Kept W w' :=
  ⟨hb.os.trans h.os, hb.tape.trans h.tape, hb.output.trans h.output, Nat.le_trans h.size hb.size, fun k hk hg => (hb.block k (Nat.lt_of_lt_of_le hk h.size)).trans (h.block k hk hg), fun k o ho => (hb.block k (heap_lt (h.objs k o ho))).trans (h.objs k o ho), h.low, h.nd⟩
theorem Kept.but {W : Base} {w w' : World} {row : Option Nat} (h : Kept W w) (hb : w.grownBy w' row) (hr : ∀ k, row = some k → W.mine k) (hc : ∀ k, row = some k → ∃ c t f, w.heap[k]? = some (.cells c t f)) : Kept W w' :=
  ⟨hb.os.trans h.os, hb.tape.trans h.tape, hb.output.trans h.output, Nat.le_trans h.size hb.size, fun k hk hg => (hb.block k (Nat.lt_of_lt_of_le hk h.size) (fun e => by
    rcases hr k e.symm with h1 | h1
    · omega
    · exact hg h1)).trans (h.block k hk hg), fun k o ho => (hb.block k (heap_lt (h.objs k o ho)) (fun e => by
    obtain ⟨c, t, f, hcc⟩ := hc k e.symm
    exact ob_ne hcc (h.objs k o ho) rfl)).trans (h.objs k o ho), h.low, h.nd⟩
theorem Kept.below {w w' : World} {gs : List Value} {os : List (Nat × Ob)} (h : Kept ⟨w, none, gs, os⟩ w') : Below w.heap.size w w' := ⟨h.os, h.tape, h.output, h.size, fun k hk => h.block k hk (by simp)⟩
def capOf : Value → Nat
  | .slice _ _ c => c
  | _ => 0
def Row.touch (R : Row) (v : Value) (b : Nat) : Prop := v.ownBlock = some b ∧ ((R.own.isSome = true ∧ 0 < capOf v) ∨ 0 < R.len)
structure RowOk (W : Base) (ρ : Env) (w : World) (v : Value) (R : Row) : Prop where
  form : ∃ A cap, v = .slice A R.len cap ∧ R.len ≤ cap ∧ cap ≤ maxLen ∧ (A = none → cap = 0) ∧ (R.tight = true → cap = R.len) ∧
    (0 < R.len → ∃ b o, A = some ⟨b, o, none⟩ ∧ b < w.heap.size ∧ ∀ i vs, i < R.len → dens ρ (R.cells i) = some vs → ∀ j u, vs[j]? = some u → w.cell? ⟨b, o + i * R.sz + j, none⟩ = some u) ∧
    (∀ e, R.own = some e → cap = 0 ∨ ∃ g cur fz, A = some ⟨g, 0, none⟩ ∧ W.mine g ∧ w.heap[g]? = some (.cells cur e fz) ∧ cur.size = cap * R.sz ∧ Beh cur fz)
  each : ∀ i, i < R.len → ∃ vs, dens ρ (R.cells i) = some vs ∧ vs.length = R.sz
  fresh : R.new = true → ∀ b, R.touch v b → W.mine b

/-- A slice that lies in a row of slices: it stands in memory that was there when the call began, and is not given away. -/
structure InnOk (W : Base) (c : Value) (sz len : Nat) (cells : Nat → List Value) : Prop where
  form : ∃ A cap, c = .slice A len cap ∧ len ≤ cap ∧ cap ≤ maxLen ∧
    (0 < len → ∃ b o, A = some ⟨b, o, none⟩ ∧ b < W.w.heap.size ∧ W.g ≠ some b ∧ ∀ i j u, i < len → (cells i)[j]? = some u → W.w.cell? ⟨b, o + i * sz + j, none⟩ = some u)
  each : ∀ i, i < len → (cells i).length = sz ∧ ∀ u ∈ cells i, u.oneCell' = true

structure St where
  F : List SV
  B : List (Option (List At))
  R : List (Option Row)
  G : List SV

structure Mem (W : Base) (s : St) (ρ : Env) (w : World) : Prop where
  below : Kept W w
  box : ∀ i c, s.B[i]? = some (some c) → ∃ b vs t, ρ.β i = some b ∧ W.mine b ∧ dens ρ c = some vs ∧ w.heap[b]? = some (.cells vs.toArray t (0, 0))
  boxNe : ∀ i j c d b, i ≠ j → s.B[i]? = some (some c) → s.B[j]? = some (some d) → ρ.β i = some b → ρ.β j ≠ some b
  row : ∀ r R, s.R[r]? = some (some R) → ∃ v, ρ.σ r = some v ∧ RowOk W ρ w v R
  rowBox : ∀ r R v i c b, s.R[r]? = some (some R) → ρ.σ r = some v → s.B[i]? = some (some c) → ρ.β i = some b → ¬ R.touch v b
  rowRow : ∀ r r' R R' v v' b, r ≠ r' → s.R[r]? = some (some R) → s.R[r']? = some (some R') → ρ.σ r = some v → ρ.σ r' = some v' → R.own.isSome = true → R.touch v b → ¬ R'.touch v' b
  ghost : reps ρ s.G W.gs
  inn : ∀ c sz len cells, ρ.ι c sz len cells → InnOk W c sz len cells

theorem lt_of_some {w : World} {b : Nat} {o : Obj} (h : w.heap[b]? = some o) : b < w.heap.size := (Array.getElem?_eq_some_iff.1 h).1
section
variable {W : Base} {w w' : World} {s : St} {ρ ρ' : Env} {v : Value} {R : Row}
theorem RowOk.touch_lt (h : RowOk W ρ w v R) {b : Nat} (ht : R.touch v b) : b < w.heap.size := by
  obtain ⟨A, cap, rfl, _, _, _, _, h1, h2⟩ := h.form
  obtain ⟨hb, ⟨ho, hcap⟩ | hl⟩ := ht
  · obtain ⟨e, he⟩ := Option.isSome_iff_exists.1 ho
    rcases h2 e he with rfl | ⟨g, cur, fz, rfl, _, hg, _⟩
    · simp [capOf] at hcap
    · simp [Value.ownBlock] at hb; subst hb; exact lt_of_some hg
  · obtain ⟨b', o, rfl, hlt, _⟩ := h1 hl
    simp [Value.ownBlock] at hb; subst hb; exact hlt
theorem RowOk.own_cells (h : RowOk W ρ w v R) (ho : R.own.isSome = true) {b : Nat} (ht : R.touch v b) : ∃ c t f, w.heap[b]? = some (.cells c t f) := by
  obtain ⟨A, cap, rfl, hle, _, _, _, _, h2⟩ := h.form
  obtain ⟨e, he⟩ := Option.isSome_iff_exists.1 ho
  obtain ⟨hb, h3⟩ := ht
  have hcap : 0 < cap := by
    rcases h3 with ⟨_, h3⟩ | h3
    · exact h3
    · omega
  rcases h2 e he with h0 | ⟨g, cur, fz, rfl, _, hg, _⟩
  · omega
  · simp [Value.ownBlock] at hb; subst hb; exact ⟨_, _, _, hg⟩
theorem RowOk.keep (h : RowOk W ρ w v R) (hs : w.heap.size ≤ w'.heap.size) (hk : ∀ b, R.touch v b → w'.heap[b]? = w.heap[b]?) : RowOk W ρ w' v R := by
  refine ⟨?_, h.each, h.fresh⟩
  obtain ⟨A, cap, rfl, hc, hm, hn, ht, h1, h2⟩ := h.form
  refine ⟨A, cap, rfl, hc, hm, hn, ht, fun hl => ?_, fun e he => ?_⟩
  · obtain ⟨b, o, rfl, hlt, hcell⟩ := h1 hl
    have hb := hk b ⟨by simp [Value.ownBlock], .inr hl⟩
    exact ⟨b, o, rfl, by omega, fun i vs hi hvs j u hu => (World.cell?_of_block (a := ⟨b, o + i * R.sz + j, none⟩) hb).trans (hcell i vs hi hvs j u hu)⟩
  · rcases h2 e he with h0 | ⟨g, cur, fz, rfl, hW, hg, hcs⟩
    · exact .inl h0
    · by_cases hcap : cap = 0
      · exact .inl hcap
      · exact .inr ⟨g, cur, fz, rfl, hW, (hk g ⟨by simp [Value.ownBlock], .inl ⟨by simp [he], by simp [capOf]; omega⟩⟩).trans hg, hcs⟩
theorem RowOk.le (h : RowOk W ρ w v R) (hl : ρ.le ρ') : RowOk W ρ' w v R := by
  have hd : ∀ i vs, i < R.len → dens ρ' (R.cells i) = some vs → dens ρ (R.cells i) = some vs := fun i vs hi hvs => by
    obtain ⟨ws, h1, _⟩ := h.each i hi
    have := dens_le hl h1
    rw [hvs] at this; injection this with this; subst this; exact h1
  refine ⟨?_, fun i hi => ?_, h.fresh⟩
  · obtain ⟨A, cap, rfl, hc, hm, hn, ht, h1, h2⟩ := h.form
    refine ⟨A, cap, rfl, hc, hm, hn, ht, fun hl => ?_, h2⟩
    obtain ⟨b, o, rfl, hlt, hcell⟩ := h1 hl
    exact ⟨b, o, rfl, hlt, fun i vs hi hvs => hcell i vs hi (hd i vs hi hvs)⟩
  · obtain ⟨vs, h1, h2⟩ := h.each i hi
    exact ⟨vs, dens_le hl h1, h2⟩

/-- Whatever keeps all blocks that are known keeps what is known. -/
theorem Mem.keep (h : Mem W s ρ w) (hb : Kept W w') (hs : w.heap.size ≤ w'.heap.size)
    (hbox : ∀ i c b, s.B[i]? = some (some c) → ρ.β i = some b → w'.heap[b]? = w.heap[b]?)
    (hrow : ∀ r R v b, s.R[r]? = some (some R) → ρ.σ r = some v → R.touch v b → w'.heap[b]? = w.heap[b]?) : Mem W s ρ w' := by
  refine ⟨hb, fun i c hi => ?_, h.boxNe, fun r R hr => ?_, h.rowBox, h.rowRow, h.ghost, h.inn⟩
  · obtain ⟨b, vs, t, h1, h2, h3, h4⟩ := h.box i c hi
    exact ⟨b, vs, t, h1, h2, h3, (hbox i c b hi h1).trans h4⟩
  · obtain ⟨v, hv, hok⟩ := h.row r R hr
    exact ⟨v, hv, hok.keep hs fun b ht => hrow r R v b hr hv ht⟩
theorem Mem.box_lt (h : Mem W s ρ w) {i : Nat} {c : List At} {b : Nat} (hi : s.B[i]? = some (some c)) (hb : ρ.β i = some b) : b < w.heap.size := by
  obtain ⟨b', vs, t, h1, _, _, h4⟩ := h.box i c hi
  rw [hb] at h1; injection h1 with h1; subst h1
  exact lt_of_some h4
theorem Mem.row_lt (h : Mem W s ρ w) {r : Nat} {R : Row} {v : Value} {b : Nat} (hr : s.R[r]? = some (some R)) (hv : ρ.σ r = some v) (ht : R.touch v b) : b < w.heap.size := by
  obtain ⟨v', hv', hok⟩ := h.row r R hr
  rw [hv] at hv'; injection hv' with hv'; subst hv'
  exact hok.touch_lt ht
theorem Mem.callee (h : Mem W s ρ w) (hb : Below w.heap.size w w') : Mem W s ρ w' :=
  h.keep (h.below.callee hb) hb.size (fun i c b hi hib => hb.block b (h.box_lt hi hib)) (fun r R v b hr hv ht => hb.block b (h.row_lt hr hv ht))
theorem Mem.le (h : Mem W s ρ w) (hl : ρ.le ρ') : Mem W s ρ' w := by
  have gb : ∀ i c b, s.B[i]? = some (some c) → ρ'.β i = some b → ρ.β i = some b := fun i c b hi hb => by
    obtain ⟨b', _, _, h1, _⟩ := h.box i c hi
    have := hl.1 _ _ h1
    rw [hb] at this; injection this with this; subst this; exact h1
  have gr : ∀ r R v, s.R[r]? = some (some R) → ρ'.σ r = some v → ρ.σ r = some v := fun r R v hr hv => by
    obtain ⟨v', h1, _⟩ := h.row r R hr
    have := hl.2 _ _ h1
    rw [hv] at this; injection this with this; subst this; exact h1
  refine ⟨h.below, fun i c hi => ?_, fun i j c d b hne hi hj hb hb' => h.boxNe i j c d b hne hi hj (gb _ _ _ hi hb) (gb _ _ _ hj hb'), fun r R hr => ?_,
    fun r R v i c b hr hv hi hb => h.rowBox r R v i c b hr (gr _ _ _ hr hv) hi (gb _ _ _ hi hb),
    fun r r' R R' v v' b hne hr hr' hv hv' => h.rowRow r r' R R' v v' b hne hr hr' (gr _ _ _ hr hv) (gr _ _ _ hr' hv'), reps_le hl h.ghost, by rw [← hl.3]; exact h.inn⟩
  · obtain ⟨b, vs, t, h1, h2, h3, h4⟩ := h.box i c hi
    exact ⟨b, vs, t, hl.1 _ _ h1, h2, dens_le hl h3, h4⟩
  · obtain ⟨v, hv, hok⟩ := h.row r R hr
    exact ⟨v, hl.2 _ _ hv, hok.le hl⟩

theorem Mem.subG {s' : St} (h : Mem W s ρ w) (hB : ∀ (i : Nat) c, s'.B[i]? = some (some c) → s.B[i]? = some (some c)) (hR : ∀ (r : Nat) R, s'.R[r]? = some (some R) → s.R[r]? = some (some R)) (hG : reps ρ s'.G W.gs) : Mem W s' ρ w :=
  ⟨h.below, fun i c hi => h.box i c (hB i c hi), fun i j c d b hne hi hj => h.boxNe i j c d b hne (hB i c hi) (hB j d hj), fun r R hr => h.row r R (hR r R hr),
    fun r R v i c b hr hv hi => h.rowBox r R v i c b (hR r R hr) hv (hB i c hi), fun r r' R R' v v' b hne hr hr' => h.rowRow r r' R R' v v' b hne (hR r R hr) (hR r' R' hr'), hG, h.inn⟩
/-- What lies in memory besides may be forgotten, or be known anew. -/
theorem Mem.reobj {W' : Base} (h : Mem W s ρ w) (h1 : W'.w = W.w) (h2 : W'.g = W.g) (h3 : W'.gs = W.gs) (ho : ∀ k o, (k, o) ∈ W'.objs → w.heap[k]? = some o.obj) (hl : ∀ k o, (k, o) ∈ W'.objs → W'.w.heap.size ≤ k) (hn : (W'.objs.map Prod.fst).Nodup) : Mem W' s ρ w := by
  obtain ⟨W1, W2, W3, W4⟩ := W
  obtain ⟨V1, V2, V3, V4⟩ := W'
  dsimp only at h1 h2 h3
  subst h1 h2 h3
  exact ⟨⟨h.below.os, h.below.tape, h.below.output, h.below.size, h.below.block, ho, hl, hn⟩, h.box, h.boxNe, fun r R hr => by
    obtain ⟨v, hv, hok⟩ := h.row r R hr
    exact ⟨v, hv, ⟨hok.form, hok.each, hok.fresh⟩⟩, h.rowBox, h.rowRow, h.ghost, fun c sz len cells hc => ⟨(h.inn c sz len cells hc).form, (h.inn c sz len cells hc).each⟩⟩
/-- The frame is of no concern to memory; boxes and rows may be forgotten. -/
theorem Mem.sub {s' : St} (h : Mem W s ρ w) (hB : ∀ (i : Nat) c, s'.B[i]? = some (some c) → s.B[i]? = some (some c)) (hR : ∀ (r : Nat) R, s'.R[r]? = some (some R) → s.R[r]? = some (some R)) (hG : s'.G = s.G := by rfl) : Mem W s' ρ w :=
  ⟨h.below, fun i c hi => h.box i c (hB i c hi), fun i j c d b hne hi hj => h.boxNe i j c d b hne (hB i c hi) (hB j d hj), fun r R hr => h.row r R (hR r R hr),
    fun r R v i c b hr hv hi => h.rowBox r R v i c b (hR r R hr) hv (hB i c hi), fun r r' R R' v v' b hne hr hr' => h.rowRow r r' R R' v v' b hne (hR r R hr) (hR r' R' hr'), by rw [hG]; exact h.ghost, h.inn⟩
end

def setAt {α : Type} : List (Option α) → Nat → α → List (Option α)
  | [], 0, x => [some x]
  | [], n + 1, x => none :: setAt [] n x
  | _ :: l, 0, x => some x :: l
  | y :: l, n + 1, x => y :: setAt l n x
theorem setAt_same {α : Type} : ∀ (l : List (Option α)) (n : Nat) (x : α), (setAt l n x)[n]? = some (some x)
  | [], 0, x => rfl
  | [], n + 1, x => by simpa [setAt] using setAt_same [] n x
  | _ :: l, 0, x => rfl
  | y :: l, n + 1, x => by simpa [setAt] using setAt_same l n x
theorem setAt_get {α : Type} : ∀ (l : List (Option α)) (n i : Nat) (x d : α), (setAt l n x)[i]? = some (some d) → (i = n ∧ d = x) ∨ (i ≠ n ∧ l[i]? = some (some d))
  | [], 0, i, x, d, h => by
    cases i with
    | zero => simp [setAt] at h; exact .inl ⟨rfl, h.symm⟩
    | succ i => simp [setAt] at h
  | [], n + 1, i, x, d, h => by
    cases i with
    | zero => simp [setAt] at h
    | succ i =>
      simp only [setAt, List.getElem?_cons_succ] at h
      rcases setAt_get [] n i x d h with ⟨rfl, rfl⟩ | ⟨_, h⟩
      · exact .inl ⟨rfl, rfl⟩
      · simp at h
  | y :: l, 0, i, x, d, h => by
    cases i with
    | zero => simp [setAt] at h; exact .inl ⟨rfl, h.symm⟩
    | succ i => simp only [setAt, List.getElem?_cons_succ] at h; exact .inr ⟨by omega, by simpa using h⟩
  | y :: l, n + 1, i, x, d, h => by
    cases i with
    | zero => simp [setAt] at h; exact .inr ⟨by omega, by simpa using h⟩
    | succ i =>
      simp only [setAt, List.getElem?_cons_succ] at h
      rcases setAt_get l n i x d h with ⟨rfl, rfl⟩ | ⟨hne, h⟩
      · exact .inl ⟨rfl, rfl⟩
      · exact .inr ⟨by omega, by simpa using h⟩

section
variable {W : Base} {w w' : World} {s : St} {ρ : Env}
theorem Mem.newBox (h : Mem W s ρ w) {n : Nat} (hn : ρ.β n = none) {c : List At} {vs : List Value} (hc : dens ρ c = some vs) (t : TypeId) :
    Mem W { s with B := setAt s.B n c } { ρ with β := upd ρ.β n w.heap.size } (w.alloc (.cells vs.toArray t)) := by
  have hle := Env.le_box hn w.heap.size
  have hold : ∀ {i : Nat} {d : List At} {b : Nat}, i ≠ n → upd ρ.β n w.heap.size i = some b → ρ.β i = some b := fun hi hb => by rwa [upd_ne _ _ hi] at hb
  refine ⟨h.below.callee ((Below.refl _ _).alloc (Nat.le_refl _) _), fun i d hi => ?_, fun i j d e b hne hi hj hb hb' => ?_, fun r R hr => ?_, fun r R v i d b hr hv hi hb => ?_, h.rowRow, reps_le hle h.ghost, h.inn⟩
  · rcases setAt_get _ _ _ _ _ hi with ⟨rfl, rfl⟩ | ⟨hne, hi⟩
    · exact ⟨w.heap.size, vs, t, upd_same _ _ _, .inl h.below.size, dens_le hle hc, heap_alloc_new w _⟩
    · obtain ⟨b, us, t', h1, h2, h3, h4⟩ := h.box i d hi
      exact ⟨b, us, t', hle.1 _ _ h1, h2, dens_le hle h3, (Below.heap_alloc w _ b (lt_of_some h4)).trans h4⟩
  · simp only at hb hb'
    rcases setAt_get _ _ _ _ _ hi with ⟨rfl, rfl⟩ | ⟨hi', hi2⟩ <;> rcases setAt_get _ _ _ _ _ hj with ⟨rfl, rfl⟩ | ⟨hj', hj2⟩
    · exact hne rfl
    · rw [upd_same] at hb; injection hb with hb; subst hb
      exact absurd (h.box_lt hj2 (by rwa [upd_ne _ _ hj'] at hb')) (by omega)
    · rw [upd_same] at hb'; injection hb' with hb'; subst hb'
      exact absurd (h.box_lt hi2 (by rwa [upd_ne _ _ hi'] at hb)) (by omega)
    · rw [upd_ne _ _ hi'] at hb; rw [upd_ne _ _ hj'] at hb'
      exact h.boxNe i j d e b hne hi2 hj2 hb hb'
  · obtain ⟨v, hv, hok⟩ := h.row r R hr
    exact ⟨v, hv, (hok.keep (by simp) fun b ht => Below.heap_alloc w _ b (hok.touch_lt ht)).le hle⟩
  · simp only at hb
    rcases setAt_get _ _ _ _ _ hi with ⟨rfl, rfl⟩ | ⟨hi', hi⟩
    · rw [upd_same] at hb; injection hb with hb; subst hb
      exact fun ht => absurd (h.row_lt hr hv ht) (by omega)
    · rw [upd_ne _ _ hi'] at hb
      exact h.rowBox r R v i d b hr hv hi hb
theorem Mem.putBox (h : Mem W s ρ w) {i : Nat} {c c' : List At} {vs' : List Value} {b : Nat} {t : TypeId} (hi : s.B[i]? = some (some c)) (hb : ρ.β i = some b) (hc : dens ρ c' = some vs')
    (hw : w'.heap[b]? = some (.cells vs'.toArray t (0, 0))) (hk : ∀ k, k ≠ b → w'.heap[k]? = w.heap[k]?) (hs : w'.heap.size = w.heap.size) (ho : w'.os = w.os ∧ w'.tape = w.tape ∧ w'.output = w.output) :
    Mem W { s with B := setAt s.B i c' } ρ w' := by
  obtain ⟨b0, vs, t0, h1, h2, h3, h4⟩ := h.box i c hi
  rw [hb] at h1; injection h1 with h1; subst h1
  refine ⟨⟨ho.1.trans h.below.os, ho.2.1.trans h.below.tape, ho.2.2.trans h.below.output, by rw [hs]; exact h.below.size, fun k hkW hg => (hk k (fun e => by subst e; rcases h2 with h2 | h2; (omega); exact hg h2)).trans (h.below.block k hkW hg), fun k o ho => (hk k (ob_ne h4 (h.below.objs k o ho))).trans (h.below.objs k o ho), h.below.low, h.below.nd⟩,
    fun j d hj => ?_, fun j j' d e b' hne hj hj' => ?_, fun r R hr => ?_, fun r R v j d b' hr hv hj hb' => ?_, h.rowRow, h.ghost, h.inn⟩
  · rcases setAt_get _ _ _ _ _ hj with ⟨rfl, rfl⟩ | ⟨hne, hj⟩
    · exact ⟨b, vs', t, hb, h2, hc, hw⟩
    · obtain ⟨b', us, t', g1, g2, g3, g4⟩ := h.box j d hj
      exact ⟨b', us, t', g1, g2, g3, (hk b' (fun e => by subst e; exact h.boxNe j i d c b' hne hj hi g1 hb)).trans g4⟩
  · have get : ∀ {j d}, (setAt s.B i c')[j]? = some (some d) → ∃ d', s.B[j]? = some (some d') := fun {j d} hj => by
      rcases setAt_get _ _ _ _ _ hj with ⟨rfl, rfl⟩ | ⟨_, hj⟩
      · exact ⟨c, hi⟩
      · exact ⟨_, hj⟩
    obtain ⟨d', hj⟩ := get hj
    obtain ⟨e', hj'⟩ := get hj'
    exact h.boxNe j j' d' e' b' hne hj hj'
  · obtain ⟨v, hv, hok⟩ := h.row r R hr
    exact ⟨v, hv, hok.keep (by omega) fun b' ht => hk b' (fun e => by subst e; exact h.rowBox r R v i c b' hr hv hi hb ht)⟩
  · rcases setAt_get _ _ _ _ _ hj with ⟨rfl, rfl⟩ | ⟨hne, hj⟩
    · exact h.rowBox r R v j c b' hr hv hi hb'
    · exact h.rowBox r R v j d b' hr hv hj hb'

/-- A new row that touches nothing that is known. -/
theorem Mem.newRow (h : Mem W s ρ w) {n : Nat} (hn : ρ.σ n = none) {v : Value} {R : Row} (hok : RowOk W ρ w v R)
    (hb : ∀ i c b, s.B[i]? = some (some c) → ρ.β i = some b → ¬ R.touch v b)
    (hr : ∀ r R' v' b, s.R[r]? = some (some R') → ρ.σ r = some v' → (R.own.isSome = true ∨ R'.own.isSome = true) → R'.touch v' b → ¬ R.touch v b) :
    Mem W { s with R := setAt s.R n R } { ρ with σ := upd ρ.σ n v } w := by
  have hle := Env.le_row hn v
  have h' := h.le hle
  have gr : ∀ {r : Nat} {R' : Row} {v'}, r ≠ n → upd ρ.σ n v r = some v' → ρ.σ r = some v' := fun hr hv => by rwa [upd_ne _ _ hr] at hv
  refine ⟨h.below, h'.box, h'.boxNe, fun r R' hr' => ?_, fun r R' v' i c b hr' hv hi hb' => ?_, fun r r' R1 R2 v1 v2 b hne hr1 hr2 hv1 hv2 hown ht => ?_, h'.ghost, h'.inn⟩
  · rcases setAt_get _ _ _ _ _ hr' with ⟨rfl, rfl⟩ | ⟨hne, hr'⟩
    · exact ⟨v, upd_same _ _ _, hok.le hle⟩
    · exact h'.row r R' hr'
  · rcases setAt_get _ _ _ _ _ hr' with ⟨rfl, rfl⟩ | ⟨hne, hr'⟩
    · simp only at hv
      rw [upd_same] at hv; injection hv with hv; subst hv
      exact hb i c b hi hb'
    · exact h'.rowBox r R' v' i c b hr' hv hi hb'
  · simp only at hv1 hv2
    rcases setAt_get _ _ _ _ _ hr1 with ⟨rfl, rfl⟩ | ⟨hne1, hr1b⟩ <;> rcases setAt_get _ _ _ _ _ hr2 with ⟨rfl, rfl⟩ | ⟨hne2, hr2b⟩
    · exact absurd rfl hne
    · rw [upd_same] at hv1; injection hv1 with hv1; subst hv1
      exact fun ht2 => hr r' R2 v2 b hr2b (gr (R' := R2) hne2 hv2) (.inl hown) ht2 ht
    · rw [upd_same] at hv2; injection hv2 with hv2; subst hv2
      exact hr r R1 v1 b hr1b (gr (R' := R1) hne1 hv1) (.inr hown) ht
    · exact h.rowRow r r' R1 R2 v1 v2 b hne hr1b hr2b (gr (R' := R1) hne1 hv1) (gr (R' := R2) hne2 hv2) hown ht
/-- A new row in new memory. -/
theorem Mem.freshRow (h : Mem W s ρ w) (hk : Below w.heap.size w w') {n : Nat} (hn : ρ.σ n = none) {v : Value} {R : Row} (hok : RowOk W ρ w' v R) (hf : ∀ b, R.touch v b → w.heap.size ≤ b) :
    Mem W { s with R := setAt s.R n R } { ρ with σ := upd ρ.σ n v } w' :=
  (h.callee hk).newRow hn hok (fun i c b hi hb ht => absurd (hf b ht) (by have := h.box_lt hi hb; omega)) (fun r R' v' b hr hv _ ht' ht => absurd (hf b ht) (by have := h.row_lt hr hv ht'; omega))
end
end Go.Sx
