/- The walk: a frame and memory of which something is known go on by computation, till something is wanted. -/
import Derived.Test.YtlbldfdkicofdaaSxH
namespace Go.Sx
open Go.RowKit
set_option linter.unusedVariables false
set_option linter.unusedSimpArgs false
set_option linter.unusedSectionVars false

structure Frm (ρ : Env) (F : List SV) (a : Act) : Prop where
  defers : a.defers = []
  tmps : reps ρ F a.tmps.toList
structure Dom (s : St) (ρ : Env) : Prop where
  box : ∀ i, s.B.length ≤ i → ρ.β i = none
  row : ∀ r, s.R.length ≤ r → ρ.σ r = none
/-- Whatever frame and memory are as it is known: from here on the call ends as R says. -/
structure SG (P : Program) (f : Fr) (R : Ending → World → Prop) (W : Base) (todo : List Item) (s : St) : Prop where
  run : ∀ ρ w a, Mem W s ρ w → Frm ρ s.F a → Dom s ρ → Good P f R todo a w

theorem reps_len {ρ : Env} : ∀ {F : List SV} {vs : List Value}, reps ρ F vs → vs.length = F.length
  | [], [], _ => rfl
  | x :: xs, v :: vs, h => by simp [reps_len h.2]
  | [], v :: vs, h => h.elim
  | x :: xs, [], h => h.elim
theorem reps_get {ρ : Env} : ∀ {F : List SV} {vs : List Value} {i : Nat} {x : SV}, reps ρ F vs → F[i]? = some x → ∃ v, vs[i]? = some v ∧ x.rep ρ v
  | [], [], i, x, _, h => by simp at h
  | y :: xs, v :: vs, 0, x, h, hi => by simp at hi; subst hi; exact ⟨v, by simp, h.1⟩
  | y :: xs, v :: vs, i + 1, x, h, hi => by simp at hi; obtain ⟨u, h1, h2⟩ := reps_get h.2 hi; exact ⟨u, by simpa using h1, h2⟩
  | [], v :: vs, _, _, h, _ => h.elim
  | x :: xs, [], _, _, h, _ => h.elim
theorem reps_set {ρ : Env} : ∀ {F : List SV} {vs : List Value} (i : Nat) {x : SV} {v : Value}, reps ρ F vs → x.rep ρ v → reps ρ (F.set i x) (vs.set i v)
  | [], [], i, x, v, _, _ => trivial
  | y :: xs, u :: vs, 0, x, v, h, hx => ⟨hx, h.2⟩
  | y :: xs, u :: vs, i + 1, x, v, h, hx => ⟨h.1, reps_set i h.2 hx⟩
  | [], v :: vs, _, _, _, h, _ => h.elim
  | x :: xs, [], _, _, _, h, _ => h.elim
theorem reps_append {ρ : Env} : ∀ {F G : List SV} {vs us : List Value}, reps ρ F vs → reps ρ G us → reps ρ (F ++ G) (vs ++ us)
  | [], _, [], _, _, h => h
  | x :: xs, _, v :: vs, _, h, k => ⟨h.1, reps_append h.2 k⟩
  | [], _, v :: vs, _, h, _ => h.elim
  | x :: xs, _, [], _, h, _ => h.elim

def St.put (s : St) (dst : Option Tmp) (x : SV) : St := match dst with
  | some d => { s with F := s.F.set d x }
  | none => s
def known : Option SV → Option SV
  | some .any => none
  | x => x
theorem known_some {x : Option SV} {y : SV} (h : known x = some y) : x = some y := by
  unfold known at h
  split at h
  · cases h
  · exact h
def constOk : Value → Bool
  | .agg cs => cs.toList.all (·.oneCell')
  | .tuple _ => false
  | _ => true
def St.get (s : St) : Operand → Option SV
  | .tmp t => known s.F[t]?
  | .const v => if constOk v = true then some (constSV v) else none
  | .global _ => none
  | .func f => some (.cv (.one (.clo f [])))
def St.box (s : St) (i : Nat) : Option (List At) := match s.B[i]? with
  | some (some c) => some c
  | _ => none
def St.row (s : St) (r : Nat) : Option Row := match s.R[r]? with
  | some (some R) => some R
  | _ => none

theorem St.box_ok {s : St} {i : Nat} {c : List At} (h : s.box i = some c) : s.B[i]? = some (some c) := by
  unfold St.box at h
  split at h
  · injection h with h; subst h; assumption
  · cases h
theorem St.row_ok {s : St} {i : Nat} {c : Row} (h : s.row i = some c) : s.R[i]? = some (some c) := by
  unfold St.row at h
  split at h
  · injection h with h; subst h; assumption
  · cases h
theorem St.get_ok {s : St} {ρ : Env} {a : Act} (hf : Frm ρ s.F a) {x : Operand} {sv : SV} (h : s.get x = some sv) : sv.rep ρ (a.eval x) := by
  cases x with
  | tmp t =>
    simp only [St.get] at h
    have hF : s.F[t]? = some sv := by
      unfold known at h
      split at h
      · cases h
      · exact h
    obtain ⟨v, h1, h2⟩ := reps_get hf.tmps hF
    have : a.tmps.getD t undef = v := by simp at h1; simp [h1]
    simp only [Act.eval, this]
    exact h2
  | const v =>
    simp only [St.get] at h
    split at h
    · rename_i hok
      injection h with h; subst h
      simp only [Act.eval]
      cases v with
      | agg cs =>
        simp only [constOk, List.all_eq_true] at hok
        simp [constSV, SV.rep, Cv.den, dens_atOf hok]
      | tuple vs => cases hok
      | bool b => rfl
      | _ => rfl
    · cases h
  | global g => cases h
  | func f => injection h with h; subst h; rfl

def setRows : List (Option Row) → Nat → List Row → List (Option Row)
  | l, _, [] => l
  | l, n, R :: Rs => setRows (setAt l n R) (n + 1) Rs
structure Hd where
  res : Nat → SV
  rows : List Row
  kill : Option Nat := none
/-- The block of a row that a call is given, to do with as it likes. -/
def killBlk (ρ : Env) : Option Nat → Option Nat
  | none => none
  | some r => match ρ.σ r with
    | some (.slice (some a) _ c) => if c = 0 then none else some a.block
    | _ => none
structure RowsNew (W : Base) (ρ : Env) (w w' : World) (blk : Option Nat) (rows : List Row) (vals : List Value) : Prop where
  len : vals.length = rows.length
  ok : ∀ (k : Nat) R u, rows[k]? = some R → vals[k]? = some u → RowOk W ρ w' u R ∧ ∀ b, R.touch u b → w.heap.size ≤ b ∨ blk = some b
  apart : ∀ (k k' : Nat) R R' u u' b, k ≠ k' → rows[k]? = some R → vals[k]? = some u → rows[k']? = some R' → vals[k']? = some u' → R.own.isSome = true → R.touch u b → ¬ R'.touch u' b
/-- How a call ends: it answers, with new rows. -/
def HdPost (W : Base) (ρ : Env) (w : World) (h : Hd) (e : Ending) (w' : World) : Prop :=
  ∃ v vals, e = .returned v ∧ w.grownBy w' (killBlk ρ h.kill) ∧ RowsNew W ρ w w' (killBlk ρ h.kill) h.rows vals ∧
    ∀ n ρ', ρ.le ρ' → (∀ (k : Nat) u, vals[k]? = some u → ρ'.σ (n + k) = some u) → (h.res n).rep ρ' v
structure Callable (P : Program) (g : FuncId) : Prop where
  it : ∃ fn, P.funcs[g]? = some fn ∧ (fn.name == "runtime.NumGoroutine") = false ∧ fn.body.isNone = false
structure CallOk (P : Program) (W : Base) (B : List (Option (List At))) (Rs : List (Option Row)) (g : FuncId) (args : List SV) (h : Hd) : Prop where
  can : Callable P g
  does : ∀ s' ρ w vs, Mem W s' ρ w → (∀ (r : Nat) R, Rs[r]? = some (some R) → s'.R[r]? = some (some R)) → (∀ (i : Nat) c, B[i]? = some (some c) → s'.B[i]? = some (some c)) → (∀ r, h.kill = some r → ∃ R, s'.R[r]? = some (some R) ∧ R.own.isSome = true) → reps ρ args vs →
    Calls P g vs.toArray w (HdPost W ρ w h)

inductive Gd where
  | yes | no | ask (d : Nat) (e : Bool) | stop
def guardOf (F : List SV) (ops : List Oper) (o : Oper) : Gd := match o.guard with
  | none => .yes
  | some (j, want) => match ops[j]? with
    | some oj => match oj.dst with
      | some d => match F[d]? with
        | some (.cv (.one (.lb b))) => match b, want with
          | true, true => .yes
          | false, false => .yes
          | _, _ => .no
        | some (.cv (.one (.v (.bool e)))) => .ask d e
        | some (.tup []) => .no
        | _ => .stop
      | none => .stop
    | none => .stop
def argsOf (get : Operand → Option SV) : List Operand → Option (List SV)
  | [] => some []
  | x :: l => match get x, argsOf get l with
    | some sv, some svs => some (sv :: svs)
    | _, _ => none
def callOf (get : Operand → Option SV) : Op → Option (FuncId × List SV)
  | .call c => match c.callee with
    | .value f => match get f, argsOf get c.args.toList with
      | some (.cv (.one (.clo g caps))), some args => some (g, args ++ caps.map fun p => .cv (.one (.pt p)))
      | some (.cv (.one (.clb g a l))), some args => match bCv a l with
        | some c => some (g, .cv c :: args)
        | none => none
      | _, _ => none
    | _ => none
  | _ => none

/-! The end of a walk: all is written out. -/
def fNat (n : Nat) (k : Nat → Prop) : Prop := match n with
  | 0 => k 0 | 1 => k 1 | 2 => k 2 | 3 => k 3 | 4 => k 4 | 5 => k 5 | 6 => k 6 | 7 => k 7 | 8 => k 8 | 9 => k 9 | 10 => k 10 | 11 => k 11 | 12 => k 12 | 13 => k 13 | 14 => k 14 | 15 => k 15 | 16 => k 16 | 17 => k 17 | 18 => k 18 | 19 => k 19 | 20 => k 20
  | n => k n
theorem fNat_eq (n : Nat) (k : Nat → Prop) : fNat n k = k n := by unfold fNat; split <;> rfl
def fPt (p : Pt) (k : Pt → Prop) : Prop := match p with
  | .bp i off => fNat i fun i => fNat off fun off => k (.bp i off)
  | .rp r i sz off => fNat r fun r => fNat sz fun sz => fNat off fun off => k (.rp r i sz off)
  | .ba i off n len => fNat i fun i => fNat off fun off => fNat len fun len => k (.ba i off n len)
  | .op c sz len cells i off => fNat sz fun sz => fNat off fun off => k (.op c sz len cells i off)
def fPts : List Pt → (List Pt → Prop) → Prop
  | [], k => k []
  | p :: l, k => fPt p fun p => fPts l fun l => k (p :: l)
def fBAts : List BAt → (List BAt → Prop) → Prop
  | [], k => k []
  | x :: l, k => match x with
    | .v x => fBAts l fun l => k (.v x :: l)
    | .lb b => fBAts l fun l => k (.lb b :: l)
    | .rs r => fNat r fun r => fBAts l fun l => k (.rs r :: l)
theorem fBAts_eq : ∀ (l : List BAt) (k : List BAt → Prop), fBAts l k = k l
  | [], k => rfl
  | .v x :: l, k => by simp only [fBAts, fBAts_eq l]
  | .lb x :: l, k => by simp only [fBAts, fBAts_eq l]
  | .rs x :: l, k => by simp only [fBAts, fBAts_eq l, fNat_eq]
def fAt (x : At) (k : At → Prop) : Prop := match x with
  | .v x => k (.v x)
  | .lb b => k (.lb b)
  | .pt p => fPt p fun p => k (.pt p)
  | .rs r => fNat r fun r => k (.rs r)
  | .clo f c => fPts c fun c => k (.clo f c)
  | .clb f a l => match a with
    | true => fBAts l fun l => k (.clb f true l)
    | false => fBAts l fun l => k (.clb f false l)
  | .ro c sz len cells => fNat sz fun sz => k (.ro c sz len cells)
def fAts : List At → (List At → Prop) → Prop
  | [], k => k []
  | p :: l, k => fAt p fun p => fAts l fun l => k (p :: l)
def fCv (x : Cv) (k : Cv → Prop) : Prop := match x with
  | .one x => fAt x fun x => k (.one x)
  | .agg l => fAts l fun l => k (.agg l)
def fCvs : List Cv → (List Cv → Prop) → Prop
  | [], k => k []
  | p :: l, k => fCv p fun p => fCvs l fun l => k (p :: l)
def fSV (x : SV) (k : SV → Prop) : Prop := match x with
  | .any => k .any
  | .cv c => fCv c fun c => k (.cv c)
  | .tup l => fCvs l fun l => k (.tup l)
def fSVs : List SV → (List SV → Prop) → Prop
  | [], k => k []
  | p :: l, k => fSV p fun p => fSVs l fun l => k (p :: l)
def fBs : List (Option (List At)) → (List (Option (List At)) → Prop) → Prop
  | [], k => k []
  | none :: l, k => fBs l fun l => k (none :: l)
  | some c :: l, k => fAts c fun c => fBs l fun l => k (some c :: l)
def fRs : List (Option Row) → (List (Option Row) → Prop) → Prop
  | [], k => k []
  | none :: l, k => fRs l fun l => k (none :: l)
  | some ⟨a, b, c, d, e, g⟩ :: l, k => fRs l fun l => k (some ⟨a, b, c, d, e, g⟩ :: l)
def fSt (s : St) (k : St → Prop) : Prop := fSVs s.F fun F => fBs s.B fun B => fRs s.R fun R => fSVs s.G fun G => k ⟨F, B, R, G⟩

def fConj : List Prop → (Prop → Prop) → Prop
  | [], k => k True
  | [p], k => k p
  | p :: q :: l, k => fConj (q :: l) fun r => k (p ∧ r)
def conj : List Prop → Prop
  | [] => True
  | [p] => p
  | p :: q :: l => p ∧ conj (q :: l)
theorem fConj_eq : ∀ (l : List Prop) (k : Prop → Prop), fConj l k = k (conj l)
  | [], k => rfl
  | [p], k => rfl
  | p :: q :: l, k => by simp only [fConj, fConj_eq (q :: l), conj]
theorem conj_cons {p : Prop} {l : List Prop} (h : conj (p :: l)) : p ∧ conj l := by
  cases l with
  | nil => exact ⟨h, trivial⟩
  | cons q l => exact h
def more (acc : List Prop) : Option Prop → List Prop
  | some p => p :: acc
  | none => acc
theorem conj_more {acc : List Prop} {o : Option Prop} (h : conj (more acc o)) : holds o ∧ conj acc := by
  cases o with
  | none => exact ⟨trivial, h⟩
  | some p => exact conj_cons h
theorem fPt_eq (p : Pt) (k : Pt → Prop) : fPt p k = k p := by cases p <;> simp only [fPt, fNat_eq]
theorem fPts_eq : ∀ (l : List Pt) (k : List Pt → Prop), fPts l k = k l
  | [], k => rfl
  | p :: l, k => by simp only [fPts, fPt_eq, fPts_eq l]
theorem fAt_eq (p : At) (k : At → Prop) : fAt p k = k p := by
  cases p with
  | clb f a l => cases a <;> simp only [fAt, fBAts_eq]
  | _ => simp only [fAt, fPt_eq, fPts_eq, fNat_eq]
theorem fAts_eq : ∀ (l : List At) (k : List At → Prop), fAts l k = k l
  | [], k => rfl
  | p :: l, k => by simp only [fAts, fAt_eq, fAts_eq l]
theorem fCv_eq (p : Cv) (k : Cv → Prop) : fCv p k = k p := by cases p <;> simp only [fCv, fAt_eq, fAts_eq]
theorem fCvs_eq : ∀ (l : List Cv) (k : List Cv → Prop), fCvs l k = k l
  | [], k => rfl
  | p :: l, k => by simp only [fCvs, fCv_eq, fCvs_eq l]
theorem fSV_eq (p : SV) (k : SV → Prop) : fSV p k = k p := by cases p <;> simp only [fSV, fCv_eq, fCvs_eq]
theorem fSVs_eq : ∀ (l : List SV) (k : List SV → Prop), fSVs l k = k l
  | [], k => rfl
  | p :: l, k => by simp only [fSVs, fSV_eq, fSVs_eq l]
theorem fBs_eq : ∀ (l : List (Option (List At))) (k : List (Option (List At)) → Prop), fBs l k = k l
  | [], k => rfl
  | none :: l, k => by simp only [fBs, fBs_eq l]
  | some c :: l, k => by simp only [fBs, fAts_eq, fBs_eq l]
theorem fRs_eq : ∀ (l : List (Option Row)) (k : List (Option Row) → Prop), fRs l k = k l
  | [], k => rfl
  | none :: l, k => by simp only [fRs, fRs_eq l]
  | some ⟨a, b, c, d, e, g⟩ :: l, k => by simp only [fRs, fRs_eq l]
theorem fSt_eq (s : St) (k : St → Prop) : fSt s k = k s := by
  unfold fSt
  simp only [fSVs_eq, fBs_eq, fRs_eq]

def fSet : List SV → Nat → SV → (List SV → Prop) → Prop
  | [], _, _, k => k []
  | _ :: l, 0, x, k => k (x :: l)
  | y :: l, d + 1, x, k => fSet l d x fun l => k (y :: l)
theorem fSet_eq : ∀ (l : List SV) (d : Nat) (x : SV) (k : List SV → Prop), fSet l d x k = k (l.set d x)
  | [], _, _, k => rfl
  | _ :: l, 0, x, k => rfl
  | y :: l, d + 1, x, k => by simp only [fSet, fSet_eq l, List.set_cons_succ]
def fPut (s : St) (dst : Option Tmp) (x : SV) (k : St → Prop) : Prop := match dst with
  | some d => fSV x fun x => fSet s.F d x fun F => k ⟨F, s.B, s.R, s.G⟩
  | none => k s
theorem fPut_eq (s : St) (dst : Option Tmp) (x : SV) (k : St → Prop) : fPut s dst x k = k (s.put dst x) := by
  cases dst with
  | none => rfl
  | some d => simp only [fPut, fSV_eq, fSet_eq, St.put]
def fMem (F : List SV) (B : List (Option (List At))) (Rs : List (Option Row)) (G : List SV) (k : St → Prop) : Prop := fBs B fun B => fRs Rs fun Rs => k ⟨F, B, Rs, G⟩
theorem fMem_eq (F : List SV) (B : List (Option (List At))) (Rs : List (Option Row)) (G : List SV) (k : St → Prop) : fMem F B Rs G k = k ⟨F, B, Rs, G⟩ := by
  simp only [fMem, fBs_eq, fRs_eq]
def fEff (s : St) (nb nr : Nat) (ev : Ev) (k : St → Prop) : Prop := match ev with
  | .val sv ob => k (s.eff nb nr (.val sv ob))
  | ev => fMem s.F (s.eff nb nr ev).B (s.eff nb nr ev).R s.G k
theorem eff_sF (s : St) (nb nr : Nat) (ev : Ev) : (s.eff nb nr ev).F = s.F := by
  unfold St.eff
  repeat' split
  all_goals rfl
theorem eff_sG (s : St) (nb nr : Nat) (ev : Ev) : (s.eff nb nr ev).G = s.G := by
  unfold St.eff
  repeat' split
  all_goals rfl
theorem fEff_eq (s : St) (nb nr : Nat) (ev : Ev) (k : St → Prop) : fEff s nb nr ev k = k (s.eff nb nr ev) := by
  have h := eff_sF s nb nr ev
  have h2 := eff_sG s nb nr ev
  unfold fEff
  split
  · rfl
  · rw [fMem_eq]
    congr 1
    cases hh : s.eff nb nr ev with
    | mk F B Rs G => rw [hh] at h h2; simp only at h h2; subst h h2; rfl

/-! ### Regions whose order is drawn -/
structure Rec where
  dst : Option Tmp
  sv : SV
  anc : List Bool
  reads : List Tmp
  nb : Nat
  box : Option (List At)
  nr : Nat
  rows : List Row
  kill : Option Nat
def bit (l : List Bool) (j : Nat) : Bool := match l[j]? with
  | some b => b
  | none => false
def orL : List Bool → List Bool → List Bool
  | [], m => m
  | a :: l, [] => a :: l
  | a :: l, b :: m => (a || b) :: orL l m
def oneL : Nat → List Bool
  | 0 => [true]
  | n + 1 => false :: oneL n
def ancOf (recs : List Rec) : List Edge → List Bool
  | [] => []
  | e :: es => match Region.binds .any e with
    | true => match recs[e.on]? with
      | some r => orL (orL (oneL e.on) r.anc) (ancOf recs es)
      | none => ancOf recs es
    | false => ancOf recs es
def tmpsIn : List Operand → List Tmp
  | [] => []
  | .tmp t :: l => t :: tmpsIn l
  | _ :: l => tmpsIn l
def guardTmp (os : List Oper) (o : Oper) : List Tmp := match o.guard with
  | some (j, _) => match os[j]? with
    | some oj => match oj.dst with
      | some d => [d]
      | none => []
    | none => []
  | none => []
def readsOf (os : List Oper) (o : Oper) : List Tmp := guardTmp os o ++ tmpsIn o.op.operands.toList
def writer (t : Tmp) : List Rec → Nat → Option (Nat × SV)
  | [], _ => none
  | r :: l, j => match r.dst with
    | some d => if d = t then some (j, r.sv) else writer t l (j + 1)
    | none => writer t l (j + 1)
def getR (F : List SV) (recs : List Rec) (anc : List Bool) (reads : List Tmp) : Operand → Option SV
  | .tmp t => match reads.contains t with
    | true => match writer t recs 0 with
      | some (j, sv) => match bit anc j with
        | true => known (some sv)
        | false => none
      | none => known F[t]?
    | false => none
  | .const v => if constOk v = true then some (constSV v) else none
  | .global _ => none
  | .func f => some (.cv (.one (.clo f [])))
/-- Nobody else writes this slot; who reads it is ahead. -/
def aloneR (d : Tmp) (anc : List Bool) : List Rec → Nat → Bool
  | [], _ => true
  | r :: l, j => (match r.dst with
    | some d' => d' != d
    | none => true) && (!(r.reads.contains d) || bit anc j) && aloneR d anc l (j + 1)
def dstOk (n : Nat) (dst : Option Tmp) (anc : List Bool) (recs : List Rec) : Bool := match dst with
  | some d => decide (d < n) && aloneR d anc recs 0
  | none => true
def smallB (anc : List Bool) : List Rec → Nat → List (Option (List At)) → List (Option (List At))
  | [], _, B => B
  | r :: l, j, B => smallB anc l (j + 1) (match bit anc j with
    | true => match r.box with
      | some c => setAt B r.nb c
      | none => B
    | false => match r.box with
      | some _ => unset B r.nb
      | none => B)
def smallR (anc : List Bool) : List Rec → Nat → List (Option Row) → List (Option Row)
  | [], _, Rs => Rs
  | r :: l, j, Rs => smallR anc l (j + 1) (match bit anc j with
    | true => setRows Rs r.nr r.rows
    | false => Rs)
def lookB (B : List (Option (List At))) (i : Nat) : Option (List At) := match B[i]? with
  | some (some c) => some c
  | _ => none
def lookR (Rs : List (Option Row)) (r : Nat) : Option Row := match Rs[r]? with
  | some (some R) => some R
  | _ => none
def guardR (os : List Oper) (get : Operand → Option SV) (o : Oper) : Gd := match o.guard with
  | none => .yes
  | some (j, want) => match os[j]? with
    | some oj => match oj.dst with
      | some d => match get (.tmp d) with
        | some (.cv (.one (.lb b))) => match b, want with
          | true, true => .yes
          | false, false => .yes
          | _, _ => .no
        | some (.tup []) => .no
        | _ => .stop
      | none => .stop
    | none => .stop
/-- Does a later operation hang on this one's Bool? -/
def asked (os : List Oper) (j : Nat) : Bool := match os with
  | [] => false
  | o :: l => (match o.guard with
    | some (i, _) => decide (i = j)
    | none => false) || asked l j
def askOf (os : List Oper) (j : Nat) (sv : SV) : Option Bool := match sv with
  | .cv (.one (.v (.bool e))) => match asked os j with
    | true => some e
    | false => none
  | _ => none
def fBools : List Bool → (List Bool → Prop) → Prop
  | [], k => k []
  | b :: l, k => match b with
    | true => fBools l fun l => k (true :: l)
    | false => fBools l fun l => k (false :: l)
theorem fBools_eq : ∀ (l : List Bool) (k : List Bool → Prop), fBools l k = k l
  | [], k => rfl
  | true :: l, k => by simp only [fBools, fBools_eq l]
  | false :: l, k => by simp only [fBools, fBools_eq l]
def allBits (l : List Bool) : Nat → Bool
  | 0 => true
  | n + 1 => bit l n && allBits l n
def fNats : List Nat → (List Nat → Prop) → Prop
  | [], k => k []
  | p :: l, k => fNat p fun p => fNats l fun l => k (p :: l)
theorem fNats_eq : ∀ (l : List Nat) (k : List Nat → Prop), fNats l k = k l
  | [], k => rfl
  | p :: l, k => by simp only [fNats, fNat_eq, fNats_eq l]
def fSnoc : List Rec → Rec → (List Rec → Prop) → Prop
  | [], ⟨d, sv, anc, reads, nb, box, nr, rows, kill⟩, k => fSV sv fun sv => fNats reads fun reads => k [⟨d, sv, anc, reads, nb, box, nr, rows, kill⟩]
  | r :: l, x, k => fSnoc l x fun l => k (r :: l)
theorem fSnoc_eq : ∀ (l : List Rec) (x : Rec) (k : List Rec → Prop), fSnoc l x k = k (l ++ [x])
  | [], ⟨d, sv, anc, reads, nb, box, nr, rows, kill⟩, k => by simp only [fSnoc, fSV_eq, fNats_eq, List.nil_append]
  | r :: l, x, k => by simp only [fSnoc, fSnoc_eq l, List.cons_append]
/-- Each is behind the one ahead of it. -/
def tailOk : List Oper → Nat → Bool
  | [], _ => true
  | o :: l, i => (o.after.toList.any fun e => Region.binds .any e && e.on + 1 == i) && tailOk l (i + 1)
theorem tailOk_get : ∀ {l : List Oper} {n j : Nat} {o : Oper}, tailOk l n = true → l[j]? = some o → ∃ e ∈ o.after.toList, Region.binds .any e = true ∧ e.on + 1 = n + j
  | [], n, j, o, _, hj => by simp at hj
  | x :: l, n, 0, o, h, hj => by
    simp at hj; subst hj
    simp only [tailOk, Bool.and_eq_true, List.any_eq_true, beq_iff_eq] at h
    obtain ⟨⟨e, h1, h2, h3⟩, _⟩ := h
    exact ⟨e, h1, h2, by omega⟩
  | x :: l, n, j + 1, o, h, hj => by
    simp only [tailOk, Bool.and_eq_true] at h
    obtain ⟨e, h1, h2, h3⟩ := tailOk_get h.2 (by simpa using hj)
    exact ⟨e, h1, h2, by omega⟩
/-- One box, and no other. -/
def onlyB (B0 : List (Option (List At))) (k : Nat) (i : Nat) : Option (List At) := match Nat.beq i k with
  | true => lookB B0 i
  | false => none
def freeB (k : Nat) : List Rec → Bool
  | [] => true
  | r :: l => (match r.box with
    | some _ => !(Nat.beq r.nb k)
    | none => true) && freeB k l
def noneB (B : List (Option (List At))) (k : Nat) : Bool := match lookB B k with
  | some _ => false
  | none => true
/-- May a store into this box stand anywhere: nobody else sees it? -/
def hotOk (B0 B : List (Option (List At))) (k kk : Nat) (recs : List Rec) : Bool := Nat.beq k kk && (Nat.blt k B.length && (freeB k recs && (noneB B k && !(noneB B0 k))))
def makerB (k : Nat) : List Rec → Nat → Option Nat
  | [], _ => none
  | r :: l, j => match r.box with
    | some _ => match Nat.beq r.nb k with
      | true => match freeB k l with
        | true => some j
        | false => none
      | false => makerB k l (j + 1)
    | none => makerB k l (j + 1)
/-- Rows that somebody has been given. -/
def killAll : List Rec → List (Option Row) → List (Option Row)
  | [], Rs => Rs
  | r :: l, Rs => killAll l (match r.kill with
    | some q => unset Rs q
    | none => Rs)
def smallK (anc : List Bool) (recs : List Rec) (Rs : List (Option Row)) : List (Option Row) := killAll recs (smallR anc recs 0 Rs)
def freeK (q : Nat) : List Rec → Bool
  | [] => true
  | r :: l => (match r.kill with
    | some q' => !(Nat.beq q' q)
    | none => true) && freeK q l
def maker (q : Nat) : List Rec → Nat → Option Nat
  | [], _ => none
  | r :: l, j => match Nat.ble r.nr q && Nat.blt q (r.nr + r.rows.length) with
    | true => some j
    | false => maker q l (j + 1)
/-- Who is behind the maker is ahead of this one. -/
def usersOk (p : Nat) (anc : List Bool) : List Rec → Nat → Bool
  | [], _ => true
  | r :: l, j => (!(bit r.anc p) || bit anc j) && usersOk p anc l (j + 1)
/-- May a row that was made within the region be given away? -/
def giveOk (n q : Nat) (anc : List Bool) (recs : List Rec) : Bool := Nat.ble n q && (freeK q recs && (match maker q recs 0 with
  | some p => bit anc p && usersOk p anc recs 0
  | none => false))
/-- May a box that was made within the region be written? -/
def putOk (n k : Nat) (anc : List Bool) (recs : List Rec) : Bool := Nat.ble n k && (match makerB k recs 0 with
  | some p => bit anc p && usersOk p anc recs 0
  | none => false)
def withR (R0 : List (Option Row)) (k : Nat) (Rs : List (Option Row)) (i : Nat) : Option Row := match Nat.beq i k with
  | true => lookR R0 i
  | false => lookR Rs i
def noneR (B : List (Option Row)) (k : Nat) : Bool := match lookR B k with
  | some _ => false
  | none => true
def hotROk (R0 Rs : List (Option Row)) (k kk : Nat) (recs : List Rec) : Bool := Nat.beq k kk && (Nat.blt k Rs.length && (freeK k recs && (noneR Rs k && !(noneR R0 k))))
def firstRow (get : Operand → Option SV) : List Operand → Option Nat
  | x :: _ => match get x with
    | some (.cv (.one (.rs r))) => some r
    | _ => none
  | [] => none
def drw (P : Program) (W : Base) (T : Tab) (s : St) (B0 : List (Option (List At))) (R0 : List (Option Row)) (os : List Oper) (stopP : Prop) : List Oper → List Rec → Nat → Nat → Nat → List Bool → List Hd → List Prop → (List Rec → List Bool → List Hd → List Prop → Prop) → Prop
  | [], recs, _, _, _, orc, hs, acc, K => K recs orc hs acc
  | o :: rest, recs, i, nb, nr, orc, hs, acc, K =>
    fBools (ancOf recs o.after.toList) fun anc =>
    let reads := readsOf os o
    let get := getR s.F recs anc reads
    match dstOk s.F.length o.dst anc recs with
    | false => stopP
    | true => match guardR os get o with
      | .no => fSnoc recs ⟨o.dst, .tup [], anc, reads, nb, none, nr, [], none⟩ fun recs => drw P W T s B0 R0 os stopP rest recs (i + 1) nb nr orc hs acc K
      | .yes => match evalOp T get (lookB (smallB anc recs 0 s.B)) (lookR (smallK anc recs s.R)) o.op with
        | some (.val sv ob) => fSV sv fun sv => match askOf os i sv with
          | some e => match orc with
            | ans :: orc => fSnoc recs ⟨o.dst, .cv (.one (.lb ans)), anc, reads, nb, none, nr, [], none⟩ fun recs => drw P W T s B0 R0 os stopP rest recs (i + 1) nb nr orc hs ((e = ans) :: more acc ob) K
            | [] => stopP
          | none => fSnoc recs ⟨o.dst, sv, anc, reads, nb, none, nr, [], none⟩ fun recs => drw P W T s B0 R0 os stopP rest recs (i + 1) nb nr orc hs (more acc ob) K
        | some (.box c) => fAts c fun c => fNat (nb + 1) fun nb' => fSnoc recs ⟨o.dst, .cv (.one (.pt (.bp nb 0))), anc, reads, nb, some c, nr, [], none⟩ fun recs => drw P W T s B0 R0 os stopP rest recs (i + 1) nb' nr orc hs acc K
        | some (.row R ob) => fNat (nr + 1) fun nr' => fSnoc recs ⟨o.dst, .cv (.one (.rs nr)), anc, reads, nb, none, nr, [R], none⟩ fun recs => drw P W T s B0 R0 os stopP rest recs (i + 1) nb nr' orc hs (more acc ob) K
        | some (.sub q R ob) => match lookR (smallK anc recs s.R) q with
          | some Q => match Q.own with
            | none => fNat (nr + 1) fun nr' => fSnoc recs ⟨o.dst, .cv (.one (.rs nr)), anc, reads, nb, none, nr, [R], none⟩ fun recs => drw P W T s B0 R0 os stopP rest recs (i + 1) nb nr' orc hs (more acc ob) K
            | some _ => stopP
          | none => stopP
        | some (.app none R ob) => fNat (nr + 1) fun nr' => fSnoc recs ⟨o.dst, .cv (.one (.rs nr)), anc, reads, nb, none, nr, [R], none⟩ fun recs => drw P W T s B0 R0 os stopP rest recs (i + 1) nb nr' orc hs (more acc ob) K
        | some (.app (some q) R ob) => match allBits anc i && tailOk rest (i + 1) with
          | true => K recs orc hs acc
          | false => match giveOk s.R.length q anc recs with
            | true => fNat q fun q => fNat (nr + 1) fun nr' => fSnoc recs ⟨o.dst, .cv (.one (.rs nr)), anc, reads, nb, none, nr, [R], some q⟩ fun recs => drw P W T s B0 R0 os stopP rest recs (i + 1) nb nr' orc hs (more acc ob) K
            | false => stopP
        | some (.put k c) => match allBits anc i && tailOk rest (i + 1) with
          | true => K recs orc hs acc
          | false => match putOk s.B.length k anc recs with
            | true => fNat k fun k => fAts c fun c => fSnoc recs ⟨o.dst, .tup [], anc, reads, k, some c, nr, [], none⟩ fun recs => drw P W T s B0 R0 os stopP rest recs (i + 1) nb nr orc hs acc K
            | false => stopP
        | some _ => match allBits anc i && tailOk rest (i + 1) with
          | true => K recs orc hs acc
          | false => stopP
        | none => match callOf get o.op with
          | some (g, args) => match hs with
            | ⟨res, rows, none⟩ :: hs => fBs (smallB anc recs 0 s.B) fun B' => fRs (smallK anc recs s.R) fun R' => fSVs args fun args => fNat (nr + rows.length) fun nr' => fSnoc recs ⟨o.dst, res nr, anc, reads, nb, none, nr, rows, none⟩ fun recs => drw P W T s B0 R0 os stopP rest recs (i + 1) nb nr' orc hs (CallOk P W B' R' g args ⟨res, rows, none⟩ :: acc) K
            | _ => match allBits anc i && tailOk rest (i + 1) with
              | true => K recs orc hs acc
              | false => stopP
          | none => match o.op with
            | .store _ a _ => match get a with
              | some (.cv (.one (.pt (.bp kk _)))) => match evalOp T get (onlyB B0 kk) (lookR (smallK anc recs s.R)) o.op with
                | some (.put k c) => match hotOk B0 s.B k kk recs with
                  | true => fNat k fun k => fAts c fun c => fSnoc recs ⟨o.dst, .tup [], anc, reads, k, some c, nr, [], none⟩ fun recs => drw P W T s B0 R0 os stopP rest recs (i + 1) nb nr orc hs acc K
                  | false => stopP
                | _ => stopP
              | _ => stopP
            | .call c => match firstRow get c.args.toList with
              | some kk => match evalOp T get (lookB (smallB anc recs 0 s.B)) (withR R0 kk (smallK anc recs s.R)) o.op with
                | some (.app (some q) R ob) => match hotROk R0 s.R q kk recs with
                  | true => fNat q fun q => fNat (nr + 1) fun nr' => fSnoc recs ⟨o.dst, .cv (.one (.rs nr)), anc, reads, nb, none, nr, [R], some q⟩ fun recs => drw P W T s B0 R0 os stopP rest recs (i + 1) nb nr' orc hs (more acc ob) K
                  | false => stopP
                | _ => stopP
              | none => stopP
            | _ => stopP
      | _ => stopP
/-- Boxes into which an operation stores that isn't behind all those ahead of it in the row. -/
def hotGo (F : List SV) : List Oper → List Rec → Nat → List Nat → (List Nat → Prop) → Prop
  | [], _, _, acc, K => K acc
  | o :: rest, recs, i, acc, K => fBools (ancOf recs o.after.toList) fun anc => fSnoc recs ⟨none, .any, anc, [], 0, none, 0, [], none⟩ fun recs => match o.op with
    | .store _ (.tmp t) _ => match F[t]? with
      | some (.cv (.one (.pt (.bp k _)))) => match allBits anc i && tailOk rest (i + 1) with
        | true => hotGo F rest recs (i + 1) acc K
        | false => fNat k fun k => hotGo F rest recs (i + 1) (k :: acc) K
      | _ => hotGo F rest recs (i + 1) acc K
    | _ => hotGo F rest recs (i + 1) acc K
theorem hotGo_some {F : List SV} {K : List Nat → Prop} : ∀ (l : List Oper) (recs : List Rec) (i : Nat) (acc : List Nat), hotGo F l recs i acc K → ∃ hot, K hot
  | [], recs, i, acc, h => ⟨acc, h⟩
  | o :: rest, recs, i, acc, h => by
    simp only [hotGo] at h
    rw [fBools_eq, fSnoc_eq] at h
    split at h
    · split at h
      · split at h
        · exact hotGo_some rest _ _ _ h
        · rw [fNat_eq] at h; exact hotGo_some rest _ _ _ h
      · exact hotGo_some rest _ _ _ h
    · exact hotGo_some rest _ _ _ h
/-- The slot from which a slot's value is moved. -/
def srcTmp : List Oper → Tmp → Tmp
  | [], t => t
  | o :: l, t => match o.dst with
    | some d => match Nat.beq d t with
      | true => match o.op with
        | .move (.tmp u) => u
        | _ => t
      | false => srcTmp l t
    | none => srcTmp l t
def srcRow (F : List SV) (Rs : List (Option Row)) (all : List Oper) : List Operand → Option Nat
  | .tmp t :: _ => match F[srcTmp all t]? with
    | some (.cv (.one (.rs r))) => match lookR Rs r with
      | some ⟨_, _, _, some _, _, _⟩ => some r
      | _ => none
    | _ => none
  | _ => none
/-- Rows onto which an operation appends that isn't behind all those ahead of it in the row. -/
def hotRGo (F : List SV) (Rs : List (Option Row)) (all : List Oper) : List Oper → List Rec → Nat → List Nat → (List Nat → Prop) → Prop
  | [], _, _, acc, K => K acc
  | o :: rest, recs, i, acc, K => fBools (ancOf recs o.after.toList) fun anc => fSnoc recs ⟨none, .any, anc, [], 0, none, 0, [], none⟩ fun recs => match o.op with
    | .call c => match c.callee with
      | .builtin .append => match srcRow F Rs all c.args.toList with
        | some q => match allBits anc i && tailOk rest (i + 1) with
          | true => hotRGo F Rs all rest recs (i + 1) acc K
          | false => fNat q fun q => hotRGo F Rs all rest recs (i + 1) (q :: acc) K
        | none => hotRGo F Rs all rest recs (i + 1) acc K
      | _ => hotRGo F Rs all rest recs (i + 1) acc K
    | _ => hotRGo F Rs all rest recs (i + 1) acc K
theorem hotRGo_some {F : List SV} {Rs : List (Option Row)} {all : List Oper} {K : List Nat → Prop} : ∀ (l : List Oper) (recs : List Rec) (i : Nat) (acc : List Nat), hotRGo F Rs all l recs i acc K → ∃ hot, K hot
  | [], recs, i, acc, h => ⟨acc, h⟩
  | o :: rest, recs, i, acc, h => by
    simp only [hotRGo] at h
    rw [fBools_eq, fSnoc_eq] at h
    split at h
    · split at h
      · split at h
        · split at h
          · exact hotRGo_some rest _ _ _ h
          · rw [fNat_eq] at h; exact hotRGo_some rest _ _ _ h
        · exact hotRGo_some rest _ _ _ h
      · exact hotRGo_some rest _ _ _ h
    · exact hotRGo_some rest _ _ _ h
def maskR : List Nat → List (Option Row) → List (Option Row)
  | [], B => B
  | k :: l, B => maskR l (unset B k)
def maskB : List Nat → List (Option (List At)) → List (Option (List At))
  | [], B => B
  | k :: l, B => maskB l (unset B k)
def finF : List Rec → List SV → List SV
  | [], F => F
  | r :: l, F => finF l (match r.dst with
    | some d => F.set d r.sv
    | none => F)
def finB : List Rec → List (Option (List At)) → List (Option (List At))
  | [], B => B
  | r :: l, B => finB l (match r.box with
    | some c => setAt B r.nb c
    | none => B)
def finR : List Rec → List (Option Row) → List (Option Row)
  | [], Rs => Rs
  | r :: l, Rs => finR l (setRows Rs r.nr r.rows)
def fFinF : List Rec → List SV → (List SV → Prop) → Prop
  | [], F, k => k F
  | r :: l, F, k => match r.dst with
    | some d => fSet F d r.sv fun F => fFinF l F k
    | none => fFinF l F k
theorem fFinF_eq : ∀ (l : List Rec) (F : List SV) (k : List SV → Prop), fFinF l F k = k (finF l F)
  | [], F, k => rfl
  | ⟨some d, _, _, _, _, _, _, _, _⟩ :: l, F, k => by simp only [fFinF, fSet_eq, fFinF_eq l, finF]
  | ⟨none, _, _, _, _, _, _, _, _⟩ :: l, F, k => by simp only [fFinF, fFinF_eq l, finF]
def fFinB : List Rec → List (Option (List At)) → (List (Option (List At)) → Prop) → Prop
  | [], F, k => k F
  | r :: l, F, k => match r.box with
    | some c => fBs (setAt F r.nb c) fun F => fFinB l F k
    | none => fFinB l F k
theorem fFinB_eq : ∀ (l : List Rec) (F : List (Option (List At))) (k : List (Option (List At)) → Prop), fFinB l F k = k (finB l F)
  | [], F, k => rfl
  | ⟨_, _, _, _, _, some d, _, _, _⟩ :: l, F, k => by simp only [fFinB, fBs_eq, fFinB_eq l, finB]
  | ⟨_, _, _, _, _, none, _, _, _⟩ :: l, F, k => by simp only [fFinB, fFinB_eq l, finB]
def fFinR : List Rec → List (Option Row) → (List (Option Row) → Prop) → Prop
  | [], F, k => k F
  | r :: l, F, k => match r.rows with
    | [] => fFinR l F k
    | R :: Rs => fRs (setRows F r.nr (R :: Rs)) fun F => fFinR l F k
theorem fFinR_eq : ∀ (l : List Rec) (F : List (Option Row)) (k : List (Option Row) → Prop), fFinR l F k = k (finR l F)
  | [], F, k => rfl
  | ⟨_, _, _, _, _, _, _, [], _⟩ :: l, F, k => by simp only [fFinR, fFinR_eq l, finR, setRows]
  | ⟨_, _, _, _, _, _, _, R :: Rs, _⟩ :: l, F, k => by simp only [fFinR, fRs_eq, fFinR_eq l, finR]
def lastIx (m n : Nat) : List Nat := List.range' m (n - m)
def lastL : List Oper → List Rec → Nat → List Nat
  | [], _, _ => []
  | _ :: os, [], n => n :: lastL os [] (n + 1)
  | _ :: os, _ :: rs, n => lastL os rs (n + 1)
theorem lastL_eq : ∀ (os : List Oper) (rs : List Rec) (n : Nat), lastL os rs n = List.range' (n + rs.length) (os.length - rs.length)
  | [], rs, n => by simp [lastL]
  | _ :: os, [], n => by simp [lastL, lastL_eq os [] (n + 1), List.range'_succ]
  | _ :: os, _ :: rs, n => by
    simp only [lastL, lastL_eq os rs (n + 1), List.length_cons]
    congr 1 <;> omega
theorem lastL_ix {os : List Oper} {rs : List Rec} : lastL os rs 0 = lastIx rs.length os.length := by
  rw [lastL_eq os rs 0, lastIx, Nat.zero_add]
def edgesOk : List Oper → Nat → Bool
  | [], _ => true
  | o :: l, i => (o.after.toList.all fun e => !Region.binds .any e || decide (e.on < i)) && edgesOk l (i + 1)

section
variable (P : Program) (f : Fr) (R : Ending → World → Prop) (W : Base) (T : Tab)
def fin (todo : List Item) (s : St) (acc : List Prop) : Prop := fSt s fun s => fConj acc fun acc => acc ∧ SG P f R W todo s
def vc : Nat → List Bool → List Hd → List Item → St → List Prop → Prop
  | 0, _, _, todo, s, acc => fin P f R W todo s acc
  | n + 1, orc, hs, todo, s, acc => match todo with
    | .code (.seq a b) :: k => vc n orc hs (.code a :: .code b :: k) s acc
    | .code .skip :: k => vc n orc hs k s acc
    | .code (.label _) :: k => vc n orc hs k s acc
    | .inBlock _ :: k => vc n orc hs k s acc
    | .inScope _ :: k => vc n orc hs k s acc
    | .code (.block l c) :: k => vc n orc hs (.code c :: .inBlock l :: k) s acc
    | .code (.scope c) :: k => vc n orc hs (.code c :: .inScope c :: k) s acc
    | .code (.exit l) :: k => match exitTo l k with
      | some k' => vc n orc hs k' s acc
      | none => fin P f R W todo s acc
    | .code (.cond c x y) :: k => match s.get c with
      | some (.cv (.one (.lb b))) => match b with
        | true => vc n orc hs (.code x :: k) s acc
        | false => vc n orc hs (.code y :: k) s acc
      | some (.cv (.one (.v (.bool e)))) => match orc with
        | true :: orc => vc n orc hs (.code x :: k) s ((e = true) :: acc)
        | false :: orc => vc n orc hs (.code y :: k) s ((e = false) :: acc)
        | [] => fin P f R W todo s acc
      | _ => fin P f R W todo s acc
    | .code (.region _ ops false) :: k => fSt s fun s => vc n orc hs (.inRegion ops (List.range ops.size) :: k) s acc
    | .code (.region _ ops true) :: k => match edgesOk ops.toList 0 with
      | true => fSt s fun s => fNat s.B.length fun nb => fNat s.R.length fun nr => hotGo s.F ops.toList [] 0 [] fun hot => fBs (maskB hot s.B) fun B1 => hotRGo s.F s.R ops.toList ops.toList [] 0 [] fun hotR => fRs (maskR hotR s.R) fun R1 => drw P W T ⟨s.F, B1, R1, s.G⟩ s.B s.R ops.toList (fin P f R W todo s acc) ops.toList [] 0 nb nr orc hs acc fun recs orc hs acc => fFinF recs s.F fun F' => fFinB recs B1 fun B' => fFinR recs R1 fun R' => fRs (killAll recs R') fun R' => vc n orc hs (.inRegion ops (lastL ops.toList recs 0) :: k) ⟨F', B', R', s.G⟩ acc
      | false => fin P f R W todo s acc
    | .inRegion _ [] :: k => vc n orc hs k s acc
    | .inRegion ops (i :: rest) :: k => match ops.toList[i]? with
      | none => fin P f R W todo s acc
      | some o => match guardOf s.F ops.toList o with
        | .no => fPut s o.dst (.tup []) fun s => vc n orc hs (.inRegion ops rest :: k) s acc
        | .stop => fin P f R W todo s acc
        | .ask d e => match orc with
          | ans :: orc => fPut s (some d) (.cv (.one (.lb ans))) fun s => vc n orc hs todo s ((e = ans) :: acc)
          | [] => fin P f R W todo s acc
        | .yes => match evalOp T s.get s.box s.row o.op with
          | some ev => fNat s.B.length fun nb => fNat s.R.length fun nr => fEff s nb nr ev fun s => fPut s o.dst (ev.sv nb nr) fun s => vc n orc hs (.inRegion ops rest :: k) s (more acc ev.oo)
          | none => match callOf s.get o.op with
            | some (g, args) => match hs with
              | ⟨res, rows, none⟩ :: hs => fSt s fun s => fSVs args fun args => fNat s.R.length fun nr => fMem s.F s.B (setRows s.R nr rows) s.G fun s' => fPut s' o.dst (res nr) fun s' => vc n orc hs (.inRegion ops rest :: k) s' (CallOk P W s.B s.R g args ⟨res, rows, none⟩ :: acc)
              | ⟨res, rows, some r⟩ :: hs => match s.row r with
                | some ⟨_, _, _, some _, _, _⟩ => fSt s fun s => fSVs args fun args => fNat s.R.length fun nr => fMem s.F s.B (setRows (unset s.R r) nr rows) s.G fun s' => fPut s' o.dst (res nr) fun s' => vc n orc hs (.inRegion ops rest :: k) s' (CallOk P W s.B s.R g args ⟨res, rows, some r⟩ :: acc)
                | _ => fin P f R W todo s acc
              | [] => fin P f R W todo s acc
            | none => fin P f R W todo s acc
    | _ => fin P f R W todo s acc
end
end Go.Sx
