/- Operations, carried out on what is known. -/
import Derived.Test.YtlbldfdkicofdaaSxB
import Derived.Laws.StructEq
namespace Go.Sx
open Go.RowKit
set_option linter.unusedVariables false
set_option linter.unusedSimpArgs false

inductive TK where
  | int (k : IntKind) | bool | str | slice (e : TypeId) | ptr | struct (fs : List (Nat × TypeId)) | array (n : Nat) (e : TypeId) | func | other
structure Ty where
  size : Nat
  bytes : Nat
  k : TK
  zero : Value
  eq : List Nat := []
  /-- An array of numbers whose indices may be open. -/
  op : Bool := false
def kindOf : TypeDesc → TK
  | .int k => .int k | .bool => .bool | .string => .str | .slice e => .slice e | .pointer _ => .ptr
  | .struct fs => .struct (fs.toList.map fun f => (f.offset, f.type)) | .array n e => .array n e | .func .. => .func | _ => .other
/-- Structs of plain fields, told apart field by field: 1 a number, 2 a Bool, 3 a string. -/
def tagOf : TypeDesc → Nat
  | .int _ => 1 | .bool => 2 | .string => 3 | _ => 0
/-- How values of a type are told apart, cell by cell. -/
inductive EqT where
  | one (k : Nat)
  | str (fs : EqT)
  | arr (n : Nat) (e : EqT)
  | nil
  | cons (a b : EqT)
def repL (l : List Nat) : Nat → List Nat
  | 0 => []
  | n + 1 => l ++ repL l n
def EqT.wid : EqT → Nat
  | .one _ => 1
  | .str fs => fs.wid
  | .arr n e => n * e.wid
  | .nil => 0
  | .cons a b => a.wid + b.wid
def EqT.flat : EqT → List Nat
  | .one k => [k]
  | .str fs => fs.flat
  | .arr n e => repL e.flat n
  | .nil => []
  | .cons a b => a.flat ++ b.flat
def EqT.deep : EqT → Nat
  | .one _ => 1
  | .str fs => fs.deep + 1
  | .arr _ e => e.deep + 1
  | .nil => 0
  | .cons a b => a.deep + b.deep
def EqT.isTy : EqT → Bool
  | .one _ | .str _ | .arr _ _ => true
  | _ => false
def EqT.isAgg : EqT → Bool
  | .str _ | .arr _ _ => true
  | _ => false
def eqOk (P : Program) : EqT → TypeId → List Field → Nat → Bool
  | .one k, t, _, _ => (P.underlying t).map tagOf == some k && k != 0
  | .str fs, t, _, _ => match P.underlying t with
    | some (.struct gs) => !fs.isTy && (!P.stoodInHeld t && eqOk P fs 0 gs.toList 0)
    | _ => false
  | .arr n e, t, _, _ => match P.underlying t with
    | some (.array m el) => m == n && ((P.info? el).map (·.size) == some e.wid && (e.isTy && eqOk P e el [] 0))
    | _ => false
  | .nil, _, fs, _ => fs.isEmpty
  | .cons a b, _, fs, off => match fs with
    | [] => false
    | f :: fs => f.name != "_" && (f.offset == off && ((P.info? f.type).map (·.size) == some a.wid && (a.isTy && (!b.isTy && (eqOk P a f.type [] 0 && eqOk P b 0 fs (off + a.wid))))))
def EqOk (P : Program) (t : TypeId) (ks : List Nat) : Prop := ks = [] ∨ ∃ T : EqT, T.flat = ks ∧ T.deep ≤ 9999 ∧ T.isAgg = true ∧ P.eqGuardType P.depth t = false ∧ eqOk P T t [] 0 = true
def TyOk (P : Program) (t : TypeId) (ty : Ty) : Prop :=
  (P.info? t).map (fun i => (i.size, i.bytes, i.zero)) = some (ty.size, ty.bytes, some ty.zero) ∧ (P.underlying t).map kindOf = some ty.k ∧ ty.zero.cells.size = ty.size ∧ (∀ u ∈ ty.zero.cells.toList, u.oneCell' = true) ∧ EqOk P t ty.eq
abbrev Tab := List (Option Ty)
def Tab.get (T : Tab) (t : TypeId) : Option Ty := match T[t]? with
  | some (some ty) => some ty
  | _ => none
def TabOk (P : Program) (T : Tab) : Prop := ∀ t ty, T.get t = some ty → TyOk P t ty

section
variable {P : Program} {t : TypeId} {ty : Ty}
theorem TyOk.info (h : TyOk P t ty) : ∃ i, P.info? t = some i ∧ i.size = ty.size ∧ i.bytes = ty.bytes ∧ i.zero = some ty.zero := by
  obtain ⟨i, hi, he⟩ := Option.map_eq_some_iff.1 h.1
  simp only [Prod.mk.injEq] at he
  exact ⟨i, hi, he.1, he.2.1, he.2.2⟩
theorem TyOk.und (h : TyOk P t ty) : ∃ d, P.underlying t = some d ∧ kindOf d = ty.k := Option.map_eq_some_iff.1 h.2.1
theorem TyOk.slice (h : TyOk P t ty) {e : TypeId} (hk : ty.k = .slice e) : P.underlying t = some (.slice e) := by
  obtain ⟨d, hd, he⟩ := h.und
  rw [hk] at he
  cases d <;> simp [kindOf] at he
  subst he; exact hd
theorem TyOk.array (h : TyOk P t ty) {n e : Nat} (hk : ty.k = .array n e) : P.underlying t = some (.array n e) := by
  obtain ⟨d, hd, he⟩ := h.und
  rw [hk] at he
  cases d <;> simp [kindOf] at he
  obtain ⟨rfl, rfl⟩ := he; exact hd
theorem TyOk.str (h : TyOk P t ty) (hk : ty.k = .str) : P.underlying t = some .string := by
  obtain ⟨d, hd, he⟩ := h.und
  rw [hk] at he
  cases d <;> simp [kindOf] at he
  exact hd
theorem TyOk.bool (h : TyOk P t ty) (hk : ty.k = .bool) : P.underlying t = some .bool := by
  obtain ⟨d, hd, he⟩ := h.und
  rw [hk] at he
  cases d <;> simp [kindOf] at he
  exact hd
theorem TyOk.int (h : TyOk P t ty) {k : IntKind} (hk : ty.k = .int k) : P.underlying t = some (.int k) := by
  obtain ⟨d, hd, he⟩ := h.und
  rw [hk] at he
  cases d <;> simp [kindOf] at he
  subst he; exact hd
theorem TyOk.struct (h : TyOk P t ty) {fs : List (Nat × TypeId)} (hk : ty.k = .struct fs) : ∃ gs : Array Field, P.underlying t = some (.struct gs) ∧ gs.toList.map (fun f => (f.offset, f.type)) = fs := by
  obtain ⟨d, hd, he⟩ := h.und
  rw [hk] at he
  cases d <;> simp [kindOf] at he
  exact ⟨_, hd, he⟩
theorem TyOk.runSize (h : TyOk P t ty) (w : World) : (sizeOf t).run P w = .ok ty.size w := by
  obtain ⟨i, hi, h1, _⟩ := h.info
  simp [sizeOf, typeInfo, hi, program, Sem.run, bind, Sem.bind, pure, h1]
theorem fieldPlace_run (h : TyOk P t ty) (w : World) (hs : 0 < ty.size) (a : Addr) (f : Field) (hf : f.type = t) : (fieldPlace a f).run P w = .ok (a.add f.offset) w := by
  unfold fieldPlace
  rw [hf]
  simp only [Sem.run_bind, h.runSize, Result.andThen_ok]
  rw [if_neg (by omega)]
  rfl
theorem TyOk.runZero (h : TyOk P t ty) (w : World) : (zeroValue t).run P w = .ok ty.zero w := by
  obtain ⟨i, hi, _, _, h1⟩ := h.info
  simp [zeroValue, typeInfo, hi, program, Sem.run, bind, Sem.bind, pure, h1]
def Ty.isAgg (ty : Ty) : Bool := match ty.k with
  | .struct _ => true
  | .array _ _ => true
  | _ => false
theorem TyOk.runAgg (h : TyOk P t ty) (w : World) : (isAgg t).run P w = .ok ty.isAgg w := by
  obtain ⟨d, hd, he⟩ := h.und
  have hr := run_underlying hd w
  unfold Go.isAgg Ty.isAgg
  simp only [Sem.run_bind, hr, Result.andThen_ok]
  rw [← he]
  cases d <;> rfl
end

def toB : At → Option BAt
  | .v x => some (.v x)
  | .lb b => some (.lb b)
  | .rs r => some (.rs r)
  | _ => none
def toBs : List At → Option (List BAt)
  | [] => some []
  | x :: l => match toB x, toBs l with
    | some b, some bs => some (b :: bs)
    | _, _ => none
def BAt.toAt : BAt → At
  | .v x => .v x
  | .lb b => .lb b
  | .rs r => .rs r
def bAts : List BAt → List At
  | [] => []
  | x :: l => x.toAt :: bAts l
def bCv : Bool → List BAt → Option Cv
  | true, l => some (.agg (bAts l))
  | false, [x] => some (.one x.toAt)
  | false, _ => none
theorem toAt_den {ρ : Env} (x : BAt) : x.toAt.den ρ = x.den ρ := by cases x <;> rfl
theorem bAts_dens {ρ : Env} : ∀ l : List BAt, dens ρ (bAts l) = bDens ρ l
  | [] => rfl
  | x :: l => by simp only [bAts, dens, bDens, toAt_den, bAts_dens l]
theorem bCv_den {ρ : Env} {agg : Bool} {l : List BAt} {c : Cv} {f : FuncId} {u : Value} (hc : bCv agg l = some c) (h : (At.clb f agg l).den ρ = some u) : ∃ v, c.den ρ = some v ∧ u = .func (.func f) #[v] #[] := by
  simp only [At.den, Option.map_eq_some_iff, Option.bind_eq_some_iff] at h
  obtain ⟨v, ⟨vs, h1, h2⟩, rfl⟩ := h
  refine ⟨v, ?_, rfl⟩
  cases agg with
  | true =>
    injection hc with hc; subst hc
    simp only [bVal, Option.some.injEq] at h2
    simp only [Cv.den, bAts_dens, h1, Option.map_some, h2]
  | false =>
    match l, hc with
    | [x], hc =>
      injection hc with hc; subst hc
      simp only [bDens] at h1
      split at h1
      · rename_i w ws g1 g2
        injection g2 with g2; subst g2
        injection h1 with h1; subst h1
        simp only [bVal, Option.some.injEq] at h2
        subst h2
        simp only [Cv.den, toAt_den, g1]
      · cases h1
theorem toB_den {ρ : Env} {x : At} {b : BAt} (h : toB x = some b) : b.den ρ = x.den ρ := by
  cases x <;> simp only [toB, Option.some.injEq, reduceCtorEq] at h <;> subst h <;> rfl
theorem toBs_dens {ρ : Env} : ∀ {l : List At} {bs : List BAt}, toBs l = some bs → bDens ρ bs = dens ρ l
  | [], bs, h => by injection h with h; subst h; rfl
  | x :: l, bs, h => by
    simp only [toBs] at h
    split at h
    · rename_i b bs' h1 h2
      injection h with h; subst h
      simp only [bDens, dens, toB_den h1, toBs_dens h2]
    · cases h
/-- What an operation comes to. -/
inductive Ev where
  | val (sv : SV) (ob : Option Prop)
  | box (c : List At)
  | put (i : Nat) (c : List At)
  | row (R : Row) (ob : Option Prop)
  | sub (r : Nat) (R : Row) (ob : Option Prop)
  | rput (r : Nat) (R : Row) (ob : Option Prop)
  | app (kill : Option Nat) (R : Row) (ob : Option Prop)
def Ev.oo : Ev → Option Prop
  | .val _ ob | .row _ ob | .sub _ _ ob | .rput _ _ ob | .app _ _ ob => ob
  | .box _ | .put _ _ => none
def holds : Option Prop → Prop
  | some p => p
  | none => True
def Ev.ob (ev : Ev) : Prop := holds ev.oo
def Ev.sv (nb nr : Nat) : Ev → SV
  | .val sv _ => sv
  | .box _ => .cv (.one (.pt (.bp nb 0)))
  | .put _ _ | .rput _ _ _ => .tup []
  | .row _ _ | .sub _ _ _ | .app _ _ _ => .cv (.one (.rs nr))
def unset {α : Type} : List (Option α) → Nat → List (Option α)
  | [], _ => []
  | _ :: l, 0 => none :: l
  | y :: l, n + 1 => y :: unset l n
def disown : List (Option Row) → Nat → List (Option Row)
  | [], _ => []
  | none :: l, 0 => none :: l
  | some R :: l, 0 => some ⟨R.sz, R.len, R.cells, none, R.tight, R.new⟩ :: l
  | y :: l, n + 1 => y :: disown l n
def St.eff (s : St) (nb nr : Nat) : Ev → St
  | .val _ _ => s
  | .box c => { s with B := setAt s.B nb c }
  | .put i c => { s with B := setAt s.B i c }
  | .row R _ => { s with R := setAt s.R nr R }
  | .sub r R _ => { s with R := setAt (disown s.R r) nr R }
  | .rput r R _ => { s with R := setAt s.R r R }
  | .app none R _ => { s with R := setAt s.R nr R }
  | .app (some r) R _ => { s with R := setAt (unset s.R r) nr R }

def atOf : Value → At
  | .bool b => .lb b
  | x => .v x
def constSV : Value → SV
  | .agg cs => .cv (.agg (cs.toList.map atOf))
  | .tuple _ => .any
  | x => .cv (.one (atOf x))
def mkCv (agg : Bool) (size : Nat) (l : List At) : Option Cv :=
  match agg with
  | true => if l.length = size then some (.agg l) else none
  | false => match l with
    | [x] => some (.one x)
    | _ => none
def pasted (l : List At) (off : Nat) (c : List At) : List At := l.take off ++ (c ++ l.drop (off + c.length))
/-- Cells that are numbers of a kind. -/
def intsOf (k : IntKind) : List At → Option (List Int)
  | [] => some []
  | .v (.int k' x) :: l => if k = k' then match intsOf k l with
      | some xs => some (x :: xs)
      | none => none
    else none
  | _ => none
/-- The number at a place. -/
def pickI (xs : List Int) (n : Int) : Int := (xs[n.toNat]?).getD 0
/-- The numbers from the j-th on, with another one at a place. -/
def putI (k : IntKind) (n v : Int) : Nat → List Int → List At
  | _, [] => []
  | j, x :: xs => .v (.int k (if n.toNat = j then v else x)) :: putI k n v (j + 1) xs
/-- The byte of a string at a place. -/
def byteAt (s : ByteArray) (i : Int) : Int := (((s[i.toNat]?).getD 0).toNat : Int)

def intBin (op : BinOp) (k : IntKind) (a b : Int) : Option (Value × Option Prop) :=
  match op with
  | .add => some (.int k (k.wrap (a + b)), none)
  | .sub => some (.int k (k.wrap (a - b)), none)
  | .mul => some (.int k (k.wrap (a * b)), none)
  | .quo => some (.int k (k.wrap (a.tdiv b)), some (b ≠ 0))
  | .rem => some (.int k (a.tmod b), some (b ≠ 0))
  | .and => some (.int k (k.wrap (BitVec.ofInt k.bits a &&& BitVec.ofInt k.bits b).toNat), none)
  | .or => some (.int k (k.wrap (BitVec.ofInt k.bits a ||| BitVec.ofInt k.bits b).toNat), none)
  | .xor => some (.int k (k.wrap (BitVec.ofInt k.bits a ^^^ BitVec.ofInt k.bits b).toNat), none)
  | .eql => some (.bool (a == b), none)
  | .neq => some (.bool (a != b), none)
  | .lss => some (.bool (decide (a < b)), none)
  | .leq => some (.bool (decide (a ≤ b)), none)
  | .gtr => some (.bool (decide (a > b)), none)
  | .geq => some (.bool (decide (a ≥ b)), none)
  | _ => none
def strBin (op : BinOp) (a b : ByteArray) : Option (Value × Option Prop) :=
  match op with
  | .add => some (.string (a ++ b), some (a.size + b.size ≤ 9223372036854775807))
  | .eql => some (.bool (a.toList == b.toList), none)
  | .neq => some (.bool (!(a.toList == b.toList)), none)
  | _ => none
def boolBin (op : BinOp) (a b : Bool) : Option Value :=
  match op with
  | .eql => some (.bool (a == b))
  | .neq => some (.bool (!(a == b)))
  | _ => none
def boolOf : At → Option Bool
  | .lb b => some b
  | .v (.bool b) => some b
  | _ => none
def eqAt : Nat → At → At → Option Bool
  | 1, .v (.int k a), .v (.int k' b) => if k = k' then some (a == b) else none
  | 2, x, y => match boolOf x, boolOf y with
    | some a, some b => some (a == b)
    | _, _ => none
  | 3, .v (.string a), .v (.string b) => some (a.toList == b.toList)
  | _, _, _ => none
def eqCells : List Nat → List At → List At → Option Bool
  | k :: ks, a :: as, b :: bs => match eqAt k a b with
    | some e => match ks with
      | [] => match as, bs with
        | [], [] => some e
        | _, _ => none
      | _ :: _ => match eqCells ks as bs with
        | some r => some (e && r)
        | none => none
    | none => none
  | _, _, _ => none
def evalBin (op : BinOp) (x y : At) : Option (Value × Option Prop) :=
  match x, y with
  | .v (.int k a), .v (.int k' b) => match op with
    | .shl => some (.int k (k.wrap (a * 2 ^ min b.toNat k.bits)), some (0 ≤ b))
    | .shr => some (.int k (a.fdiv (2 ^ min b.toNat k.bits)), some (0 ≤ b))
    | _ => if k = k' then intBin op k a b else none
  | .v (.string a), .v (.string b) => strBin op a b
  | x, y => none
def intOfSV : Option SV → Option Int
  | some (.cv (.one (.v (.int _ n)))) => some n
  | _ => none
/-- A bound of a slice expression: none where it is not written, 'none' inside where it isn't known. -/
def boundSV (get : Operand → Option SV) : Option Operand → Option (Option Int)
  | none => some none
  | some x => match intOfSV (get x) with
    | some n => some (some n)
    | none => none

def fillParts (offs : Nat → Option (Nat × Nat)) (get : Operand → Option SV) : List At → List (Nat × Operand) → Option (List At)
  | cs, [] => some cs
  | cs, (i, x) :: l => match offs i, get x with
    | some (off, size), some (.cv c) => if c.cells.length = size ∧ off + size ≤ cs.length then fillParts offs get (pasted cs off c.cells) l else none
    | _, _ => none
/-- The parts of a slice that is written out: each in its place. -/
def rowParts (get : Operand → Option SV) (size : Nat) : Nat → List (Nat × Operand) → Option (List (List At))
  | _, [] => some []
  | k, (i, x) :: l => match get x with
    | some (.cv c) => if i = k ∧ c.cells.length = size then match rowParts get size (k + 1) l with
        | some r => some (c.cells :: r)
        | none => none
      else none
    | _ => none

/-- A slice's own or another's: what is known of it as an operand. -/
def rowOf (row : Nat → Option Row) : Option SV → Option (Option Nat × Row)
  | some (.cv (.one (.rs r))) => match row r with
    | some R => some (some r, R)
    | none => none
  | some (.cv (.one (.v (.slice none 0 0)))) => some (none, ⟨0, 0, fun _ => [], none, true, true⟩)
  | _ => none

def fromL (c : Nat → List At) : Option Int → Nat → List At
  | some l => fun i => c (l.toNat + i)
  | none => c
def hiN (n : Nat) : Option Int → Nat
  | some h => h.toNat
  | none => n
def tightN (t : Bool) : Option Int → Option Int → Bool
  | some _, some _ => true
  | none, none => t
  | _, _ => false
def maxOk (h : Option Int) : Option Int → Prop
  | some m => h = some m
  | none => True

def growOk (X Y : Row) : Prop := match X.own with
  | some _ => 0 ≤ X.len
  | none => X.len = 0 ∨ 0 < Y.len
def offsOf (T : Tab) (fs : List (Nat × TypeId)) (i : Nat) : Option (Nat × Nat) := match fs[i]? with
  | some (off, ft) => match T.get ft with
    | some tf => some (off, tf.size)
    | none => none
  | none => none

def evalOp (T : Tab) (get : Operand → Option SV) (box : Nat → Option (List At)) (row : Nat → Option Row) : Op → Option Ev
  | .move x | .assign x => match get x with
    | some sv => some (.val sv none)
    | none => none
  | .pick c a b => match get c with
    | some (.cv (.one (.lb t))) => match t with
      | true => match get a with
        | some sv => some (.val sv none)
        | none => none
      | false => match get b with
        | some sv => some (.val sv none)
        | none => none
    | _ => none
  | .box _ x => match get x with
    | some (.cv c) => some (.box c.cells)
    | _ => none
  | .alloc t => match T.get t with
    | some ty => some (.box (ty.zero.cells.toList.map atOf))
    | none => none
  | .load t a => match T.get t, get a with
    | some ty, some (.cv (.one (.pt (.bp i off)))) => match box i with
      | some c => match mkCv ty.isAgg ty.size ((c.drop off).take ty.size) with
        | some x => some (.val (.cv x) none)
        | none => none
      | none => none
    | some ty, some (.cv (.one (.pt (.rp r i sz off)))) => match row r with
      | some R => match mkCv ty.isAgg ty.size (((R.cells i.toNat).drop off).take ty.size) with
        | some x => if sz = R.sz ∨ i = 0 then some (.val (.cv x) (some (0 ≤ i ∧ i < R.len))) else none
        | none => none
      | none => none
    | some ty, some (.cv (.one (.pt (.ba i off n len)))) => match box i, ty.k with
      | some c, .int k => match intsOf k ((c.drop off).take len) with
        | some xs => if xs.length = len then some (.val (.cv (.one (.v (.int k (pickI xs n))))) none) else none
        | none => none
      | _, _ => none
    | some ty, some (.cv (.one (.pt (.op c sz len cells i off)))) => match mkCv ty.isAgg ty.size ((((cells i.toNat).map At.v).drop off).take ty.size) with
      | some x => some (.val (.cv x) none)
      | none => none
    | _, _ => none
  | .store t a x => match T.get t, get a, get x with
    | some ty, some (.cv (.one (.pt (.bp i off)))), some (.cv c) => match box i with
      | some old => if c.cells.length = ty.size ∧ off + ty.size ≤ old.length then some (.put i (pasted old off c.cells)) else none
      | none => none
    | some ty, some (.cv (.one (.pt (.rp r i sz off)))), some (.cv c) => match row r with
      | some R => match R.own with
        | some _ => if c.cells.length = ty.size ∧ off + ty.size ≤ R.sz ∧ sz = R.sz then
            some (.rput r ⟨R.sz, R.len, fun k => if k = i.toNat then pasted (R.cells k) off c.cells else R.cells k, R.own, R.tight, R.new⟩ (some (0 ≤ i ∧ i < R.len))) else none
        | none => none
      | none => none
    | some ty, some (.cv (.one (.pt (.ba i off n len)))), some (.cv (.one (.v (.int k v)))) => match box i, ty.k with
      | some old, .int k' => if k = k' ∧ off + len ≤ old.length ∧ ty.size = 1 then match intsOf k ((old.drop off).take len) with
          | some xs => some (.put i (pasted old off (putI k n v 0 xs)))
          | none => none
        else none
      | _, _ => none
    | _, _, _ => none
  | .nilCheck x => match get x with
    | some (.cv (.one (.pt p))) => some (.val (.cv (.one (.pt p))) none)
    | some (.cv (.one (.clo f c))) => some (.val (.cv (.one (.clo f c))) none)
    | some (.cv (.one (.clb f a c))) => some (.val (.cv (.one (.clb f a c))) none)
    | _ => none
  | .binOp op t x y _ => match get x, get y with
    | some (.cv (.one a)), some (.cv (.one b)) => match evalBin op a b with
      | some (v, ob) => some (.val (.cv (.one (.v v))) ob)
      | none => match boolOf a, boolOf b with
        | some p, some q => match T.get t with
          | some ty => match ty.k with
            | .bool => match boolBin op p q with
              | some v => some (.val (.cv (.one (.v v))) none)
              | none => none
            | _ => none
          | none => none
        | _, _ => none
    | some (.cv (.agg a)), some (.cv (.agg b)) => match T.get t with
      | some ty => match eqCells ty.eq a b with
        | some e => match op with
          | .eql => some (.val (.cv (.one (.v (.bool e)))) none)
          | .neq => some (.val (.cv (.one (.v (.bool (!e))))) none)
          | _ => none
        | none => none
      | none => none
    | _, _ => none
  | .unOp op _ x => match op, get x with
    | .not, some (.cv (.one (.lb b))) => some (.val (.cv (.one (.lb (!b)))) none)
    | .not, some (.cv (.one (.v (.bool b)))) => some (.val (.cv (.one (.v (.bool (!b))))) none)
    | .neg, some (.cv (.one (.v (.int k n)))) => some (.val (.cv (.one (.v (.int k (k.wrap (0 - n)))))) none)
    | _, _ => none
  | .convert src dst x => match T.get src, T.get dst, get x with
    | some ts, some td, some (.cv (.one (.v (.int _ n)))) => match td.k with
      | .int k => some (.val (.cv (.one (.v (.int k (k.wrap n))))) none)
      | _ => none
    | _, _, _ => none
  | .makeFunc (.func f) first caps => if first.size = 0 then match (caps.toList.mapM fun c => match get c with
        | some (.cv (.one (.pt p))) => some p
        | _ => none) with
      | some ps => some (.val (.cv (.one (.clo f ps))) none)
      | none => none
    else match first.toList, caps.toList with
      | [x], [] => match get x with
        | some (.cv (.agg l)) => match toBs l with
          | some bs => some (.val (.cv (.one (.clb f true bs))) none)
          | none => none
        | some (.cv (.one a)) => match toB a with
          | some b => some (.val (.cv (.one (.clb f false [b]))) none)
          | none => none
        | _ => none
      | _, _ => none
  | .slice t x lo hi mx => match T.get t, get x, boundSV get lo, boundSV get hi, boundSV get mx with
    | some ty, some (.cv (.one (.v (.string s)))), some l, some h, some none => match ty.k with
      | .str => some (.val (.cv (.one (.v (.string (s.extract (l.getD 0).toNat (hiN s.size h)))))) (some (0 ≤ l.getD 0 ∧ l.getD 0 ≤ h.getD s.size ∧ h.getD s.size ≤ s.size)))
      | _ => none
    | some ty, some (.cv (.one (.rs r))), some l, some h, some m => match row r, ty.k with
      | some R, .slice e => match T.get e with
        | some te => if te.size = R.sz then
            some (.sub r ⟨R.sz, hiN R.len h - (l.getD 0).toNat, fromL R.cells l, none, tightN R.tight h m, R.new⟩
              (some (0 ≤ l.getD 0 ∧ l.getD 0 ≤ h.getD R.len ∧ h.getD R.len ≤ R.len ∧ maxOk h m))) else none
        | none => none
      | _, _ => none
    | _, _, _, _, _ => none
  | .fieldAddr t x f => match T.get t, get x with
    | some ty, some (.cv (.one (.pt p))) => match ty.k with
      | .struct fs => match fs[f]? with
        | some (off, ft) => match T.get ft with
          | some tf => if 0 < tf.size then match p with
              | .bp i o => some (.val (.cv (.one (.pt (.bp i (o + off))))) none)
              | .rp r i sz o => some (.val (.cv (.one (.pt (.rp r i sz (o + off))))) none)
              | .op c sz len cells i o => some (.val (.cv (.one (.pt (.op c sz len cells i (o + off))))) none)
              | .ba _ _ _ _ => none
            else none
          | none => none
        | none => none
      | _ => none
    | _, _ => none
  | .field t x f => match T.get t, get x with
    | some ty, some (.cv (.agg l)) => match ty.k with
      | .struct fs => match fs[f]? with
        | some (off, ft) => match T.get ft with
          | some tf => match mkCv tf.isAgg tf.size ((l.drop off).take tf.size) with
            | some c => some (.val (.cv c) none)
            | none => none
          | none => none
        | none => none
      | _ => none
    | _, _ => none
  | .indexAddr t x i => match T.get t, get x, intOfSV (get i) with
    | some ty, some (.cv (.one (.rs r))), some n => match ty.k, row r with
      | .slice e, some R => match T.get e with
        | some te => if te.size = R.sz then some (.val (.cv (.one (.pt (.rp r n R.sz 0)))) (some (0 ≤ n ∧ n < R.len))) else none
        | none => none
      | _, _ => none
    | some ty, some (.cv (.one (.pt (.bp b off)))), some n => match ty.k with
      | .array len e => match T.get e with
        | some te => match ty.op with
          | false => some (.val (.cv (.one (.pt (.bp b (off + n.toNat * te.size))))) (some (0 ≤ n ∧ n < len)))
          | true => if te.size = 1 then some (.val (.cv (.one (.pt (.ba b off n len)))) (some (0 ≤ n ∧ n < len))) else none
        | none => none
      | _ => none
    | some ty, some (.cv (.one (.ro c sz len cells))), some n => match ty.k with
      | .slice e => match T.get e with
        | some te => if te.size = sz then some (.val (.cv (.one (.pt (.op c sz len cells n 0)))) (some (0 ≤ n ∧ n < len))) else none
        | none => none
      | _ => none
    | _, _, _ => none
  | .index t x i => match T.get t, get x, intOfSV (get i) with
    | some ty, some (.cv (.one (.v (.string s)))), some n => match ty.k with
      | .str => some (.val (.cv (.one (.v (.int .u8 (byteAt s n))))) (some (0 ≤ n ∧ n < s.size)))
      | _ => none
    | some ty, some (.cv (.agg l)), some n => match ty.k with
      | .array len e => match T.get e with
        | some te => match ty.op with
          | true => match te.k with
            | .int k => match intsOf k l with
              | some xs => if xs.length = len ∧ te.size = 1 then some (.val (.cv (.one (.v (.int k (pickI xs n))))) (some (0 ≤ n ∧ n < len))) else none
              | none => none
            | _ => none
          | false => match mkCv te.isAgg te.size ((l.drop (n.toNat * te.size)).take te.size) with
            | some c => some (.val (.cv c) (some (0 ≤ n ∧ n < len)))
            | none => none
        | none => none
      | _ => none
    | _, _, _ => none
  | .extract x i => match get x with
    | some (.tup l) => match l[i]? with
      | some c => some (.val (.cv c) none)
      | none => none
    | _ => none
  | .build t parts => match T.get t with
    | some ty => match ty.k with
      | .struct fs => match fillParts (offsOf T fs) get (ty.zero.cells.toList.map atOf) parts.toList with
        | some cs => if fs.all (fun p => (T.get p.2).isSome) then some (.val (.cv (.agg cs)) none) else none
        | none => none
      | .array n el => match T.get el with
        | some te => match fillParts (fun i => some (i * te.size, te.size)) get (ty.zero.cells.toList.map atOf) parts.toList with
          | some cs => some (.val (.cv (.agg cs)) none)
          | none => none
        | none => none
      | _ => none
    | none => none
  | .buildSlice t n parts => match T.get t with
    | some ty => match ty.k with
      | .slice e => match T.get e with
        | some te => match rowParts get te.size 0 parts.toList with
          | some cs => if cs.length = n ∧ 0 < te.size ∧ n * te.size ≤ 16777216 then some (.row ⟨te.size, n, fun i => (cs[i]?).getD [], some e, true, true⟩ none) else none
          | none => none
        | none => none
      | _ => none
    | none => none
  | .makeSlice t l c => match T.get t with
    | some ty => match ty.k with
      | .slice e => match T.get e, get l, get c with
        | some te, some (.cv (.one (.v (.int _ n)))), some (.cv (.one (.v (.int _ m)))) => if 0 < te.size then
            some (.row ⟨te.size, n.toNat, fun _ => te.zero.cells.toList.map atOf, some e, false, true⟩ (some (0 ≤ n ∧ n ≤ m ∧ (te.bytes : Int) * m ≤ 281474976710656 ∧ m ≤ 9223372036854775807))) else none
        | _, _, _ => none
      | _ => none
    | none => none
  | .call c => match c.callee with
    | .builtin .len => match c.args.toList, c.argTypes.toList with
      | [x], [t] => match T.get t, get x with
        | some ty, some (.cv (.one (.v (.string s)))) => match ty.k with
          | .str => some (.val (.cv (.one (.v (.int .i64 s.size)))) none)
          | _ => none
        | some ty, some (.cv (.one (.v (.slice a n c)))) => match ty.k with
          | .slice _ => some (.val (.cv (.one (.v (.int .i64 n)))) none)
          | _ => none
        | some ty, some (.cv (.one (.rs r))) => match ty.k, row r with
          | .slice _, some R => some (.val (.cv (.one (.v (.int .i64 R.len)))) none)
          | _, _ => none
        | some ty, some (.cv (.one (.ro c sz len cells))) => match ty.k with
          | .slice _ => some (.val (.cv (.one (.v (.int .i64 len)))) none)
          | _ => none
        | _, _ => none
      | _, _ => none
    | .builtin .min => match c.args.toList with
      | [x, y] => match get x, get y with
        | some (.cv (.one (.v (.int k a)))), some (.cv (.one (.v (.int _ b)))) => some (.val (.cv (.one (.v (.int k (if b < a then b else a))))) none)
        | _, _ => none
      | _ => none
    | .builtin .max => match c.args.toList with
      | [x, y] => match get x, get y with
        | some (.cv (.one (.v (.int k a)))), some (.cv (.one (.v (.int _ b)))) => some (.val (.cv (.one (.v (.int k (if b > a then b else a))))) none)
        | _, _ => none
      | _ => none
    | .builtin .append => match c.args.toList, c.argTypes.toList with
      | [x, y], [t, t'] => match T.get t with
        | some ty => match ty.k with
          | .slice e => match T.get e, rowOf row (get x), rowOf row (get y) with
            | some te, some (rx, X), some (ry, Y) =>
              if t = t' ∧ 0 < te.size ∧ (X.sz = te.size ∨ rx = none) ∧ (Y.sz = te.size ∨ ry = none) ∧ (X.own = some e ∨ (X.own = none ∧ X.tight = true)) then
                some (.app (match X.own with | some _ => rx | none => none)
                  ⟨te.size, X.len + Y.len, fun i => if i < X.len then X.cells i else Y.cells (i - X.len), some e, false, true⟩ (some (X.len + Y.len ≤ 9223372036854775807 ∧ (X.len + Y.len) * te.bytes ≤ 140737488355328 ∧ growOk X Y))) else none
            | _, _, _ => none
          | _ => none
        | none => none
      | _, _ => none
    | _ => none
  | _ => none
end Go.Sx
