/- Entering a function, leaving it, loops, and what is forgotten. -/
import Derived.Test.YtlbldfdkicofdaaSxO
namespace Go.Sx
open Go.RowKit
set_option linter.unusedVariables false
set_option linter.unusedSimpArgs false
set_option linter.unusedSectionVars false

/-! Renaming: what the caller calls row r, the callee calls by another number. -/
def nth (l : List Nat) (i : Nat) : Nat := l.getD i 0
def Pt.ren (bs rs : List Nat) : Pt → Pt
  | .bp i off => .bp (nth bs i) off
  | .rp r i sz off => .rp (nth rs r) i sz off
  | .ba i off n len => .ba (nth bs i) off n len
  | .op c sz len cells i off => .op c sz len cells i off
def BAt.ren (rs : List Nat) : BAt → BAt
  | .rs r => .rs (nth rs r)
  | x => x
def BAt.inn (m : Nat) : BAt → Bool
  | .rs r => decide (r < m)
  | _ => true
def At.ren (bs rs : List Nat) : At → At
  | .v x => .v x
  | .lb b => .lb b
  | .pt p => .pt (p.ren bs rs)
  | .rs r => .rs (nth rs r)
  | .clo f c => .clo f (c.map (Pt.ren bs rs))
  | .clb f a l => .clb f a (l.map (BAt.ren rs))
  | .ro c sz len cells => .ro c sz len cells
def Cv.ren (bs rs : List Nat) : Cv → Cv
  | .one x => .one (x.ren bs rs)
  | .agg l => .agg (l.map (At.ren bs rs))
def SV.ren (bs rs : List Nat) : SV → SV
  | .any => .any
  | .cv c => .cv (c.ren bs rs)
  | .tup l => .tup (l.map (Cv.ren bs rs))
/-- An environment, seen by other numbers. -/
def Env.ren (bs rs : List Nat) (ρ : Env) : Env := ⟨fun i => if i < bs.length then ρ.β (nth bs i) else none, fun r => if r < rs.length then ρ.σ (nth rs r) else none, ρ.ι⟩
def Pt.inn (n m : Nat) : Pt → Bool
  | .bp i _ => decide (i < n)
  | .rp r _ _ _ => decide (r < m)
  | .ba i _ _ _ => decide (i < n)
  | .op _ _ _ _ _ _ => true
def At.inn (n m : Nat) : At → Bool
  | .pt p => p.inn n m
  | .rs r => decide (r < m)
  | .clo _ c => c.all (Pt.inn n m)
  | .clb _ _ l => l.all (BAt.inn m)
  | _ => true
def Cv.inn (n m : Nat) : Cv → Bool
  | .one x => x.inn n m
  | .agg l => l.all (At.inn n m)
def SV.inn (n m : Nat) : SV → Bool
  | .any => true
  | .cv c => c.inn n m
  | .tup l => l.all (Cv.inn n m)

section
variable {bs rs : List Nat} {ρ : Env}
theorem Pt.ren_den {p : Pt} (h : p.inn bs.length rs.length = true) : p.den (ρ.ren bs rs) = (p.ren bs rs).den ρ := by
  cases p with
  | bp i off => simp only [Pt.inn, decide_eq_true_eq] at h; simp [Pt.den, Pt.ren, Env.ren, h]
  | rp r i sz off => simp only [Pt.inn, decide_eq_true_eq] at h; simp only [Pt.den, Pt.ren, Env.ren, h, if_true]
  | ba i off n len => simp only [Pt.inn, decide_eq_true_eq] at h; simp [Pt.den, Pt.ren, Env.ren, h]
  | op c sz len cells i off => rfl
theorem ptDens_ren : ∀ {l : List Pt}, l.all (Pt.inn bs.length rs.length) = true → ptDens (ρ.ren bs rs) l = ptDens ρ (l.map (Pt.ren bs rs))
  | [], _ => rfl
  | p :: l, h => by
    simp only [List.all_cons, Bool.and_eq_true] at h
    simp only [ptDens, List.map_cons, Pt.ren_den h.1, ptDens_ren h.2]
theorem BAt.ren_den {p : BAt} (h : p.inn rs.length = true) : p.den (ρ.ren bs rs) = (p.ren rs).den ρ := by
  cases p with
  | v x => rfl
  | lb b => rfl
  | rs r => simp only [BAt.inn, decide_eq_true_eq] at h; simp only [BAt.den, BAt.ren, Env.ren, h, if_true]
theorem bDens_ren : ∀ {l : List BAt}, l.all (BAt.inn rs.length) = true → bDens (ρ.ren bs rs) l = bDens ρ (l.map (BAt.ren rs))
  | [], _ => rfl
  | p :: l, h => by
    simp only [List.all_cons, Bool.and_eq_true] at h
    simp only [bDens, List.map_cons, BAt.ren_den h.1, bDens_ren h.2]
theorem At.ren_den {p : At} (h : p.inn bs.length rs.length = true) : p.den (ρ.ren bs rs) = (p.ren bs rs).den ρ := by
  cases p with
  | v x => rfl
  | lb b => rfl
  | pt p => exact Pt.ren_den h
  | rs r => simp only [At.inn, decide_eq_true_eq] at h; simp only [At.den, At.ren, Env.ren, h, if_true]
  | clo f c => simp only [At.inn] at h; simp only [At.den, At.ren, ptDens_ren h]
  | clb f a l => simp only [At.inn] at h; simp only [At.den, At.ren, bDens_ren h]
  | ro c sz len cells => rfl
theorem dens_ren : ∀ {l : List At}, l.all (At.inn bs.length rs.length) = true → dens (ρ.ren bs rs) l = dens ρ (l.map (At.ren bs rs))
  | [], _ => rfl
  | p :: l, h => by
    simp only [List.all_cons, Bool.and_eq_true] at h
    simp only [dens, List.map_cons, At.ren_den h.1, dens_ren h.2]
theorem Cv.ren_den {p : Cv} (h : p.inn bs.length rs.length = true) : p.den (ρ.ren bs rs) = (p.ren bs rs).den ρ := by
  cases p with
  | one x => exact At.ren_den h
  | agg l => simp only [Cv.inn] at h; simp only [Cv.den, Cv.ren, dens_ren h]
theorem cvDens_ren : ∀ {l : List Cv}, l.all (Cv.inn bs.length rs.length) = true → cvDens (ρ.ren bs rs) l = cvDens ρ (l.map (Cv.ren bs rs))
  | [], _ => rfl
  | p :: l, h => by
    simp only [List.all_cons, Bool.and_eq_true] at h
    simp only [cvDens, List.map_cons, Cv.ren_den h.1, cvDens_ren h.2]
theorem SV.ren_rep {p : SV} (h : p.inn bs.length rs.length = true) {v : Value} (hv : (p.ren bs rs).rep ρ v) : p.rep (ρ.ren bs rs) v := by
  cases p with
  | any => trivial
  | cv c => simp only [SV.rep, Cv.ren_den h]; exact hv
  | tup l =>
    simp only [SV.inn] at h
    obtain ⟨vs, h1, h2⟩ := hv
    exact ⟨vs, by rw [cvDens_ren h]; exact h1, h2⟩
end

/-- A row that is known is also known so. -/
structure RowLe (R Q : Row) : Prop where
  sz : Q.sz = R.sz
  len : Q.len = R.len
  own : Q.own = none ∨ Q.own = R.own
  tight : Q.tight = true → R.tight = true
  new : Q.new = true → R.new = true
  cells : ∀ i, i < R.len → Q.cells i = R.cells i
theorem RowLe.refl (R : Row) : RowLe R R := ⟨rfl, rfl, .inr rfl, id, id, fun _ _ => rfl⟩
theorem RowLe.ro (R : Row) : RowLe R ⟨R.sz, R.len, R.cells, none, R.tight, R.new⟩ := ⟨rfl, rfl, .inl rfl, id, id, fun _ _ => rfl⟩
theorem RowLe.touch {R Q : Row} (hq : RowLe R Q) {v : Value} {b : Nat} (h : Q.touch v b) : R.touch v b := by
  refine ⟨h.1, ?_⟩
  rcases h.2 with ⟨h1, h2⟩ | h2
  · rcases hq.own with h3 | h3
    · rw [h3] at h1; cases h1
    · exact .inl ⟨by rw [← h3]; exact h1, h2⟩
  · exact .inr (by rw [← hq.len]; exact h2)

theorem RowOk.weak {W : Base} {ρ : Env} {w : World} {v : Value} {R Q : Row} (h : RowOk W ρ w v R) (hq : RowLe R Q) : RowOk W ρ w v Q := by
  obtain ⟨A, cap, hv, hc, hm, hn, ht, h1, h2⟩ := h.form
  have hq' := hq
  obtain ⟨q1, q2, q3, q4, q6, q5⟩ := hq
  refine ⟨⟨A, cap, by rw [q2]; exact hv, by rw [q2]; exact hc, hm, hn, fun h => by rw [q2]; exact ht (q4 h), fun h0 => ?_, fun e he => ?_⟩, fun i hi => ?_, fun hn b ht => h.fresh (q6 hn) b (hq'.touch ht)⟩
  · rw [q2] at h0
    obtain ⟨b, o, hA, hlt, hcell⟩ := h1 h0
    refine ⟨b, o, hA, hlt, fun i vs hi hvs => ?_⟩
    rw [q2] at hi
    rw [q5 i hi] at hvs
    rw [q1]
    exact hcell i vs hi hvs
  · rcases q3 with q3 | q3
    · rw [q3] at he; cases he
    · rw [q1]; exact h2 e (by rw [← q3]; exact he)
  · rw [q2] at hi
    rw [q1, q5 i hi]
    exact h.each i hi
/-- What was known of one state is enough for another one: slots forgotten, boxes and rows forgotten or numbered anew. -/
def subF (bs rs : List Nat) : List SV → List SV → Prop
  | [], [] => True
  | _ :: xs, .any :: ys => subF bs rs xs ys
  | x :: xs, y :: ys => (y.inn bs.length rs.length = true ∧ y.ren bs rs = x) ∧ subF bs rs xs ys
  | _, _ => False
theorem subF_ok {bs rs : List Nat} {ρ : Env} : ∀ {F G : List SV} {vs : List Value}, subF bs rs F G → reps ρ F vs → reps (ρ.ren bs rs) G vs
  | [], [], [], _, _ => trivial
  | [], [], v :: vs, _, h => h.elim
  | x :: xs, [], vs, h, _ => h.elim
  | [], y :: ys, vs, h, _ => by cases y <;> exact h.elim
  | x :: xs, y :: ys, [], _, h => h.elim
  | x :: xs, y :: ys, v :: vs, h, hr => by
    cases y with
    | any => exact ⟨trivial, subF_ok h hr.2⟩
    | cv c => exact ⟨SV.ren_rep h.1.1 (by rw [h.1.2]; exact hr.1), subF_ok h.2 hr.2⟩
    | tup l => exact ⟨SV.ren_rep h.1.1 (by rw [h.1.2]; exact hr.1), subF_ok h.2 hr.2⟩
/-- Boxes: each that is still known was known just so, under its old number. -/
def subB (bs rs : List Nat) (B : List (Option (List At))) : List Nat → List (Option (List At)) → Prop
  | _, [] => True
  | [], _ :: _ => False
  | _ :: ns, none :: l => subB bs rs B ns l
  | n :: ns, some c :: l => (c.all (At.inn bs.length rs.length) = true ∧ B[n]? = some (some (c.map (At.ren bs rs)))) ∧ subB bs rs B ns l
def subR (bs rs : List Nat) (Rs : List (Option Row)) : List Nat → List (Option Row) → Prop
  | _, [] => True
  | [], _ :: _ => False
  | _ :: ns, none :: l => subR bs rs Rs ns l
  | n :: ns, some Q :: l => (∃ R, Rs[n]? = some (some R) ∧ RowLe R ⟨Q.sz, Q.len, fun i => (Q.cells i).map (At.ren bs rs), Q.own, Q.tight, Q.new⟩ ∧ ∀ i, i < Q.len → (Q.cells i).all (At.inn bs.length rs.length) = true) ∧ subR bs rs Rs ns l
def ownAt (R' : List (Option Row)) (i : Nat) : Bool := match R'[i]? with
  | some (some R) => R.own.isSome
  | _ => false
/-- A row that is one's own goes by one name only. -/
def seenAt (R' : List (Option Row)) (i : Nat) : Bool := match R'[i]? with
  | some (some _) => true
  | _ => false
def nrOk (rs : List Nat) (R' : List (Option Row)) : Bool := (List.range rs.length).all fun i => (List.range rs.length).all fun j => i == j || !(rs[i]? == rs[j]?) || !ownAt R' i || !seenAt R' j
theorem nrOk_ne {rs : List Nat} {R' : List (Option Row)} (h : nrOk rs R' = true) {i j n m : Nat} {R : Row} (hi : rs[i]? = some n) (hj : rs[j]? = some m) (hne : i ≠ j) {R2 : Row} (hR : R'[i]? = some (some R)) (hR2 : R'[j]? = some (some R2)) (ho : R.own.isSome = true) : n ≠ m := by
  rintro rfl
  have h1 := List.all_eq_true.1 h i (List.mem_range.2 (List.getElem?_eq_some_iff.1 hi).1)
  have h2 := List.all_eq_true.1 h1 j (List.mem_range.2 (List.getElem?_eq_some_iff.1 hj).1)
  simp [hne, hi, hj, ownAt, hR, ho, seenAt, hR2] at h2
structure Sub (bs rs : List Nat) (s s' : St) : Prop where
  F : subF bs rs s.F s'.F
  B : subB bs rs s.B bs s'.B
  R : subR bs rs s.R rs s'.R
  nb : bs.Nodup
  nr : nrOk rs s'.R = true
  bl : bs.length = s'.B.length
  rl : rs.length = s'.R.length
  G : subF bs rs s.G s'.G

theorem subB_get {bs rs : List Nat} {B : List (Option (List At))} : ∀ {ns : List Nat} {l : List (Option (List At))} {i : Nat} {c : List At}, subB bs rs B ns l → l[i]? = some (some c) →
    ∃ n, ns[i]? = some n ∧ c.all (At.inn bs.length rs.length) = true ∧ B[n]? = some (some (c.map (At.ren bs rs)))
  | ns, [], i, c, _, hi => by simp at hi
  | [], x :: l, i, c, h, hi => by cases x <;> exact h.elim
  | n :: ns, none :: l, 0, c, h, hi => by simp at hi
  | n :: ns, none :: l, i + 1, c, h, hi => by simp only [List.getElem?_cons_succ] at hi ⊢; simp only [subB] at h; exact subB_get h hi
  | n :: ns, some d :: l, 0, c, h, hi => by simp at hi; subst hi; exact ⟨n, rfl, h.1.1, h.1.2⟩
  | n :: ns, some d :: l, i + 1, c, h, hi => by simp only [List.getElem?_cons_succ] at hi ⊢; exact subB_get h.2 hi
theorem subR_get {bs rs : List Nat} {Rs : List (Option Row)} : ∀ {ns : List Nat} {l : List (Option Row)} {i : Nat} {Q : Row}, subR bs rs Rs ns l → l[i]? = some (some Q) →
    ∃ n R, ns[i]? = some n ∧ Rs[n]? = some (some R) ∧ RowLe R ⟨Q.sz, Q.len, fun i => (Q.cells i).map (At.ren bs rs), Q.own, Q.tight, Q.new⟩ ∧ ∀ i, i < Q.len → (Q.cells i).all (At.inn bs.length rs.length) = true
  | ns, [], i, c, _, hi => by simp at hi
  | [], x :: l, i, c, h, hi => by cases x <;> exact h.elim
  | n :: ns, none :: l, 0, c, h, hi => by simp at hi
  | n :: ns, none :: l, i + 1, c, h, hi => by simp only [List.getElem?_cons_succ] at hi ⊢; simp only [subR] at h; exact subR_get h hi
  | n :: ns, some d :: l, 0, c, h, hi => by simp at hi; subst hi; obtain ⟨⟨R, h1, h2, h3⟩, _⟩ := h; exact ⟨n, R, rfl, h1, h2, h3⟩
  | n :: ns, some d :: l, i + 1, c, h, hi => by simp only [List.getElem?_cons_succ] at hi ⊢; exact subR_get h.2 hi
theorem nth_of {l : List Nat} {i n : Nat} (h : l[i]? = some n) : nth l i = n ∧ i < l.length := ⟨by simp [nth, List.getD, h], (List.getElem?_eq_some_iff.1 h).1⟩
theorem nodup_ne {l : List Nat} (h : l.Nodup) {i j n m : Nat} (hi : l[i]? = some n) (hj : l[j]? = some m) (hne : i ≠ j) : n ≠ m := by
  obtain ⟨h1, h2⟩ := List.getElem?_eq_some_iff.1 hi
  obtain ⟨h3, h4⟩ := List.getElem?_eq_some_iff.1 hj
  subst h2 h4
  rcases Nat.lt_or_gt_of_ne hne with hlt | hlt
  · exact List.pairwise_iff_getElem.1 h i j h1 h3 hlt
  · exact Ne.symm (List.pairwise_iff_getElem.1 h j i h3 h1 hlt)

/-- A row whose cells are said by other numbers. -/
theorem RowOk.ren {W : Base} {ρ : Env} {w : World} {v : Value} {Q : Row} {bs rs : List Nat} (h : RowOk W ρ w v ⟨Q.sz, Q.len, fun i => (Q.cells i).map (At.ren bs rs), Q.own, Q.tight, Q.new⟩) (hin : ∀ i, i < Q.len → (Q.cells i).all (At.inn bs.length rs.length) = true) : RowOk W (ρ.ren bs rs) w v Q := by
  obtain ⟨A, cap, hv, hc, hm, hn, ht, h1, h2⟩ := h.form
  refine ⟨⟨A, cap, hv, hc, hm, hn, ht, fun h0 => ?_, h2⟩, fun i hi => ?_, h.fresh⟩
  · obtain ⟨b, o, hA, hlt, hcell⟩ := h1 h0
    refine ⟨b, o, hA, hlt, fun i vs hi hvs => hcell i vs hi ?_⟩
    rw [dens_ren (hin i hi)] at hvs
    exact hvs
  · rw [dens_ren (hin i hi)]
    exact h.each i hi
section
variable {W : Base} {s s' : St} {ρ : Env} {w : World} {bs rs : List Nat}
theorem Mem.ren (h : Mem W s ρ w) (hs : Sub bs rs s s') : Mem W s' (ρ.ren bs rs) w := by
  have eb : ∀ {i n}, bs[i]? = some n → (ρ.ren bs rs).β i = ρ.β n := fun {i n} hi => by
    obtain ⟨h1, h2⟩ := nth_of hi
    simp [Env.ren, h1, h2]
  have er : ∀ {i n}, rs[i]? = some n → (ρ.ren bs rs).σ i = ρ.σ n := fun {i n} hi => by
    obtain ⟨h1, h2⟩ := nth_of hi
    simp [Env.ren, h1, h2]
  refine ⟨h.below, fun i c hi => ?_, fun i j c d b hne hi hj hb hb' => ?_, fun r Q hr => ?_, fun r Q v i c b hr hv hi hb ht => ?_, fun r r' Q Q' v v' b hne hr hr' hv hv' hown ht ht' => ?_, subF_ok hs.G h.ghost, h.inn⟩
  · obtain ⟨n, hn, h1, h2⟩ := subB_get hs.B hi
    obtain ⟨b, vs, t, g1, g2, g3, g4⟩ := h.box n _ h2
    exact ⟨b, vs, t, (eb hn).trans g1, g2, by rw [dens_ren h1]; exact g3, g4⟩
  · obtain ⟨n, hn, _, h2⟩ := subB_get hs.B hi
    obtain ⟨m, hm, _, h3⟩ := subB_get hs.B hj
    rw [eb hn] at hb
    rw [eb hm] at hb'
    exact h.boxNe n m _ _ b (nodup_ne hs.nb hn hm hne) h2 h3 hb hb'
  · obtain ⟨n, R, hn, h1, h2, h3⟩ := subR_get hs.R hr
    obtain ⟨v, hv, hok⟩ := h.row n R h1
    exact ⟨v, (er hn).trans hv, (hok.weak h2).ren h3⟩
  · obtain ⟨n, R, hn, h1, h2, h3⟩ := subR_get hs.R hr
    obtain ⟨m, hm, _, h4⟩ := subB_get hs.B hi
    rw [er hn] at hv
    rw [eb hm] at hb
    exact h.rowBox n R v m _ b h1 hv h4 hb (h2.touch ht)
  · obtain ⟨n, R, hn, h1, h2, h3⟩ := subR_get hs.R hr
    obtain ⟨m, R', hm, g1, g2, g3⟩ := subR_get hs.R hr'
    rw [er hn] at hv
    rw [er hm] at hv'
    refine h.rowRow n m R R' v v' b (nrOk_ne hs.nr hn hm hne hr hr' hown) h1 g1 hv hv' ?_ (h2.touch ht) (g2.touch ht')
    rcases h2.own with h | h
    · rw [h] at hown; cases hown
    · rw [← h]; exact hown
end
section
variable {P : Program} {f : Fr} {R : Ending → World → Prop} {W : Base} {T : Tab} {k : List Item} {s s' : St}
theorem SG.sub (bs rs : List Nat) {todo : List Item} (hs : Sub bs rs s s') (h : SG P f R W todo s') : SG P f R W todo s :=
  ⟨fun ρ w a hm hf hd => h.run (ρ.ren bs rs) w a (hm.ren hs) ⟨hf.defers, subF_ok hs.F hf.tmps⟩
    ⟨fun i hi => by simp only [Env.ren]; rw [if_neg (by rw [hs.bl]; omega)], fun r hr => by simp only [Env.ren]; rw [if_neg (by rw [hs.rl]; omega)]⟩⟩

/-- A loop: a family of states; a measure that goes down. -/
theorem SG.loop {X : Type} {c : Code} (st : X → St) (I : X → Prop) (μ : X → Nat) (x : X) (hI : I x) (hs : SG P f R W (.code (.loop c) :: k) (st x) → SG P f R W (.code (.loop c) :: k) s)
    (round : ∀ x, I x → (∀ x', I x' → μ x' < μ x → SG P f R W (.inLoop c :: k) (st x')) → SG P f R W (.code c :: .inLoop c :: k) (st x)) : SG P f R W (.code (.loop c) :: k) s := by
  refine hs ?_
  have key : ∀ n x, μ x = n → I x → SG P f R W (.code c :: .inLoop c :: k) (st x) := by
    intro n
    induction n using Nat.strongRecOn with
    | _ n ih =>
      intro x hn hI
      exact round x hI fun x' hI' hlt => .good (fun _ _ => .inLoop) (ih (μ x') (hn ▸ hlt) x' rfl hI')
  exact .good (fun _ _ => .loop) (key _ x rfl hI)

/-- A nil slice is a row of the call's own. -/
theorem SG.nilRow {todo : List Item} (i : Nat) (e : TypeId) (sz : Nat) (hF : s.F[i]? = some (.cv (.one (.v (.slice none 0 0)))))
    (h : SG P f R W todo ⟨s.F.set i (.cv (.one (.rs s.R.length))), s.B, setAt s.R s.R.length ⟨sz, 0, fun _ => [], some e, false, true⟩, s.G⟩) : SG P f R W todo s := by
  refine ⟨fun ρ w a hm hf hd => ?_⟩
  have hn := hd.row s.R.length (Nat.le_refl _)
  have h1 := hm.newRow (v := .slice none 0 0) (R := ⟨sz, 0, fun _ => [], some e, false, true⟩) hn ⟨⟨none, 0, rfl, Nat.le_refl _, Nat.zero_le _, fun _ => rfl, (fun h => by cases h), fun h => absurd h (by simp), fun _ _ => .inl rfl⟩, fun i hi => absurd hi (by simp), fun _ b ht => by cases ht.1⟩
    (fun i c b _ _ ht => by cases ht.1) (fun r R' v' b _ _ _ _ ht => by cases ht.1)
  refine h.run ⟨ρ.β, upd ρ.σ s.R.length (.slice none 0 0), ρ.ι⟩ w a (h1.sub (fun _ _ h => h) (fun _ _ h => h)) ⟨hf.defers, ?_⟩ ⟨hd.box, fun r hr => ?_⟩
  · refine reps_set_self i (reps_le (Env.le_row hn _) hf.tmps) hF fun v hv => ?_
    injection hv with hv; subst hv
    simp [SV.rep, Cv.den, At.den, upd_same]
  · simp only [setAt_len] at hr
    show upd _ _ _ _ = _
    rw [upd_ne _ _ (by omega)]
    exact hd.row r (by omega)

theorem reps_undef {ρ : Env} : ∀ n, reps ρ (List.replicate n (.tup [])) (List.replicate n undef)
  | 0 => trivial
  | n + 1 => ⟨⟨[], rfl, rfl⟩, reps_undef n⟩
/-- What is known of slices in rows of slices is known in a callee. -/
theorem Mem.innCallee {s : St} {ρ : Env} {w : World} (h : Mem W s ρ w) {blk : Option Nat} (gs : List Value) (hb : ∀ b, blk = some b → W.mine b) : ∀ c sz len cells, ρ.ι c sz len cells → InnOk ⟨w, blk, gs, []⟩ c sz len cells := by
  intro c sz len cells hc
  obtain ⟨⟨A, cap, rfl, h1, h2, h3⟩, h4⟩ := h.inn c sz len cells hc
  refine ⟨⟨A, cap, rfl, h1, h2, fun hl => ?_⟩, h4⟩
  obtain ⟨b, o, rfl, g1, g2, g3⟩ := h3 hl
  refine ⟨b, o, rfl, Nat.lt_of_lt_of_le g1 h.below.size, fun e => ?_, fun i j u hi hu => (World.cell?_of_block (a := ⟨b, o + i * sz + j, none⟩) (h.below.block b g1 g2)).trans (g3 i j u hi hu)⟩
  rcases hb b e with h5 | h5
  · exact absurd g1 (Nat.not_lt.2 h5)
  · exact g2 h5
/-- Into a function: its arguments as they are known, the rows that they lead to; one of them, perhaps, its own. -/
theorem calls_enter {f : FuncId} {fn : Func} {c : Code} {args : Array Value} {w : World} (gb : Option Nat) (hf : P.funcs[f]? = some fn) (hb : fn.body = some c) (vals : List Value) (rows : List Row) (F : List SV) {ι : Value → Nat → Nat → (Nat → List Value) → Prop} (hl : vals.length = rows.length)
    (hι : ∀ c sz len cells, ι c sz len cells → InnOk ⟨w, gb, [], []⟩ c sz len cells)
    (hrows : ∀ (k : Nat) R u, rows[k]? = some R → vals[k]? = some u → RowOk ⟨w, gb, [], []⟩ ⟨fun _ => none, fun r => vals[r]?, ι⟩ w u R)
    (hapart : ∀ (k k' : Nat) R R' u u' b, k ≠ k' → rows[k]? = some R → vals[k]? = some u → rows[k']? = some R' → vals[k']? = some u' → R.own.isSome = true → R.touch u b → ¬ R'.touch u' b)
    (hargs : reps ⟨fun _ => none, fun r => vals[r]?, ι⟩ F args.toList)
    (h : SG P ⟨f, none, []⟩ R ⟨w, gb, [], []⟩ [.code c] ⟨F ++ List.replicate (fn.ntmps - F.length) (.tup []), [], rows.map some, []⟩) : Calls P f args w R := by
  refine calls_of_good hf hb (h.run ⟨fun _ => none, fun r => vals[r]?, ι⟩ w _ ⟨Kept.refl _ _ _, fun i c hi => by simp at hi, fun i j c d b _ hi => by simp at hi, fun r R hr => ?_, fun r R v i c b _ _ hi => by simp at hi, fun r r' R R' v v' b hne hr hr' hv hv' hown ht => ?_, trivial, hι⟩ ⟨rfl, ?_⟩ ⟨fun i _ => rfl, fun r hr => ?_⟩)
  · have hr' : rows[r]? = some R := by simpa using hr
    have hlt := (List.getElem?_eq_some_iff.1 hr').1
    have hv : vals[r]? = some vals[r] := List.getElem?_eq_getElem (by omega)
    exact ⟨_, hv, hrows r R _ hr' hv⟩
  · exact hapart r r' R R' v v' b hne (by simpa using hr) hv (by simpa using hr') hv' hown ht
  · have := reps_len hargs
    simp only [Array.toList_append, Array.toList_replicate]
    have he : args.size = F.length := by simpa using this
    rw [he]
    exact reps_append hargs (reps_undef _)
  · simp at hr; exact List.getElem?_eq_none (by omega)

def resCv (T : Tab) (s : St) : ResultVar → Option Cv
  | .tmp t => match known s.F[t]? with
    | some (.cv c) => some c
    | _ => none
  | .cell a t => match T.get t, known s.F[a]? with
    | some ty, some (.cv (.one (.pt (.bp i off)))) => match s.box i with
      | some c => mkCv ty.isAgg ty.size ((c.drop off).take ty.size)
      | none => none
    | _, _ => none
def resCvs (T : Tab) (s : St) : List ResultVar → Option (List Cv)
  | [] => some []
  | x :: l => match resCv T s x, resCvs T s l with
    | some c, some cs => some (c :: cs)
    | _, _ => none
def resSV : List Cv → SV
  | [c] => .cv c
  | l => .tup l
def rv (a : Array Value) (x : ResultVar) : Sem Value := match x with
  | .tmp t => pure (a.getD t undef)
  | .cell b t => do loadVar t (← asAddr (a.getD b undef))
theorem results_rv (fn : Func) (a : Array Value) : results fn a = (do
    let vs ← fn.results.mapM (rv a)
    pure (if h : vs.size = 1 then vs[0] else .tuple vs)) := rfl
theorem resCv_ok (hT : TabOk P T) {ρ : Env} {w : World} {a : Act} (hm : Mem W s ρ w) (hf : Frm ρ s.F a) {x : ResultVar} {c : Cv} (h : resCv T s x = some c) :
    ∃ v, (rv a.tmps x).run P w = .ok v w ∧ c.den ρ = some v := by
  cases x with
  | tmp t =>
    simp only [resCv] at h
    split at h
    · rename_i c' hc
      injection h with h; subst h
      obtain ⟨v, h1, h2⟩ := reps_get hf.tmps (known_some hc)
      refine ⟨v, ?_, h2⟩
      have : a.tmps.getD t undef = v := by simp at h1; simp [h1]
      simp only [rv, this]; rfl
    · cases h
  | cell b t =>
    simp only [resCv] at h
    split at h
    · rename_i ty i off hty hc
      split at h
      · rename_i c' hb
        obtain ⟨v, h1, h2⟩ := reps_get hf.tmps (known_some hc)
        obtain ⟨bb, vs, tt, g1, g2, g3, g4⟩ := hm.box i c' (St.box_ok hb)
        simp only [SV.rep, Cv.den, At.den, Pt.den, g1, Option.map_some, Option.some.injEq] at h2
        have : a.tmps.getD b undef = v := by simp at h1; simp [h1]
        obtain ⟨u, hu, hden⟩ := run_loadVar_cells (a := ⟨bb, off, none⟩) (hT _ _ hty) h (dens_take ty.size (dens_drop off g3)) (w := w) (fun j u hu => by
          rw [add_off, cell_of_blk g4]
          exact (cut_get hu).1)
        refine ⟨u, ?_, hden⟩
        simp only [rv, this, ← h2, asAddr, Sem.run_bind, pure, Sem.run, Result.andThen_ok, hu]
      · cases h
    · cases h
theorem results_ok (hT : TabOk P T) {ρ : Env} {w : World} {a : Act} (hm : Mem W s ρ w) (hf : Frm ρ s.F a) {fn : Func} {cs : List Cv} (h : resCvs T s fn.results.toList = some cs) :
    ∃ v, (results fn a.tmps).run P w = .ok v w ∧ (resSV cs).rep ρ v := by
  have key : ∀ (l : List ResultVar) (cs : List Cv), resCvs T s l = some cs → ∃ vs, (l.mapM (rv a.tmps)).run P w = .ok vs w ∧ cvDens ρ cs = some vs := by
    intro l
    induction l with
    | nil => intro cs h; injection h with h; subst h; exact ⟨[], rfl, rfl⟩
    | cons x l ih =>
      intro cs h
      simp only [resCvs] at h
      split at h
      · rename_i c ds hc hds
        injection h with h; subst h
        obtain ⟨vs, h1, h2⟩ := ih ds hds
        obtain ⟨v, h3, h4⟩ := resCv_ok hT hm hf hc
        refine ⟨v :: vs, ?_, by simp only [cvDens, h4, h2]⟩
        simp only [List.mapM_cons, Sem.run_bind, h3, h1, Result.andThen_ok]
        rfl
      · cases h
  obtain ⟨vs, h1, h2⟩ := key _ _ h
  rw [results_rv]
  have hmap : (fn.results.mapM (rv a.tmps)).run P w = .ok vs.toArray w := by
    rw [Array.mapM_eq_mapM_toList]
    simp only [Sem.run_bind, h1, map_eq_pure_bind, Result.andThen_ok]
    rfl
  simp only [Sem.run_bind]
  refine ⟨if hs : vs.length = 1 then vs[0] else .tuple vs.toArray, ?_, ?_⟩
  · rw [hmap]
    simp only [Result.andThen_ok, List.size_toArray]
    by_cases hs : vs.length = 1
    · simp [hs, pure, Sem.run]
    · simp [hs, pure, Sem.run]
  · match cs, vs, h2 with
    | [], vs, h2 => injection h2 with h2; subst h2; exact ⟨[], rfl, rfl⟩
    | [c], vs, h2 =>
      simp only [cvDens] at h2
      split at h2
      · rename_i v ws g1 g2
        injection h2 with h2; injection g2 with g2; subst h2 g2
        exact g1
      · cases h2
    | c :: d :: cs, vs, h2 =>
      have hl : vs.length ≠ 1 := by
        simp only [cvDens] at h2
        split at h2
        · rename_i v ws g1 g2
          injection h2 with h2; subst h2
          split at g2
          · injection g2 with g2; subst g2; simp
          · cases g2
        · cases h2
      rw [dif_neg hl]
      exact ⟨vs, h2, rfl⟩
/-- The marks that a frame leaves by, as they lie in memory. -/
def Marks : List Deferred → List (Nat × Ob) → Prop
  | [], _ => True
  | d :: ds, (D, .df (some [])) :: os => d.target = .collected D ∧ Marks ds os
  | _, _ => False
/-- Rows of elements that are something. -/
def rowsPos : List (Option Row) → Bool
  | [] => true
  | none :: l => rowsPos l
  | some R :: l => Nat.blt 0 R.sz && rowsPos l
theorem rowsPos_get : ∀ {l : List (Option Row)} {r : Nat} {R : Row}, rowsPos l = true → l[r]? = some (some R) → 0 < R.sz
  | none :: l, 0, R, h, hr => by simp at hr
  | none :: l, r + 1, R, h, hr => rowsPos_get (l := l) h hr
  | some Q :: l, 0, R, h, hr => by
    simp at hr; subst hr
    simp only [rowsPos, Bool.and_eq_true] at h
    have := h.1; simp [Nat.blt] at this; omega
  | some Q :: l, r + 1, R, h, hr => by
    simp only [rowsPos, Bool.and_eq_true] at h
    exact rowsPos_get h.2 (by simpa using hr)
  | [], r, R, h, hr => by simp at hr
theorem RowOk.pos_cells {ρ : Env} {w : World} {v : Value} {R : Row} (h : RowOk W ρ w v R) (hp : 0 < R.sz) {b : Nat} (ht : R.touch v b) : ∃ c t f, w.heap[b]? = some (.cells c t f) := by
  by_cases hl : 0 < R.len
  · obtain ⟨A, cap, rfl, hle, _, _, _, h1, _⟩ := h.form
    obtain ⟨b', o, rfl, _, hcell⟩ := h1 hl
    obtain ⟨hb, _⟩ := ht
    simp [Value.ownBlock] at hb; subst hb
    obtain ⟨vs, hvs, hvl⟩ := h.each 0 hl
    have h0 : vs[0]? = some vs[0] := List.getElem?_eq_getElem (by omega)
    have := hcell 0 vs hl hvs 0 _ h0
    simp only [World.cell?] at this
    split at this
    · rename_i c t f hc; exact ⟨c, t, f, hc⟩
    · cases this
  · rcases ht.2 with ⟨ho, _⟩ | hl'
    · exact h.own_cells ho ht
    · exact absurd hl' hl
/-- A block of what lies in memory besides is put anew: of no concern to what is known. -/
theorem Mem.putObj {ρ : Env} {w : World} {o o' : Ob} {k : Nat} {os : List (Nat × Ob)} (h : Mem { W with objs := (k, o) :: os } s ρ w) (hp : rowsPos s.R = true) :
    Mem { W with objs := (k, o') :: os } s ρ (w.putObj k o'.obj) := by
  have hk := h.below.objs k o (by simp)
  have hlow := h.below.low k o (by simp)
  have hnd := h.below.nd
  have hlt : k < w.heap.size := heap_lt hk
  simp only [List.map_cons, List.nodup_cons, List.mem_map, not_exists, not_and] at hnd
  have hne : ∀ q o2, (q, o2) ∈ os → q ≠ k := fun q o2 hq e => by subst e; exact hnd.1 _ hq rfl
  have h1 : Mem { W with objs := os } s ρ w := h.reobj rfl rfl rfl (fun q o2 hq => h.below.objs q o2 (by simp [hq])) (fun q o2 hq => h.below.low q o2 (by simp [hq])) hnd.2
  have h2 : Mem { W with objs := os } s ρ (w.putObj k o'.obj) := by
    refine h1.keep ⟨h1.below.os, h1.below.tape, h1.below.output, by simpa using h1.below.size, fun q hq hg => (World.putObj_heap_other (by dsimp only at hq hlow; omega)).trans (h1.below.block q hq hg), fun q o2 hq => (World.putObj_heap_other (hne q o2 hq)).trans (h1.below.objs q o2 hq), h1.below.low, h1.below.nd⟩ (by simp) (fun i c b hi hb => World.putObj_heap_other fun e => ?_) (fun r Q v b hr hv ht => World.putObj_heap_other fun e => ?_)
    · subst e
      obtain ⟨b', vs, t, g1, _, _, g4⟩ := h1.box i c hi
      rw [hb] at g1; injection g1 with g1; subst g1
      exact ob_ne g4 hk rfl
    · subst e
      obtain ⟨v', g1, g2⟩ := h1.row r Q hr
      rw [hv] at g1; injection g1 with g1; subst g1
      obtain ⟨c, t, f, hc⟩ := g2.pos_cells (rowsPos_get hp hr) ht
      exact ob_ne hc hk rfl
  refine h2.reobj rfl rfl rfl (fun q o2 hq => ?_) (fun q o2 hq => ?_) (by simpa using ⟨fun o2 hq => hnd.1 _ hq rfl, hnd.2⟩)
  · rcases List.mem_cons.1 hq with e | hq
    · injection e with e1 e2; subst e1 e2; exact World.putObj_heap_same hlt
    · exact h2.below.objs q o2 hq
  · rcases List.mem_cons.1 hq with e | hq
    · injection e with e1 e2; subst e1 e2; exact hlow
    · exact h2.below.low q o2 hq
def Base.out (W : Base) (n : Nat) : Base := { W with objs := W.objs.drop n }
theorem Mem.takes : ∀ {ds : List Deferred} {W : Base} {ρ : Env} {w : World} (h : Mem W s ρ w) (hmk : Marks ds W.objs) (hp : ds = [] ∨ rowsPos s.R = true), ∃ w', Takes P ds w w' ∧ Mem (W.out ds.length) s ρ w'
  | [], W, ρ, w, h, hmk, hp => ⟨w, rfl, h⟩
  | d :: ds, ⟨W1, W2, W3, W4⟩, ρ, w, h, hmk, hp => by
    match W4, hmk with
    | (D, .df (some [])) :: os, hmk =>
      have hp' : rowsPos s.R = true := hp.resolve_left (by simp)
      have h2 := Mem.putObj (W := ⟨W1, W2, W3, []⟩) (o' := .df none) h hp'
      have h3 : Mem ⟨W1, W2, W3, os⟩ s ρ (w.putObj D (Ob.obj (.df none))) := h2.reobj rfl rfl rfl (fun q o hq => h2.below.objs q o (by simp [hq])) (fun q o hq => h2.below.low q o (by simp [hq])) (by have := h2.below.nd; simp only [List.map_cons, List.nodup_cons] at this; exact this.2)
      obtain ⟨w', h4, h5⟩ := Mem.takes h3 hmk.2 (.inr hp')
      exact ⟨w', ⟨D, _, hmk.1, run_takeDeferred (h.below.objs D (.df (some [])) (by simp)), h4⟩, h5⟩
/-- Out of a function. -/
theorem SG.retD (hT : TabOk P T) {fn : Func} (hf : P.funcs[f.fn]? = some fn) {cs : List Cv} (hres : resCvs T s fn.results.toList = some cs) (h : ∀ ρ w v, Mem (W.out f.ds.length) s ρ w → Dom s ρ → (resSV cs).rep ρ v → R (.returned v) w)
    (hro : f.ro = none := by rfl) (hmk : Marks f.ds W.objs := by first | exact trivial | exact And.intro rfl trivial | exact And.intro rfl (And.intro rfl trivial)) (hp : f.ds = [] ∨ rowsPos s.R = true := by first | exact .inl rfl | exact .inr rfl) : SG P f R W (.code .ret :: k) s := by
  refine ⟨fun ρ w a hm hfr hd => ?_⟩
  obtain ⟨w', h1, h2⟩ := hm.takes (P := P) hmk hp
  obtain ⟨v, hr, hrep⟩ := results_ok hT h2 hfr hres
  exact Good.ret hro hf hfr.defers h1 hr (h ρ w' v h2 hd hrep)
theorem SG.doneD (hT : TabOk P T) {fn : Func} (hf : P.funcs[f.fn]? = some fn) {cs : List Cv} (hres : resCvs T s fn.results.toList = some cs) (h : ∀ ρ w v, Mem (W.out f.ds.length) s ρ w → Dom s ρ → (resSV cs).rep ρ v → R (.returned v) w)
    (hro : f.ro = none := by rfl) (hmk : Marks f.ds W.objs := by first | exact trivial | exact And.intro rfl trivial | exact And.intro rfl (And.intro rfl trivial)) (hp : f.ds = [] ∨ rowsPos s.R = true := by first | exact .inl rfl | exact .inr rfl) : SG P f R W [] s := by
  refine ⟨fun ρ w a hm hfr hd => ?_⟩
  obtain ⟨w', h1, h2⟩ := hm.takes (P := P) hmk hp
  obtain ⟨v, hr, hrep⟩ := results_ok hT h2 hfr hres
  exact Good.end_ hro hf hfr.defers h1 hr (h ρ w' v h2 hd hrep)
theorem SG.ret (hT : TabOk P T) {fn : Func} (hf : P.funcs[f.fn]? = some fn) {cs : List Cv} (hres : resCvs T s fn.results.toList = some cs) (h : ∀ ρ w v, Mem (W.out f.ds.length) s ρ w → (resSV cs).rep ρ v → R (.returned v) w)
    (hro : f.ro = none := by rfl) (hmk : Marks f.ds W.objs := by first | exact trivial | exact And.intro rfl trivial | exact And.intro rfl (And.intro rfl trivial)) (hp : f.ds = [] ∨ rowsPos s.R = true := by first | exact .inl rfl | exact .inr rfl) : SG P f R W (.code .ret :: k) s :=
  SG.retD hT hf hres (fun ρ w v hm _ hv => h ρ w v hm hv) hro hmk hp
theorem SG.done (hT : TabOk P T) {fn : Func} (hf : P.funcs[f.fn]? = some fn) {cs : List Cv} (hres : resCvs T s fn.results.toList = some cs) (h : ∀ ρ w v, Mem (W.out f.ds.length) s ρ w → (resSV cs).rep ρ v → R (.returned v) w)
    (hro : f.ro = none := by rfl) (hmk : Marks f.ds W.objs := by first | exact trivial | exact And.intro rfl trivial | exact And.intro rfl (And.intro rfl trivial)) (hp : f.ds = [] ∨ rowsPos s.R = true := by first | exact .inl rfl | exact .inr rfl) : SG P f R W [] s :=
  SG.doneD hT hf hres (fun ρ w v hm _ hv => h ρ w v hm hv) hro hmk hp
end
end Go.Sx

namespace Go.Sx
def TabAll (P : Program) : List (Option Ty) → Nat → Prop
  | [], _ => True
  | none :: l, n => TabAll P l (n + 1)
  | some ty :: l, n => TyOk P n ty ∧ TabAll P l (n + 1)
theorem tyOk_mk {P : Program} {t : TypeId} {ty : Ty} (h1 : (P.info? t).map (fun i => (i.size, i.bytes, i.zero)) = some (ty.size, ty.bytes, some ty.zero)) (h2 : (P.underlying t).map kindOf = some ty.k) (h3 : ty.zero.cells.size = ty.size) (h4 : ty.zero.cells.toList.all (·.oneCell') = true) (h5 : EqOk P t ty.eq) : TyOk P t ty :=
  ⟨h1, h2, h3, fun u hu => List.all_eq_true.1 h4 u hu, h5⟩
theorem tabAll_get {P : Program} : ∀ {T : List (Option Ty)} {n i : Nat} {ty : Ty}, TabAll P T n → T[i]? = some (some ty) → TyOk P (n + i) ty
  | [], n, i, ty, _, hi => by simp at hi
  | none :: l, n, 0, ty, h, hi => by simp at hi
  | none :: l, n, i + 1, ty, h, hi => by
    simp only [List.getElem?_cons_succ] at hi
    rw [show n + (i + 1) = n + 1 + i by omega]
    exact tabAll_get (T := l) h hi
  | some t :: l, n, 0, ty, h, hi => by simp at hi; subst hi; exact h.1
  | some t :: l, n, i + 1, ty, h, hi => by
    simp only [List.getElem?_cons_succ] at hi
    rw [show n + (i + 1) = n + 1 + i by omega]
    exact tabAll_get (T := l) h.2 hi
theorem tabOk_of {P : Program} {T : Tab} (h : TabAll P T 0) : TabOk P T := by
  intro t ty ht
  unfold Tab.get at ht
  split at ht
  · rename_i x hx
    injection ht with ht; subst ht
    have := tabAll_get h hx
    rwa [Nat.zero_add] at this
  · cases ht
end Go.Sx
