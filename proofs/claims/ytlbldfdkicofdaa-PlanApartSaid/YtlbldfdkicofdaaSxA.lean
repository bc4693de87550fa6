/- The machine's steps as rules on 'from here on the call ends well'. -/
import Derived.Calls
import Derived.Orders
import Derived.Tactics
import Derived.AtR
import Derived.RangeFuncRecord
namespace Go.Sx
set_option linter.unusedVariables false
set_option linter.unusedSimpArgs false

/-- Whose frame: a function's; a round's of one; with the marks that it leaves by. -/
structure Fr where
  fn : FuncId
  ro : Option Nat
  ds : List Deferred
def Fr.act (f : Fr) (a : Act) : Act := { tmps := a.tmps, defers := a.defers ++ f.ds }
/-- How a frame ends: a function's is left as R says; a round's hands a value to who asked for it. -/
def FinAt (P : Program) (f : Fr) (R : Ending → World → Prop) (m : Machine) (cs : List Frame) : Prop := match f.ro with
  | none => ∃ e w' fr, R e w' ∧ Comes P m (lone fr cs w') e ∧ fr.fn = f.fn ∧ fr.leaving P w' e
  | some _ => ∀ c cs', cs = c :: cs' → ∃ v w', R (.returned v) w' ∧ Steps P m (lone (c.finish v) cs' w')
theorem FinAt.steps {P : Program} {f : Fr} {R : Ending → World → Prop} {m m' : Machine} {cs : List Frame} (h : Steps P m m') (k : FinAt P f R m' cs) : FinAt P f R m cs := by
  unfold FinAt at *
  split
  · rename_i hro
    rw [hro] at k
    obtain ⟨e, w', fr, h1, h2, h3⟩ := k
    exact ⟨e, w', fr, h1, .of_steps h h2, h3⟩
  · rename_i hro
    rw [hro] at k
    intro c cs' hcs
    obtain ⟨v, w', h1, h2⟩ := k c cs' hcs
    exact ⟨v, w', h1, Steps.trans h h2⟩
/-- From these items, frame and world on the frame ends as R says. -/
def Good (P : Program) (f : Fr) (R : Ending → World → Prop) (todo : List Item) (a : Act) (w : World) : Prop :=
  ∀ (b : Frame) (cs : List Frame), b.fn = f.fn → b.kind = .normal → b.roundOf = f.ro → FinAt P f R (lone (b.atR (f.act a) todo) cs w) cs

section
variable {P : Program} {f : Fr} {R : Ending → World → Prop} {k : List Item} {a : Act} {w : World}
theorem act_eval : (f.act a).eval = a.eval := funext fun x => by cases x <;> rfl
theorem act_put {d : Option Tmp} {v : Value} : (f.act a).put d v = f.act (a.put d v) := by cases d <;> rfl

theorem Good.step {todo todo' : List Item} {a' : Act} {w' : World}
    (hs : ∀ (b : Frame) (cs : List Frame), Go.step P (lone (b.atR (f.act a) todo) cs w) = .next (lone (b.atR (f.act a') todo') cs w'))
    (h : Good P f R todo' a' w') : Good P f R todo a w := fun b cs hb hk hro => FinAt.steps (.one (hs b cs)) (h b cs hb hk hro)
theorem Good.seq {x y : Code} (h : Good P f R (.code x :: .code y :: k) a w) : Good P f R (.code (.seq x y) :: k) a w := .step (fun _ _ => stepR_seq) h
theorem Good.skip (h : Good P f R k a w) : Good P f R (.code .skip :: k) a w := .step (fun _ _ => stepR_skip) h
theorem Good.label {l : Nat} (h : Good P f R k a w) : Good P f R (.code (.label l) :: k) a w := .step (fun _ _ => stepR_label) h
theorem Good.inBlock {l : Nat} (h : Good P f R k a w) : Good P f R (.inBlock l :: k) a w := .step (fun _ _ => stepR_inBlock) h
theorem Good.cond {c : Operand} {x y : Code} {t : Bool} (hc : a.eval c = .bool t) (h : Good P f R (.code (if t then x else y) :: k) a w) : Good P f R (.code (.cond c x y) :: k) a w := .step (fun _ _ => stepR_cond (by rw [act_eval]; exact hc)) h
theorem Good.block {l : Nat} {c : Code} (h : Good P f R (.code c :: .inBlock l :: k) a w) : Good P f R (.code (.block l c) :: k) a w := .step (fun _ _ => stepR_block) h
theorem Good.loop {c : Code} (h : Good P f R (.code c :: .inLoop c :: k) a w) : Good P f R (.code (.loop c) :: k) a w := .step (fun _ _ => stepR_loop) h
theorem Good.inLoop {c : Code} (h : Good P f R (.code c :: .inLoop c :: k) a w) : Good P f R (.inLoop c :: k) a w := .step (fun _ _ => stepR_inLoop) h
theorem Good.exit {l : Nat} {k' : List Item} (hk : exitTo l k = some k') (h : Good P f R k' a w) : Good P f R (.code (.exit l) :: k) a w := .step (fun _ _ => stepR_exit hk) h
theorem stepR_scope {b : Frame} {cs : List Frame} {c : Code} : Go.step P (lone (b.atR a (.code (.scope c) :: k)) cs w) = .next (lone (b.atR a (.code c :: .inScope c :: k)) cs w) :=
  step_lone_go (by simp [stepG, stepG.exec, Frame.atR])
theorem stepR_inScope {b : Frame} {cs : List Frame} {c : Code} : Go.step P (lone (b.atR a (.inScope c :: k)) cs w) = .next (lone (b.atR a k) cs w) :=
  step_lone_go (by simp [stepG, stepG.exec, Frame.atR])
theorem Good.scope {c : Code} (h : Good P f R (.code c :: .inScope c :: k) a w) : Good P f R (.code (.scope c) :: k) a w := .step (fun _ _ => stepR_scope) h
theorem Good.inScope {c : Code} (h : Good P f R k a w) : Good P f R (.inScope c :: k) a w := .step (fun _ _ => stepR_inScope) h
theorem Good.goto {l : Nat} {k' : List Item} (hk : gotoIn l k = some k') (h : Good P f R k' a w) : Good P f R (.code (.goto l) :: k) a w := .step (fun _ _ => stepR_goto hk) h
theorem Good.region {id : Nat} {ops : Array Oper} (h : Good P f R (.inRegion ops (List.range ops.size) :: k) a w) : Good P f R (.code (.region id ops false) :: k) a w := .step (fun _ _ => stepR_region) h
theorem Good.regionEnd {ops : Array Oper} (h : Good P f R k a w) : Good P f R (.inRegion ops [] :: k) a w := .step (fun _ _ => stepR_region_end) h

/-- The marks, taken one after the other. -/
def Takes (P : Program) : List Deferred → World → World → Prop
  | [], w, w' => w' = w
  | d :: ds, w, w' => ∃ r w1, d.target = .collected r ∧ (Instr.takeDeferred r).run P w = .ok [] w1 ∧ Takes P ds w1 w'
theorem takes_steps : ∀ (ds : List Deferred) (w w' : World) (fr : Frame) (cs : List Frame), fr.mode = .returning → fr.defers = ds → Takes P ds w w' → Steps P (lone fr cs w) (lone { fr with defers := [] } cs w')
  | [], w, w', fr, cs, hm, hd, ht => by
    have e : w' = w := ht
    subst e
    have : { fr with defers := [] } = fr := by cases fr; simp_all
    rw [this]; exact ⟨0, rfl⟩
  | d :: ds, w, w', fr, cs, hm, hd, ht => by
    obtain ⟨r, w1, h1, h2, h3⟩ := ht
    have hs := step_collected (cs := cs) (by rw [hm]; simp) hd h1 h2
    exact .head hs (takes_steps ds w1 w' { fr with defers := [] ++ ds } cs hm rfl h3)
theorem Good.ret {fn : Func} {v : Value} {w' : World} (hro : f.ro = none) (hf : P.funcs[f.fn]? = some fn) (hd : a.defers = []) (ht : Takes P f.ds w w') (hr : (results fn a.tmps).run P w' = .ok v w') (h : R (.returned v) w') : Good P f R (.code .ret :: k) a w := by
  intro b cs hb hk hbro
  unfold FinAt
  rw [hro]
  refine ⟨_, w', _, h, Steps.trans (.one (stepR_ret (by rw [hbro, hro]))) (takes_steps f.ds w w' _ cs rfl (by simp [Frame.atR, Fr.act, hd]) ht), hb, ?_⟩
  exact ⟨rfl, rfl, hk, fn, by simpa [Frame.atR, hb] using hf, hr⟩
theorem Good.end_ {fn : Func} {v : Value} {w' : World} (hro : f.ro = none) (hf : P.funcs[f.fn]? = some fn) (hd : a.defers = []) (ht : Takes P f.ds w w') (hr : (results fn a.tmps).run P w' = .ok v w') (h : R (.returned v) w') : Good P f R [] a w := by
  intro b cs hb hk hbro
  unfold FinAt
  rw [hro]
  refine ⟨_, w', _, h, Steps.trans (.one (stepR_end (by rw [hbro, hro]))) (takes_steps f.ds w w' _ cs rfl (by simp [Frame.atR, Fr.act, hd]) ht), hb, ?_⟩
  exact ⟨rfl, rfl, hk, fn, by simpa [Frame.atR, hb] using hf, hr⟩

/-- An operation that isn't wanted is passed over. -/
theorem Good.opSkip {ops : Array Oper} {i : Nat} {rest : List Nat} {o : Oper} (ho : ops[i]? = some o) (hw : Region.wanted o (yielded ops a.tmps) = false)
    (h : Good P f R (.inRegion ops rest :: k) (a.put o.dst undef) w) : Good P f R (.inRegion ops (i :: rest) :: k) a w := by
  refine .step (fun b cs => ?_) h
  have := stepR_op_skip (P := P) (b := b) (a := f.act a) (k := k) (cs := cs) (w := w) (ops := ops) (i := i) (rest := rest) (by simp [ho, Fr.act, hw])
  rw [this, ← act_put]
  simp [ho]

/-- What an operation comes to. -/
def Does (P : Program) (o : Oper) (a : Act) (w : World) (K : Value → World → Prop) : Prop :=
  match (execOp a.eval o).run P w with
  | .ok (.value v) w' => K v w'
  | .ok .skip w' => K undef w'
  | .ok (.enter f args) w' => Calls P f args w' fun e w'' => ∃ v, e = .returned v ∧ K v w''
  | _ => False
theorem Does.mono {o : Oper} {K K' : Value → World → Prop} (h : Does P o a w K) (hk : ∀ v w, K v w → K' v w) : Does P o a w K' := by
  unfold Does at *
  split at h
  · exact hk _ _ h
  · exact hk _ _ h
  · exact Calls.mono h fun e w' ⟨v, he, hK⟩ => ⟨v, he, hk _ _ hK⟩
  · exact h.elim
theorem Does.wp {o : Oper} {K : Value → World → Prop} {next : Act → World → Prop} {Q : Exit → Act → World → Prop} (h : Does P o a w K) (hk : ∀ v w, K v w → next (a.put o.dst v) w) : o.wp P a w next Q := by
  unfold Does at h
  unfold Oper.wp
  generalize (execOp a.eval o).run P w = r at *
  split at h
  · exact hk _ _ h
  · exact hk _ _ h
  · simp only [Oper.upon]
    refine Calls.mono h fun e w' ⟨v, he, hK⟩ => ?_
    subst he
    exact hk _ _ hK
  · exact h.elim
theorem Good.op {ops : Array Oper} {i : Nat} {rest : List Nat} {o : Oper} (ho : ops[i]? = some o) (hw : Region.wanted o (yielded ops a.tmps) = true) (hnd : ∀ c, o.op ≠ .defer c)
    {K : Value → World → Prop} (hd : Does P o a w K) (h : ∀ v w', K v w' → Good P f R (.inRegion ops rest :: k) (a.put o.dst v) w') : Good P f R (.inRegion ops (i :: rest) :: k) a w := by
  intro b cs hb hk hro
  have hg := stepGR_op (P := P) (b := b) (a := f.act a) (k := k) (cs := cs) (w := w) (rest := rest) ho (by simpa [Fr.act] using hw)
  rw [act_eval, Oper.semAt_eq _ _ _ hnd] at hg
  have hfin : ∀ v, (b.atR (f.act a) (.inRegion ops (i :: rest) :: k)).finish v = b.atR (f.act (a.put o.dst v)) (.inRegion ops rest :: k) := by
    intro v; rw [Frame.finish_atR, ho, ← act_put]; rfl
  unfold Does at hd
  split at hd
  · rename_i v w' hr
    refine FinAt.steps (.one (step_lone_go ?_)) (h v w' hd b cs hb hk hro)
    rw [hg, ← hfin]; simp [stepG.apply, hr]
  · rename_i w' hr
    refine FinAt.steps (.one (step_lone_go ?_)) (h undef w' hd b cs hb hk hro)
    rw [hg, ← hfin]; simp [stepG.apply, hr]
  · rename_i g args w' hr
    obtain ⟨e, w'', fr, ⟨v, rfl, hK⟩, hsteps, _, hleave⟩ := hd (b.atR (f.act a) (.inRegion ops (i :: rest) :: k) :: cs)
    have henter : Go.step P (lone (b.atR (f.act a) (.inRegion ops (i :: rest) :: k)) cs w) =
        .next (lone (Frame.enter P g args .normal) (b.atR (f.act a) (.inRegion ops (i :: rest) :: k) :: cs) w') :=
      step_lone_go (by rw [hg]; simp [stepG.apply, hr, Frame.atR])
    refine FinAt.steps (.head henter (Steps.trans hsteps (.one ?_))) (h v w'' hK b cs hb hk hro)
    rw [← hfin]; exact step_leave_returned hleave
  · exact hd.elim

theorem calls_of_good {g : FuncId} {fn : Func} {c : Code} {args : Array Value} (hf : P.funcs[g]? = some fn) (hb : fn.body = some c)
    (h : Good P ⟨g, none, []⟩ R [.code c] { tmps := args ++ Array.replicate (fn.ntmps - args.size) undef, defers := [] } w) : Calls P g args w R := by
  intro cs
  let b : Frame := { (default : Frame) with fn := g, kind := .normal, roundOf := none }
  have henter : Frame.enter P g args .normal =
      b.atR (Fr.act ⟨g, none, []⟩ { tmps := args ++ Array.replicate (fn.ntmps - args.size) undef, defers := [] }) [.code c] := by
    simp [Frame.enter, Frame.atR, hf, hb, b, Fr.act]
  rw [henter]
  exact h b cs rfl rfl rfl

/-- A loop: whatever holds at its head holds at each round's head, and something goes down. -/
theorem Good.rounds {X : Type} {c : Code} (I : X → Act → World → Prop) (μ : X → Nat)
    (round : ∀ x a w, I x a w → (∀ x' a' w', I x' a' w' → μ x' < μ x → Good P f R (.inLoop c :: k) a' w') → Good P f R (.code c :: .inLoop c :: k) a w)
    (x : X) (h : I x a w) : Good P f R (.code (.loop c) :: k) a w := by
  have key : ∀ n x a w, μ x = n → I x a w → Good P f R (.code c :: .inLoop c :: k) a w := by
    intro n
    induction n using Nat.strongRecOn with
    | _ n ih =>
      intro x a w hn hI
      exact round x a w hI fun x' a' w' hI' hlt => .inLoop (ih (μ x') (hn ▸ hlt) x' a' w' rfl hI')
  exact .loop (key _ x a w rfl h)
end
end Go.Sx
