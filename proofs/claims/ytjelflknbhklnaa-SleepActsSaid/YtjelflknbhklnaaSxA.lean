/- The machine's steps as rules on 'from here on the call ends well'. -/
import Derived.Calls
import Derived.Orders
import Derived.Tactics
namespace Go.Sx
set_option linter.unusedVariables false
set_option linter.unusedSimpArgs false

/-- From these items, frame and world on the call of f ends as R says. -/
def Good (P : Program) (f : FuncId) (R : Ending → World → Prop) (todo : List Item) (a : Act) (w : World) : Prop :=
  ∀ (b : Frame) (cs : List Frame), b.fn = f → b.kind = .normal →
    ∃ e w' fr, R e w' ∧ Comes P (lone (b.at a todo) cs w) (lone fr cs w') e ∧ fr.fn = f ∧ fr.leaving P w' e

section
variable {P : Program} {f : FuncId} {R : Ending → World → Prop} {k : List Item} {a : Act} {w : World}

theorem Good.step {todo todo' : List Item} {a' : Act} {w' : World}
    (hs : ∀ (b : Frame) (cs : List Frame), step P (lone (b.at a todo) cs w) = .next (lone (b.at a' todo') cs w'))
    (h : Good P f R todo' a' w') : Good P f R todo a w := by
  intro b cs hb hk
  obtain ⟨e, w₁, fr, hR, hc, hrest⟩ := h b cs hb hk
  exact ⟨e, w₁, fr, hR, .of_steps (.one (hs b cs)) hc, hrest⟩
theorem Good.seq {x y : Code} (h : Good P f R (.code x :: .code y :: k) a w) : Good P f R (.code (.seq x y) :: k) a w := .step (fun _ _ => step_seq) h
theorem Good.skip (h : Good P f R k a w) : Good P f R (.code .skip :: k) a w := .step (fun _ _ => step_skip) h
theorem Good.label {l : Nat} (h : Good P f R k a w) : Good P f R (.code (.label l) :: k) a w := .step (fun _ _ => step_label) h
theorem Good.inBlock {l : Nat} (h : Good P f R k a w) : Good P f R (.inBlock l :: k) a w := .step (fun _ _ => step_inBlock) h
theorem Good.cond {c : Operand} {x y : Code} {t : Bool} (hc : a.eval c = .bool t) (h : Good P f R (.code (if t then x else y) :: k) a w) : Good P f R (.code (.cond c x y) :: k) a w := .step (fun _ _ => step_cond hc) h
theorem Good.block {l : Nat} {c : Code} (h : Good P f R (.code c :: .inBlock l :: k) a w) : Good P f R (.code (.block l c) :: k) a w := .step (fun _ _ => step_block) h
theorem Good.loop {c : Code} (h : Good P f R (.code c :: .inLoop c :: k) a w) : Good P f R (.code (.loop c) :: k) a w := .step (fun _ _ => step_loop) h
theorem Good.inLoop {c : Code} (h : Good P f R (.code c :: .inLoop c :: k) a w) : Good P f R (.inLoop c :: k) a w := .step (fun _ _ => step_inLoop) h
theorem Good.exit {l : Nat} {k' : List Item} (hk : exitTo l k = some k') (h : Good P f R k' a w) : Good P f R (.code (.exit l) :: k) a w := .step (fun _ _ => step_exit hk) h
theorem step_scope {b : Frame} {cs : List Frame} {c : Code} : Go.step P (lone (b.at a (.code (.scope c) :: k)) cs w) = .next (lone (b.at a (.code c :: .inScope c :: k)) cs w) :=
  step_lone_go (by simp [stepG, stepG.exec, Frame.at])
theorem step_inScope {b : Frame} {cs : List Frame} {c : Code} : Go.step P (lone (b.at a (.inScope c :: k)) cs w) = .next (lone (b.at a k) cs w) :=
  step_lone_go (by simp [stepG, stepG.exec, Frame.at])
theorem Good.scope {c : Code} (h : Good P f R (.code c :: .inScope c :: k) a w) : Good P f R (.code (.scope c) :: k) a w := .step (fun _ _ => step_scope) h
theorem Good.inScope {c : Code} (h : Good P f R k a w) : Good P f R (.inScope c :: k) a w := .step (fun _ _ => step_inScope) h
theorem Good.goto {l : Nat} {k' : List Item} (hk : gotoIn l k = some k') (h : Good P f R k' a w) : Good P f R (.code (.goto l) :: k) a w := .step (fun _ _ => step_goto hk) h
theorem Good.region {id : Nat} {ops : Array Oper} (h : Good P f R (.inRegion ops (List.range ops.size) :: k) a w) : Good P f R (.code (.region id ops false) :: k) a w := .step (fun _ _ => step_region) h
theorem Good.regionEnd {ops : Array Oper} (h : Good P f R k a w) : Good P f R (.inRegion ops [] :: k) a w := .step (fun _ _ => step_region_end) h

theorem Good.ret {fn : Func} {v : Value} (hf : P.funcs[f]? = some fn) (hd : a.defers = []) (hr : (results fn a.tmps).run P w = .ok v w) (h : R (.returned v) w) : Good P f R (.code .ret :: k) a w := by
  intro b cs hb hk
  refine ⟨_, w, _, h, Steps.one step_ret, hb, ?_⟩
  exact ⟨rfl, hd, hk, fn, by simpa [Frame.at, hb] using hf, hr⟩
theorem Good.end_ {fn : Func} {v : Value} (hf : P.funcs[f]? = some fn) (hd : a.defers = []) (hr : (results fn a.tmps).run P w = .ok v w) (h : R (.returned v) w) : Good P f R [] a w := by
  intro b cs hb hk
  refine ⟨_, w, _, h, Steps.one step_end, hb, ?_⟩
  exact ⟨rfl, hd, hk, fn, by simpa [Frame.at, hb] using hf, hr⟩

/-- An operation that isn't wanted is passed over. -/
theorem Good.opSkip {ops : Array Oper} {i : Nat} {rest : List Nat} {o : Oper} (ho : ops[i]? = some o) (hw : Region.wanted o (yielded ops a.tmps) = false)
    (h : Good P f R (.inRegion ops rest :: k) (a.put o.dst undef) w) : Good P f R (.inRegion ops (i :: rest) :: k) a w := by
  refine .step (fun b cs => ?_) h
  have := step_op_skip (P := P) (b := b) (a := a) (k := k) (cs := cs) (w := w) (ops := ops) (i := i) (rest := rest) (by simp [ho, hw])
  simpa [ho] using this

/-- What an operation comes to. -/
def Does (P : Program) (o : Oper) (a : Act) (w : World) (K : Value → World → Prop) : Prop :=
  match (execOp a.eval o).run P w with
  | .ok (.value v) w' => K v w'
  | .ok .skip w' => K undef w'
  | .ok (.enter f args) w' => Calls P f args w' fun e w'' => ∃ v, e = .returned v ∧ K v w''
  | _ => False
theorem Does.mono {o : Oper} {K K' : Value → World → Prop} (h : Does P o a w K) (hk : ∀ v w, K v w → K' v w) : Does P o a w K' := by
  unfold Does at *
  split at h
  · exact hk _ _ h
  · exact hk _ _ h
  · exact Calls.mono h fun e w' ⟨v, he, hK⟩ => ⟨v, he, hk _ _ hK⟩
  · exact h.elim
theorem Does.wp {o : Oper} {K : Value → World → Prop} {next : Act → World → Prop} {Q : Exit → Act → World → Prop} (h : Does P o a w K) (hk : ∀ v w, K v w → next (a.put o.dst v) w) : o.wp P a w next Q := by
  unfold Does at h
  unfold Oper.wp
  generalize (execOp a.eval o).run P w = r at *
  split at h
  · exact hk _ _ h
  · exact hk _ _ h
  · simp only [Oper.upon]
    refine Calls.mono h fun e w' ⟨v, he, hK⟩ => ?_
    subst he
    exact hk _ _ hK
  · exact h.elim
theorem Good.op {ops : Array Oper} {i : Nat} {rest : List Nat} {o : Oper} (ho : ops[i]? = some o) (hw : Region.wanted o (yielded ops a.tmps) = true)
    {K : Value → World → Prop} (hd : Does P o a w K) (h : ∀ v w', K v w' → Good P f R (.inRegion ops rest :: k) (a.put o.dst v) w') : Good P f R (.inRegion ops (i :: rest) :: k) a w := by
  intro b cs hb hk
  have hg := stepG_op (P := P) (b := b) (k := k) (cs := cs) (w := w) (rest := rest) ho hw
  have hfin : ∀ v, (b.at a (.inRegion ops (i :: rest) :: k)).finish v = b.at (a.put o.dst v) (.inRegion ops rest :: k) := by
    intro v; rw [Frame.finish_at, ho]; rfl
  unfold Does at hd
  split at hd
  · rename_i v w' hr
    obtain ⟨e, w₁, fr, hR, hc, hrest⟩ := h v w' hd b cs hb hk
    refine ⟨e, w₁, fr, hR, .of_steps (.one (step_lone_go ?_)) hc, hrest⟩
    rw [hg, ← hfin]; simp [stepG.apply, hr]
  · rename_i w' hr
    obtain ⟨e, w₁, fr, hR, hc, hrest⟩ := h undef w' hd b cs hb hk
    refine ⟨e, w₁, fr, hR, .of_steps (.one (step_lone_go ?_)) hc, hrest⟩
    rw [hg, ← hfin]; simp [stepG.apply, hr]
  · rename_i g args w' hr
    obtain ⟨e, w'', fr, ⟨v, rfl, hK⟩, hsteps, _, hleave⟩ := hd (b.at a (.inRegion ops (i :: rest) :: k) :: cs)
    have henter : Go.step P (lone (b.at a (.inRegion ops (i :: rest) :: k)) cs w) =
        .next (lone (Frame.enter P g args .normal) (b.at a (.inRegion ops (i :: rest) :: k) :: cs) w') :=
      step_lone_go (by rw [hg]; simp [stepG.apply, hr, Frame.at])
    obtain ⟨e, w₁, fr₁, hR, hc, hrest⟩ := h v w'' hK b cs hb hk
    refine ⟨e, w₁, fr₁, hR, .of_steps (.head henter (Steps.trans hsteps (.one ?_))) hc, hrest⟩
    rw [← hfin]; exact step_leave_returned hleave
  · exact hd.elim

theorem calls_of_good {fn : Func} {c : Code} {args : Array Value} (hf : P.funcs[f]? = some fn) (hb : fn.body = some c)
    (h : Good P f R [.code c] { tmps := args ++ Array.replicate (fn.ntmps - args.size) undef, defers := [] } w) : Calls P f args w R := by
  intro cs
  let b : Frame := { (default : Frame) with fn := f, kind := .normal }
  have henter : Frame.enter P f args .normal =
      b.at { tmps := args ++ Array.replicate (fn.ntmps - args.size) undef, defers := [] } [.code c] := by
    simp [Frame.enter, Frame.at, hf, hb, b]
  rw [henter]
  exact h b cs rfl rfl

/-- A loop: whatever holds at its head holds at each round's head, and something goes down. -/
theorem Good.rounds {X : Type} {c : Code} (I : X → Act → World → Prop) (μ : X → Nat)
    (round : ∀ x a w, I x a w → (∀ x' a' w', I x' a' w' → μ x' < μ x → Good P f R (.inLoop c :: k) a' w') → Good P f R (.code c :: .inLoop c :: k) a w)
    (x : X) (h : I x a w) : Good P f R (.code (.loop c) :: k) a w := by
  have key : ∀ n x a w, μ x = n → I x a w → Good P f R (.code c :: .inLoop c :: k) a w := by
    intro n
    induction n using Nat.strongRecOn with
    | _ n ih =>
      intro x a w hn hI
      exact round x a w hI fun x' a' w' hI' hlt => .inLoop (ih (μ x') (hn ▸ hlt) x' a' w' rfl hI')
  exact .loop (key _ x a w rfl h)
end
end Go.Sx
