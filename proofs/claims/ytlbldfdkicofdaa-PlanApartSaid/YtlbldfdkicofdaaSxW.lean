/- A range over a function: the rounds go on in memory; who ranges and who is ranged over wait. -/
import Derived.Test.YtlbldfdkicofdaaSxV
namespace Go.Sx
open Go.RowKit
set_option linter.unusedVariables false
set_option linter.unusedSimpArgs false
set_option linter.unusedSectionVars false
def Base.lay (W : Base) (l : Nat) (L : Loop) : Base := { W with objs := (l, .lp L) :: W.objs }
def Base.mark (W : Base) (D : Nat) : Base := { W with objs := (D, .df (some [])) :: W.objs }
def Base.wait (W : Base) (vs : List Value) : Base := { W with gs := vs ++ W.gs }
def markOf (D : Nat) : Deferred := { target := .collected D, args := #[] }
def yieldOf (l : Nat) : SV := .cv (.one (.v (.func (.yield l) #[] #[])))
/-- What is put into the parameters' slots. -/
def putPs : List SV → List Tmp → List SV → List SV
  | F, t :: ts, x :: xs => putPs (F.set t x) ts xs
  | F, _, _ => F
section
variable {P : Program} {f : Fr} {g : FuncId} {R R' : Ending → World → Prop} {W W' : Base} {T : Tab} {k k' : List Item} {s : St}
theorem Mem.addObj {ρ : Env} {w : World} {o : Ob} {j : Nat} (h : Mem W s ρ w) (ho : w.heap[j]? = some o.obj) (hl : W.w.heap.size ≤ j) (hn : ∀ q o2, (q, o2) ∈ W.objs → q ≠ j) : Mem { W with objs := (j, o) :: W.objs } s ρ w := by
  refine h.reobj rfl rfl rfl (fun q o2 hq => ?_) (fun q o2 hq => ?_) ?_
  · rcases List.mem_cons.1 hq with e | hq
    · injection e with e1 e2; subst e1 e2; exact ho
    · exact h.below.objs q o2 hq
  · rcases List.mem_cons.1 hq with e | hq
    · injection e with e1 e2; subst e1 e2; exact hl
    · exact h.below.low q o2 hq
  · simp only [List.map_cons, List.nodup_cons, List.mem_map, not_exists, not_and]
    exact ⟨fun x hx e => hn x.1 x.2 hx e, h.below.nd⟩
theorem Mem.dropObj {ρ : Env} {w : World} {o : Ob} {j : Nat} (h : Mem { W with objs := (j, o) :: W.objs } s ρ w) : Mem W s ρ w :=
  h.reobj rfl rfl rfl (fun q o2 hq => h.below.objs q o2 (by simp [hq])) (fun q o2 hq => h.below.low q o2 (by simp [hq])) (by have := h.below.nd; simp only [List.map_cons, List.nodup_cons] at this; exact this.2)
theorem reps_putPs {ρ : Env} : ∀ (ts : List Tmp) (xs : List SV) (us : List Value) {F : List SV} {vs : Array Value}, reps ρ F vs.toList → reps ρ xs us → reps ρ (putPs F ts xs) ((ts.zip us).foldl (fun (tmps : Array Value) (x : Tmp × Value) => tmps.setIfInBounds x.1 x.2) vs).toList
  | [], xs, us, F, vs, h, hx => by simpa [putPs] using h
  | t :: ts, [], [], F, vs, h, hx => by simpa [putPs] using h
  | t :: ts, x :: xs, u :: us, F, vs, h, hx => by
    simp only [putPs, List.zip_cons_cons, List.foldl_cons]
    exact reps_putPs ts xs us (by rw [Array.toList_setIfInBounds]; exact reps_set t h hx.1) hx.2
  | t :: ts, [], u :: us, F, vs, h, hx => hx.elim
  | t :: ts, x :: xs, [], F, vs, h, hx => hx.elim

/-- Back to who ranges, when what was ranged over has returned. -/
structure LBack (P : Program) (f : Fr) (R : Ending → World → Prop) (W : Base) (R' : Ending → World → Prop) (k : List Item) (T0 : Array Value) (D l : Nat) (L : Loop) (n : Nat) : Prop where
  size : T0.size = n
  ok : ∀ st pd (F0 F' G' : List SV) (B' : List (Option (List At))) (Rs' : List (Option Row)), st ≠ LoopState.busy → rowsPos Rs' = true → F'.length = n →
    SG P ⟨f.fn, none, markOf D :: f.ds⟩ R (W.mark D) ((pd.map Item.code).toList ++ k) ⟨F', B', Rs', G'⟩ →
    ∀ ρ w v, Mem (((W.mark D).wait T0.toList).lay l { L with state := st, pending := pd }) ⟨F0, B', Rs', F' ++ G'⟩ ρ w → Dom ⟨F0, B', Rs', F' ++ G'⟩ ρ → R' (.returned v) w
theorem SG.rangeFunc {x : Operand} {ps : Array Tmp} {assign body c : Code} {caps : List Pt} {fn : Func} (hro : f.ro = none) (hc : s.get x = some (.cv (.one (.clo g caps))))
    (hf : P.funcs[g]? = some fn) (hn : (fn.name == "runtime.NumGoroutine") = false) (hb : fn.body = some c)
    (h : ∀ (T0 : Array Value) (D l : Nat) R', LBack P f R W R' k T0 D l ⟨.ready, none, f.fn, T0, ps, assign, body, D⟩ s.F.length →
      SG P ⟨g, none, []⟩ R' (((W.mark D).wait T0.toList).lay l ⟨.ready, none, f.fn, T0, ps, assign, body, D⟩) [.code c]
        ⟨(yieldOf l :: caps.map fun p => .cv (.one (.pt p))) ++ List.replicate (fn.ntmps - (caps.length + 1)) (.tup []), s.B, s.R, s.F ++ s.G⟩) :
    SG P f R W (.code (.rangeFunc x ps assign body) :: k) s := by
  refine ⟨fun ρ w a hm hfr hdm => ?_⟩
  have hx := St.get_ok hfr hc
  simp only [SV.rep, Cv.den, At.den, Option.map_eq_some_iff] at hx
  obtain ⟨us, hus, hv⟩ := hx
  have hlen := reps_len hfr.tmps
  -- the world with the record
  let L : Loop := ⟨.ready, none, f.fn, a.tmps, ps, assign, body, w.heap.size⟩
  let w1 := w.alloc (.deferred (some []))
  let w2 := w1.alloc (.loop L)
  have hb1 : Below w.heap.size w w2 := ((Below.refl _ _).alloc (Nat.le_refl _) _).alloc (by simp) _
  have hm2 : Mem W s ρ w2 := hm.callee hb1
  have hD : w2.heap[w.heap.size]? = some (Ob.df (some [])).obj := (Below.heap_alloc w1 _ _ (by simp [w1])).trans (heap_alloc_new w _)
  have hl : w2.heap[w.heap.size + 1]? = some (Ob.lp L).obj := by
    have := heap_alloc_new w1 (.loop L)
    rwa [show w1.heap.size = w.heap.size + 1 by simp [w1]] at this
  have hm3 : Mem (W.mark w.heap.size) s ρ w2 := hm2.addObj hD hm.below.size (fun q o2 hq => by have := heap_lt (hm.below.objs q o2 hq); omega)
  have hm4 : Mem ((W.mark w.heap.size).lay (w.heap.size + 1) L) s ρ w2 := hm3.addObj (o := .lp L) hl (by have := hm.below.size; show W.w.heap.size ≤ _; omega) (fun q o2 hq => by
    rcases List.mem_cons.1 hq with e | hq
    · injection e with e1 e2; omega
    · have := heap_lt (hm.below.objs q o2 hq); omega)
  have hback : LBack P f R W (fun e w'' => ∃ v, e = .returned v ∧ ∀ (b : Frame) (cs : List Frame), b.fn = f.fn → b.kind = .normal → b.roundOf = f.ro → FinAt P f R (lone ((b.atR (Fr.act f { a with defers := markOf w.heap.size :: a.defers }) (.inRangeFunc (w.heap.size + 1) :: k)).finish v) cs w'') cs) k a.tmps w.heap.size (w.heap.size + 1) L s.F.length := by
    refine ⟨by simpa using hlen, fun st pd F0 F' G' B' Rs' hst hpos hFl hsg ρ' w' v hm' hd' => ⟨v, rfl, fun b cs hb hk hbro => ?_⟩⟩
    rw [finish_atR_inRangeFunc]
    have hlo := hm'.below.objs (w.heap.size + 1) _ (List.mem_cons_self ..)
    have hend := run_endLoop (P := P) hlo hst
    refine FinAt.steps (.one (stepR_endRangeFunc hend)) ?_
    have hm5 := (Mem.putObj (W := (W.mark w.heap.size).wait a.tmps.toList) (o' := .lp { L with state := .exhausted, pending := pd }) hm' hpos).dropObj (W := (W.mark w.heap.size).wait a.tmps.toList)
    obtain ⟨g1, g2⟩ := reps_split (by simp only [Array.length_toList]; rw [Array.length_toList] at hlen; omega) hm5.ghost
    have hgood := hsg.run ρ' _ { tmps := a.tmps, defers := [] } (hm5.rebase (W' := W.mark w.heap.size) (s' := ⟨F', B', Rs', G'⟩) rfl rfl rfl rfl rfl g2) ⟨rfl, g1⟩ ⟨hd'.box, hd'.row⟩
    have := hgood b cs hb hk (by rw [hbro, hro])
    unfold FinAt at this ⊢
    rw [hro]
    have e : Fr.act f { a with defers := markOf w.heap.size :: a.defers } = Fr.act ⟨f.fn, none, markOf w.heap.size :: f.ds⟩ { tmps := a.tmps, defers := [] } := by
      simp [Fr.act, hfr.defers]
    rw [e]
    exact this
  have hsg := h a.tmps w.heap.size (w.heap.size + 1) _ hback
  have hcall := calls_of_good (args := (.func (.yield (w.heap.size + 1)) #[] #[] :: us).toArray) hf hb (hsg.run ρ w2 _ ((hm4.rebase (W' := ((W.mark w.heap.size).wait a.tmps.toList).lay (w.heap.size + 1) L) (s' := ⟨_, s.B, s.R, s.F ++ s.G⟩) rfl rfl rfl rfl rfl (reps_append hfr.tmps hm.ghost))) ⟨rfl, ?_⟩ ⟨hdm.box, hdm.row⟩)
  · intro b cs hb' hk hbro
    have he : (Instr.enterLoop b.fn (f.act a).tmps ps assign body b.roundOf).run P w = .ok (w.heap.size + 1, [markOf w.heap.size]) w2 := by
      rw [hb', hbro, hro]; exact run_enterLoop_outer f.fn a.tmps ps assign body
    have hres : (resolve (f.act a).eval (rangeCall x (w.heap.size + 1)) 0).run P w2 = .ok { target := .fn (.func g) us.toArray, args := #[.func (.yield (w.heap.size + 1)) #[] #[]] } w2 := by
      rw [act_eval]
      simp only [resolve, rangeCall, ← hv, Deferred.ofValue]
      simp [pure, Sem.run, Act.eval]
    have hinv : (invoke (.fn (.func g) us.toArray) #[.func (.yield (w.heap.size + 1)) #[] #[]]).run P w2 = .ok (.enter g (.func (.yield (w.heap.size + 1)) #[] #[] :: us).toArray) w2 := by
      have hbn : fn.body.isNone = false := by rw [hb]; rfl
      simp only [invoke, callFunc, Sem.run_bind, pure, Sem.run, Result.andThen_ok, program, hf, hn, hbn]
      simp [Sem.run, pure]
    have hstep := stepR_rangeFunc (P := P) (b := b) (a := f.act a) (k := k) (cs := cs) (w := w) he hres hinv
    obtain ⟨e, w'', fr, ⟨v, rfl, hK⟩, hsteps, _, hleave⟩ := hcall (b.atR { (f.act a) with defers := [markOf w.heap.size] ++ (f.act a).defers } (.inRangeFunc (w.heap.size + 1) :: k) :: cs)
    refine FinAt.steps (.head hstep (Steps.trans hsteps (.one (step_leave_returned hleave)))) ?_
    exact hK b cs hb' hk hbro
  · have hc' := ptDens_reps hus
    have hl := reps_len hc'
    have e1 : (.func (.yield (w.heap.size + 1)) #[] #[] :: us : List Value).toArray.size = caps.length + 1 := by simpa using hl
    simp only [Array.toList_append, Array.toList_replicate, e1]
    exact reps_append (F := yieldOf _ :: caps.map fun p => .cv (.one (.pt p))) ⟨rfl, hc'⟩ (reps_undef _)

theorem Good.roundEnd {a : Act} {w w' : World} {v : Value} {l : Nat} (hro : f.ro = some l) (hr : (Instr.endRound l none).run P w = .ok v w') (h : R (.returned v) w') : Good P f R [] a w := by
  intro b cs hb hk hbro
  unfold FinAt
  rw [hro]
  intro c cs' hcs
  subst hcs
  exact ⟨v, w', h, .one (stepR_round_end (by rw [hbro, hro]) hk hr)⟩
theorem Good.roundRet {a : Act} {w w' : World} {v : Value} {l : Nat} (hro : f.ro = some l) (hr : (Instr.endRound l (some .ret)).run P w = .ok v w') (h : R (.returned v) w') : Good P f R (.code .ret :: k) a w := by
  intro b cs hb hk hbro
  unfold FinAt
  rw [hro]
  intro c cs' hcs
  subst hcs
  exact ⟨v, w', h, .one (stepR_round_ret (by rw [hbro, hro]) hk hr)⟩
theorem Good.roundExit {a : Act} {w w' : World} {v : Value} {l id : Nat} (hro : f.ro = some l) (hx : exitTo id k = none) (hr : (Instr.endRound l (some (.exit id))).run P w = .ok v w') (h : R (.returned v) w') : Good P f R (.code (.exit id) :: k) a w := by
  intro b cs hb hk hbro
  unfold FinAt
  rw [hro]
  intro c cs' hcs
  subst hcs
  exact ⟨v, w', h, .one (stepR_round_exit (by rw [hbro, hro]) hk hx hr)⟩

/-- Back from a round to who has asked for it. -/
structure YBack (P : Program) (f : Fr) (R : Ending → World → Prop) (W : Base) (l : Nat) (L : Loop) (todo : List Item) (dst : Option Tmp) (n : Nat) (T1 : List Value) (R' : Ending → World → Prop) : Prop where
  ok : ∀ st pd (F0 F' G' : List SV) (B' : List (Option (List At))) (Rs' : List (Option Row)) (x : Bool), F'.length = n →
    SG P f R (W.lay l { L with state := st, pending := pd }) todo (St.put ⟨F', B', Rs', G'⟩ dst (.cv (.one (.lb x)))) →
    ∀ ρ w, Mem ((W.wait T1).lay l { L with state := st, pending := pd }) ⟨F0, B', Rs', F' ++ G'⟩ ρ w → Dom ⟨F0, B', Rs', F' ++ G'⟩ ρ → R' (.returned (.bool x)) w
/-- A round is asked for. -/
theorem SG.yield {ops : Array Oper} {i : Nat} {rest : List Nat} {o : Oper} {c : Call} {y : Operand} {args : List SV} {l n : Nat} {L : Loop} {q : List Value} (ho : ops.toList[i]? = some o) (hg : guardOf s.F ops.toList o = .yes) (hop : o.op = .call c) (hcal : c.callee = .value y)
    (hy : s.get y = some (yieldOf l)) (has : argsOf s.get c.args.toList = some args) (hps : args.length = L.params.size) (hgs : W.gs = L.tmps.toList ++ q) (hn : L.tmps.size = n)
    (h : ∀ T1 R', YBack P f R W l L (.inRegion ops rest :: k) o.dst s.F.length T1 R' → SG P ⟨L.fn, some l, []⟩ R' ((W.wait T1).lay l L) [.code L.assign, .beginRound, .code L.body] ⟨putPs (s.G.take n) L.params.toList args, s.B, s.R, s.F ++ s.G⟩) :
    SG P f R (W.lay l L) (.inRegion ops (i :: rest) :: k) s := by
  refine ⟨fun ρ w a hm hfr hdm => ?_⟩
  have hyv := St.get_ok hfr hy
  simp only [yieldOf, SV.rep, Cv.den, At.den] at hyv
  injection hyv with hyv
  have har := argsOf_ok (fun x sv hx => St.get_ok hfr hx) has
  have hal := reps_len har
  have hlen := reps_len hfr.tmps
  have hobj := hm.below.objs l (.lp L) (List.mem_cons_self ..)
  have hrun : (execOp a.eval o).run P w = .ok (.round l L.fn ((L.params.zip (c.args.map a.eval)).foldl (fun tmps (t, a) => tmps.setIfInBounds t a) L.tmps) L.assign L.body) w := by
    have := run_yield (P := P) (args := c.args.map a.eval) hobj (by simp only [List.length_map, Array.length_toList] at hal; simpa using hal.trans hps)
    unfold execOp
    rw [hop]
    simp only [resolve, hcal, ← hyv, Deferred.ofValue, invoke, Sem.run_bind, pure, Sem.run, Result.andThen_ok]
    simpa using this
  have hback : YBack P f R W l L (.inRegion ops rest :: k) o.dst s.F.length a.tmps.toList (fun e w'' => ∃ v, e = .returned v ∧ Good P f R (.inRegion ops rest :: k) (a.put o.dst v) w'') := by
    refine ⟨fun st pd F0 F' G' B' Rs' x hFl hsg ρ' w' hm' hd' => ⟨_, rfl, ?_⟩⟩
    obtain ⟨g1, g2⟩ := reps_split (by omega) hm'.ghost
    refine hsg.run ρ' w' _ ((hm'.rebase (W' := W.lay l { L with state := st, pending := pd }) (s' := ⟨F', B', Rs', G'⟩) rfl rfl rfl rfl rfl g2).put _ _) ?_ ((Dom.mk (s := ⟨F', B', Rs', G'⟩) hd'.box hd'.row).put _ _)
    exact reps_put_any (x := .cv (.one (.lb x))) ⟨hfr.defers, g1⟩ o rfl _ rfl
  have hgh : reps ρ s.G (L.tmps.toList ++ q) := by have := hm.ghost; rw [show (W.lay l L).gs = W.gs from rfl, hgs] at this; exact this
  have hGl := reps_len hgh
  obtain ⟨e1, _⟩ := reps_split (F := s.G.take n) (G := s.G.drop n) (vs := L.tmps.toList) (us := q) (by simp only [List.length_append, Array.length_toList] at hGl; simp only [List.length_take, Array.length_toList]; omega) (by rw [List.take_append_drop]; exact hgh)
  have hgood := (h a.tmps.toList _ hback).run ρ w { tmps := (L.params.zip (c.args.map a.eval)).foldl (fun tmps (t, a) => tmps.setIfInBounds t a) L.tmps, defers := [] } (hm.rebase rfl rfl rfl rfl rfl (reps_append hfr.tmps hm.ghost)) ⟨rfl, ?_⟩ ⟨hdm.box, hdm.row⟩
  · intro b cs hb hk hbro
    have hgr := stepGR_op (P := P) (b := b) (a := f.act a) (k := k) (cs := cs) (w := w) (rest := rest) (by simpa using ho) (by simpa [Fr.act] using guardOf_yes hfr hg)
    rw [act_eval, Oper.semAt_eq _ _ _ (by intro c'; rw [hop]; simp)] at hgr
    have henter : Go.step P (lone (b.atR (f.act a) (.inRegion ops (i :: rest) :: k)) cs w) =
        .next (lone (Frame.round l L.fn ((L.params.zip (c.args.map a.eval)).foldl (fun tmps (t, a) => tmps.setIfInBounds t a) L.tmps) L.assign L.body .normal) (b.atR (f.act a) (.inRegion ops (i :: rest) :: k) :: cs) w) :=
      step_lone_go (by rw [hgr]; simp [stepG.apply, hrun, Frame.atR])
    have hfin := hgood { (default : Frame) with fn := L.fn, kind := .normal, roundOf := some l } (b.atR (f.act a) (.inRegion ops (i :: rest) :: k) :: cs) rfl rfl rfl
    obtain ⟨v, w', ⟨v', hv', hG⟩, hsteps⟩ := hfin _ _ rfl
    injection hv' with hv'; subst hv'
    refine FinAt.steps (.head henter (Steps.trans ?_ hsteps)) ?_
    · have : Frame.round l L.fn ((L.params.zip (c.args.map a.eval)).foldl (fun tmps (t, a) => tmps.setIfInBounds t a) L.tmps) L.assign L.body .normal = ({ (default : Frame) with fn := L.fn, kind := .normal, roundOf := some l } : Frame).atR (Fr.act ⟨L.fn, some l, []⟩ { tmps := (L.params.zip (c.args.map a.eval)).foldl (fun tmps (t, a) => tmps.setIfInBounds t a) L.tmps, defers := [] }) [.code L.assign, .beginRound, .code L.body] := by
        simp [Frame.round, Frame.atR, Fr.act]
      rw [this]; exact ⟨0, rfl⟩
    · have hfinish : (b.atR (f.act a) (.inRegion ops (i :: rest) :: k)).finish v = b.atR (f.act (a.put o.dst v)) (.inRegion ops rest :: k) := by
        have ho' : ops[i]? = some o := by simpa using ho
        rw [Frame.finish_atR, ho', ← act_put]; rfl
      rw [hfinish]
      exact hG b cs hb hk hbro
  · have := reps_putPs L.params.toList args (c.args.map a.eval).toList (vs := L.tmps) e1 (by simpa using har)
    rw [← Array.toList_zip] at this
    rwa [Array.foldl_toList] at this
theorem SG.begin {l : Nat} {L : Loop} (hst : L.state = .ready) (hro : f.ro = some l) (hp : rowsPos s.R = true) (h : SG P f R (W.lay l { L with state := .busy }) k s) : SG P f R (W.lay l L) (.beginRound :: k) s := by
  refine ⟨fun ρ w a hm hfr hdm => ?_⟩
  have hobj := hm.below.objs l (.lp L) (List.mem_cons_self ..)
  have hm2 := Mem.putObj (W := W) (o' := .lp { L with state := .busy }) hm hp
  intro b cs hb hk hbro
  exact FinAt.steps (.one (stepR_beginRound (by rw [hbro, hro]) (run_beginRound hobj hst))) (h.run ρ _ a hm2 hfr hdm b cs hb hk hbro)
theorem YBack.use {todo : List Item} {dst : Option Tmp} {n l : Nat} {L : Loop} {T1 : List Value} {f : Fr} (hb : YBack P f R W l L todo dst n T1 R') (hp : rowsPos s.R = true) (hn : n ≤ s.G.length) {ρ : Env} {w : World} {L' : Loop} (hm : Mem ((W.wait T1).lay l L') s ρ w) (hd : Dom s ρ) (st : LoopState) (pd : Option Code) (x : Bool)
    (h : SG P f R (W.lay l { L with state := st, pending := pd }) todo (St.put ⟨s.G.take n, s.B, s.R, s.G.drop n⟩ dst (.cv (.one (.lb x))))) : R' (.returned (.bool x)) (w.putObj l (.loop { L with state := st, pending := pd })) := by
  have e : s.G.take n ++ s.G.drop n = s.G := List.take_append_drop n s.G
  have hm2 := Mem.putObj (W := W.wait T1) (o' := .lp { L with state := st, pending := pd }) hm hp
  exact hb.ok st pd s.F (s.G.take n) (s.G.drop n) s.B s.R x (by simp [hn]) h ρ _ (by rw [e]; exact hm2) ⟨hd.box, hd.row⟩
/-- A round has ended: off its end; by a return; by an exit that goes out of it. -/
theorem SG.roundEnd {todo : List Item} {dst : Option Tmp} {n l : Nat} {L : Loop} {T1 : List Value} {fr : Fr} (hb : YBack P f R W l L todo dst n T1 R') (hro : fr.ro = some l) (hp : rowsPos s.R = true) (hn : n ≤ s.G.length)
    (h : SG P f R (W.lay l { L with state := .ready, pending := none }) todo (St.put ⟨s.G.take n, s.B, s.R, s.G.drop n⟩ dst (.cv (.one (.lb true))))) : SG P fr R' ((W.wait T1).lay l { L with state := .busy }) [] s := by
  refine ⟨fun ρ w a hm hfr hdm => ?_⟩
  have hobj := hm.below.objs l (.lp { L with state := .busy }) (List.mem_cons_self ..)
  exact Good.roundEnd hro (run_endRound none hobj) (hb.use hp hn hm hdm .ready none true h)
theorem SG.roundRet {todo : List Item} {dst : Option Tmp} {n l : Nat} {L : Loop} {T1 : List Value} {fr : Fr} (hb : YBack P f R W l L todo dst n T1 R') (hro : fr.ro = some l) (hp : rowsPos s.R = true) (hn : n ≤ s.G.length)
    (h : SG P f R (W.lay l { L with state := .done, pending := some .ret }) todo (St.put ⟨s.G.take n, s.B, s.R, s.G.drop n⟩ dst (.cv (.one (.lb false))))) : SG P fr R' ((W.wait T1).lay l { L with state := .busy }) (.code .ret :: k) s := by
  refine ⟨fun ρ w a hm hfr hdm => ?_⟩
  have hobj := hm.below.objs l (.lp { L with state := .busy }) (List.mem_cons_self ..)
  exact Good.roundRet hro (run_endRound (some .ret) hobj) (hb.use hp hn hm hdm .done (some .ret) false h)
theorem SG.roundExit {todo : List Item} {dst : Option Tmp} {n l id : Nat} {L : Loop} {T1 : List Value} {fr : Fr} (hb : YBack P f R W l L todo dst n T1 R') (hro : fr.ro = some l) (hp : rowsPos s.R = true) (hn : n ≤ s.G.length) (hx : exitTo id k = none)
    (h : SG P f R (W.lay l { L with state := .done, pending := some (.exit id) }) todo (St.put ⟨s.G.take n, s.B, s.R, s.G.drop n⟩ dst (.cv (.one (.lb false))))) : SG P fr R' ((W.wait T1).lay l { L with state := .busy }) (.code (.exit id) :: k) s := by
  refine ⟨fun ρ w a hm hfr hdm => ?_⟩
  have hobj := hm.below.objs l (.lp { L with state := .busy }) (List.mem_cons_self ..)
  exact Good.roundExit hro hx (run_endRound (some (.exit id)) hobj) (hb.use hp hn hm hdm .done (some (.exit id)) false h)
/-- What was ranged over has returned: on with who ranges. -/
theorem LBack.use {T0 : Array Value} {D l n : Nat} {L : Loop} (hb : LBack P f R W R' k T0 D l L n) (st : LoopState) (pd : Option Code) (hst : st ≠ .busy) (hp : rowsPos s.R = true) (hn : n ≤ s.G.length)
    (h : SG P ⟨f.fn, none, markOf D :: f.ds⟩ R (W.mark D) ((pd.map Item.code).toList ++ k) ⟨s.G.take n, s.B, s.R, s.G.drop n⟩) :
    ∀ ρ w v, Mem (((W.mark D).wait T0.toList).lay l { L with state := st, pending := pd }) s ρ w → Dom s ρ → R' (.returned v) w := by
  intro ρ w v hm hd
  have e : s.G.take n ++ s.G.drop n = s.G := List.take_append_drop n s.G
  exact hb.ok st pd s.F (s.G.take n) (s.G.drop n) s.B s.R hst hp (by simp [hn]) h ρ w v (by rw [e]; exact hm) ⟨hd.box, hd.row⟩
theorem SG.lback {T0 : Array Value} {D l n : Nat} {L : Loop} {fg : Fr} (hb : LBack P f R W R' k T0 D l L n) {st : LoopState} {pd : Option Code} (hst : st ≠ .busy) (hT : TabOk P T) {fn : Func} (hf : P.funcs[fg.fn]? = some fn) {cs : List Cv} (hres : resCvs T s fn.results.toList = some cs) (hp : rowsPos s.R = true) (hn : n ≤ s.G.length)
    (hro : fg.ro = none) (hds : fg.ds = []) (h : SG P ⟨f.fn, none, markOf D :: f.ds⟩ R (W.mark D) ((pd.map Item.code).toList ++ k) ⟨s.G.take n, s.B, s.R, s.G.drop n⟩) : SG P fg R' (((W.mark D).wait T0.toList).lay l { L with state := st, pending := pd }) (.code .ret :: k') s := by
  obtain ⟨fg1, fg2, fg3⟩ := fg
  dsimp only at hro hds; subst hro hds
  exact SG.retD hT hf hres (fun ρ w v hm hd _ => hb.use st pd hst hp hn h ρ w v hm hd)
theorem SG.lbackEnd {T0 : Array Value} {D l n : Nat} {L : Loop} {fg : Fr} (hb : LBack P f R W R' k T0 D l L n) {st : LoopState} {pd : Option Code} (hst : st ≠ .busy) (hT : TabOk P T) {fn : Func} (hf : P.funcs[fg.fn]? = some fn) {cs : List Cv} (hres : resCvs T s fn.results.toList = some cs) (hp : rowsPos s.R = true) (hn : n ≤ s.G.length)
    (hro : fg.ro = none) (hds : fg.ds = []) (h : SG P ⟨f.fn, none, markOf D :: f.ds⟩ R (W.mark D) ((pd.map Item.code).toList ++ k) ⟨s.G.take n, s.B, s.R, s.G.drop n⟩) : SG P fg R' (((W.mark D).wait T0.toList).lay l { L with state := st, pending := pd }) [] s := by
  obtain ⟨fg1, fg2, fg3⟩ := fg
  dsimp only at hro hds; subst hro hds
  exact SG.doneD hT hf hres (fun ρ w v hm hd _ => hb.use st pd hst hp hn h ρ w v hm hd)

/-! The same, with the record as a name. -/
def lbusy (L : Loop) : Loop := { L with state := .busy }
def lover (L : Loop) (c : Code) : Loop := { L with state := .done, pending := some c }
structure Rng (P : Program) (f : Fr) (R : Ending → World → Prop) (W : Base) (R' : Ending → World → Prop) (k : List Item) (D l : Nat) (L : Loop) (n : Nat) (ps : Array Tmp) (assign body : Code) : Prop where
  back : LBack P f R W R' k L.tmps D l L n
  st : L.state = .ready
  pd : L.pending = none
  fn : L.fn = f.fn
  ps : L.params = ps
  as : L.assign = assign
  bd : L.body = body
theorem SG.range {x : Operand} {ps : Array Tmp} {assign body c : Code} {caps : List Pt} {fn : Func} (hro : f.ro = none) (hc : s.get x = some (.cv (.one (.clo g caps))))
    (hf : P.funcs[g]? = some fn) (hn : (fn.name == "runtime.NumGoroutine") = false) (hb : fn.body = some c)
    (h : ∀ (D l : Nat) (L : Loop) R', Rng P f R W R' k D l L s.F.length ps assign body →
      SG P ⟨g, none, []⟩ R' (((W.mark D).wait L.tmps.toList).lay l L) [.code c]
        ⟨(yieldOf l :: caps.map fun p => .cv (.one (.pt p))) ++ List.replicate (fn.ntmps - (caps.length + 1)) (.tup []), s.B, s.R, s.F ++ s.G⟩) :
    SG P f R W (.code (.rangeFunc x ps assign body) :: k) s :=
  SG.rangeFunc hro hc hf hn hb fun T0 D l R' hl => h D l ⟨.ready, none, f.fn, T0, ps, assign, body, D⟩ R' ⟨hl, rfl, rfl, rfl, rfl, rfl, rfl⟩
theorem SG.round {f0 : Fr} {R0 : Ending → World → Prop} {W0 : Base} {k0 : List Item} {D l n : Nat} {L : Loop} {ps : Array Tmp} {assign body : Code} (hl : Rng P f0 R0 W0 R' k0 D l L n ps assign body)
    {ops : Array Oper} {i : Nat} {rest : List Nat} {o : Oper} {c : Call} {y : Operand} {args : List SV} (ho : ops.toList[i]? = some o) (hg : guardOf s.F ops.toList o = .yes) (hop : o.op = .call c) (hcal : c.callee = .value y)
    (hy : s.get y = some (yieldOf l)) (has : argsOf s.get c.args.toList = some args) (hps : args.length = ps.size)
    (h : ∀ T1 R1, YBack P f R ((W0.mark D).wait L.tmps.toList) l L (.inRegion ops rest :: k) o.dst s.F.length T1 R1 → SG P ⟨f0.fn, some l, []⟩ R1 ((((W0.mark D).wait L.tmps.toList).wait T1).lay l L) [.code assign, .beginRound, .code body] ⟨putPs (s.G.take n) ps.toList args, s.B, s.R, s.F ++ s.G⟩) :
    SG P f R (((W0.mark D).wait L.tmps.toList).lay l L) (.inRegion ops (i :: rest) :: k) s := by
  refine SG.yield (q := (W0.mark D).gs) ho hg hop hcal hy has (by rw [hl.ps]; exact hps) rfl hl.back.size fun T1 R1 hb => ?_
  rw [hl.fn, hl.as, hl.bd, hl.ps]
  exact h T1 R1 hb
theorem SG.begin_ {f0 : Fr} {R0 : Ending → World → Prop} {W0 : Base} {k0 : List Item} {D l n : Nat} {L : Loop} {ps : Array Tmp} {assign body : Code} (hl : Rng P f0 R0 W0 R' k0 D l L n ps assign body) {R1 : Ending → World → Prop} (hro : f.ro = some l) (hp : rowsPos s.R = true)
    (h : SG P f R1 (W.lay l (lbusy L)) k s) : SG P f R1 (W.lay l L) (.beginRound :: k) s := SG.begin hl.st hro hp h
section
variable {f0 : Fr} {R0 : Ending → World → Prop} {W0 : Base} {k0 : List Item} {D l n : Nat} {L : Loop} {ps : Array Tmp} {assign body : Code} (hl : Rng P f0 R0 W0 R' k0 D l L n ps assign body)
  {todo : List Item} {dst : Option Tmp} {m : Nat} {T1 : List Value} {R1 : Ending → World → Prop} {fr : Fr}
include hl
theorem Rng.same : { L with state := .ready, pending := none } = L := by
  have h1 := hl.st
  have h2 := hl.pd
  cases L; dsimp only at h1 h2 ⊢; subst h1 h2; rfl
theorem SG.rend (hb : YBack P f R W l L todo dst m T1 R1) (hro : fr.ro = some l) (hp : rowsPos s.R = true) (hn : m ≤ s.G.length)
    (h : SG P f R (W.lay l L) todo (St.put ⟨s.G.take m, s.B, s.R, s.G.drop m⟩ dst (.cv (.one (.lb true))))) : SG P fr R1 ((W.wait T1).lay l (lbusy L)) [] s :=
  SG.roundEnd hb hro hp hn (by rw [hl.same]; exact h)
theorem SG.rret (hb : YBack P f R W l L todo dst m T1 R1) (hro : fr.ro = some l) (hp : rowsPos s.R = true) (hn : m ≤ s.G.length)
    (h : SG P f R (W.lay l (lover L .ret)) todo (St.put ⟨s.G.take m, s.B, s.R, s.G.drop m⟩ dst (.cv (.one (.lb false))))) : SG P fr R1 ((W.wait T1).lay l (lbusy L)) (.code .ret :: k) s :=
  SG.roundRet hb hro hp hn h
theorem SG.rexit {id : Nat} (hb : YBack P f R W l L todo dst m T1 R1) (hro : fr.ro = some l) (hp : rowsPos s.R = true) (hn : m ≤ s.G.length) (hx : exitTo id k = none)
    (h : SG P f R (W.lay l (lover L (.exit id))) todo (St.put ⟨s.G.take m, s.B, s.R, s.G.drop m⟩ dst (.cv (.one (.lb false))))) : SG P fr R1 ((W.wait T1).lay l (lbusy L)) (.code (.exit id) :: k) s :=
  SG.roundExit hb hro hp hn hx h
/-- What was ranged over has returned. -/
theorem SG.rout (hT : TabOk P T) {fn : Func} (hf : P.funcs[g]? = some fn) {cs : List Cv} (hres : resCvs T s fn.results.toList = some cs) (hp : rowsPos s.R = true) (hn : n ≤ s.G.length)
    (h : SG P ⟨f0.fn, none, markOf D :: f0.ds⟩ R0 (W0.mark D) k0 ⟨s.G.take n, s.B, s.R, s.G.drop n⟩) : SG P ⟨g, none, []⟩ R' (((W0.mark D).wait L.tmps.toList).lay l L) (.code .ret :: k') s := by
  have := SG.lback (fg := ⟨g, none, []⟩) (k' := k') hl.back (st := .ready) (pd := none) (by simp) hT hf hres hp hn rfl rfl h
  rwa [hl.same] at this
theorem SG.routEnd (hT : TabOk P T) {fn : Func} (hf : P.funcs[g]? = some fn) {cs : List Cv} (hres : resCvs T s fn.results.toList = some cs) (hp : rowsPos s.R = true) (hn : n ≤ s.G.length)
    (h : SG P ⟨f0.fn, none, markOf D :: f0.ds⟩ R0 (W0.mark D) k0 ⟨s.G.take n, s.B, s.R, s.G.drop n⟩) : SG P ⟨g, none, []⟩ R' (((W0.mark D).wait L.tmps.toList).lay l L) [] s := by
  have := SG.lbackEnd (fg := ⟨g, none, []⟩) hl.back (st := .ready) (pd := none) (by simp) hT hf hres hp hn rfl rfl h
  rwa [hl.same] at this
theorem SG.rover {c : Code} (hT : TabOk P T) {fn : Func} (hf : P.funcs[g]? = some fn) {cs : List Cv} (hres : resCvs T s fn.results.toList = some cs) (hp : rowsPos s.R = true) (hn : n ≤ s.G.length)
    (h : SG P ⟨f0.fn, none, markOf D :: f0.ds⟩ R0 (W0.mark D) (.code c :: k0) ⟨s.G.take n, s.B, s.R, s.G.drop n⟩) : SG P ⟨g, none, []⟩ R' (((W0.mark D).wait L.tmps.toList).lay l (lover L c)) (.code .ret :: k') s :=
  SG.lback (fg := ⟨g, none, []⟩) hl.back (st := .done) (pd := some c) (by simp) hT hf hres hp hn rfl rfl h
theorem SG.roverEnd {c : Code} (hT : TabOk P T) {fn : Func} (hf : P.funcs[g]? = some fn) {cs : List Cv} (hres : resCvs T s fn.results.toList = some cs) (hp : rowsPos s.R = true) (hn : n ≤ s.G.length)
    (h : SG P ⟨f0.fn, none, markOf D :: f0.ds⟩ R0 (W0.mark D) (.code c :: k0) ⟨s.G.take n, s.B, s.R, s.G.drop n⟩) : SG P ⟨g, none, []⟩ R' (((W0.mark D).wait L.tmps.toList).lay l (lover L c)) [] s :=
  SG.lbackEnd (fg := ⟨g, none, []⟩) hl.back (st := .done) (pd := some c) (by simp) hT hf hres hp hn rfl rfl h
end
end
end Go.Sx
