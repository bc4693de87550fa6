/- A call gone into: what is called goes on in its caller's memory; its caller waits. -/
import Derived.Test.YtlbldfdkicofdaaSxU
namespace Go.Sx
open Go.RowKit
set_option linter.unusedVariables false
set_option linter.unusedSimpArgs false
set_option linter.unusedSectionVars false
theorem reps_split {ρ : Env} : ∀ {F G : List SV} {vs us : List Value}, F.length = vs.length → reps ρ (F ++ G) (vs ++ us) → reps ρ F vs ∧ reps ρ G us
  | [], _, [], _, _, h => ⟨trivial, h⟩
  | x :: F, G, v :: vs, us, hl, h => by
    obtain ⟨h1, h2⟩ := reps_split (F := F) (vs := vs) (by simpa using hl) h.2
    exact ⟨⟨h.1, h1⟩, h2⟩
  | [], _, v :: vs, _, hl, _ => by simp at hl
  | x :: F, _, [], _, hl, _ => by simp at hl
section
variable {P : Program} {f : Fr} {g : FuncId} {R R' : Ending → World → Prop} {W W' : Base} {T : Tab} {k k' : List Item} {s : St}
/-- Back to who waits: n slots of its own, then those of who waits for it. -/
structure Back (P : Program) (f : Fr) (R : Ending → World → Prop) (W W' : Base) (R' : Ending → World → Prop) (todo : List Item) (dst : Option Tmp) (n : Nat) : Prop where
  ok : ∀ (F0 F' G' : List SV) (B' : List (Option (List At))) (Rs' : List (Option Row)) (x : SV), F'.length = n → SG P f R W todo (St.put ⟨F', B', Rs', G'⟩ dst x) →
    ∀ ρ w v, Mem W' ⟨F0, B', Rs', F' ++ G'⟩ ρ w → Dom ⟨F0, B', Rs', F' ++ G'⟩ ρ → x.rep ρ v → R' (.returned v) w
theorem Mem.rebase {ρ : Env} {w : World} {s s' : St} (h : Mem W s ρ w) (h1 : W'.w = W.w) (h2 : W'.g = W.g) (h3 : W'.objs = W.objs) (hB : s'.B = s.B) (hR : s'.R = s.R) (hG : reps ρ s'.G W'.gs) : Mem W' s' ρ w := by
  obtain ⟨W1, W2, W3, W4⟩ := W
  obtain ⟨V1, V2, V3, V4⟩ := W'
  obtain ⟨F, B, Rr, G⟩ := s
  obtain ⟨F', B', Rr', G'⟩ := s'
  dsimp only at h1 h2 h3 hB hR
  subst h1 h2 h3 hB hR
  exact ⟨⟨h.below.os, h.below.tape, h.below.output, h.below.size, h.below.block, h.below.objs, h.below.low, h.below.nd⟩, h.box, h.boxNe, fun r R hr => by
    obtain ⟨v, hv, hok⟩ := h.row r R hr
    exact ⟨v, hv, ⟨hok.form, hok.each, hok.fresh⟩⟩, h.rowBox, h.rowRow, hG, fun c sz len cells hc => ⟨(h.inn c sz len cells hc).form, (h.inn c sz len cells hc).each⟩⟩
theorem SG.inlineK {ops : Array Oper} {i : Nat} {rest : List Nat} {o : Oper} {args : List SV} {fn : Func} {c : Code} (ho : ops.toList[i]? = some o) (hg : guardOf s.F ops.toList o = .yes) (hc : callOf s.get o.op = some (g, args))
    (hf : P.funcs[g]? = some fn) (hn : (fn.name == "runtime.NumGoroutine") = false) (hb : fn.body = some c)
    (h : ∀ W' R', Back P f R W W' R' (.inRegion ops rest :: k) o.dst s.F.length → (W'.w = W.w ∧ W'.g = W.g) → SG P ⟨g, none, []⟩ R' W' [.code c] ⟨args ++ List.replicate (fn.ntmps - args.length) (.tup []), s.B, s.R, s.F ++ s.G⟩) : SG P f R W (.inRegion ops (i :: rest) :: k) s := by
  refine ⟨fun ρ w a hm hfr hdm => ?_⟩
  have hcan : Callable P g := ⟨fn, hf, hn, by rw [hb]; rfl⟩
  obtain ⟨vs, hr, hreps⟩ := callOf_ok (w := w) (fun x sv hx => St.get_ok hfr hx) hc hcan
  have hlen := reps_len hfr.tmps
  refine Good.op (K := fun v w' => Good P f R (.inRegion ops rest :: k) (a.put o.dst v) w') (by simpa using ho) (guardOf_yes hfr hg) (callOf_nd hc) ?_ (fun v w' h => h)
  unfold Does
  rw [hr]
  have hback : Back P f R W ⟨W.w, W.g, a.tmps.toList ++ W.gs, W.objs⟩ (fun e w'' => ∃ v, e = .returned v ∧ Good P f R (.inRegion ops rest :: k) (a.put o.dst v) w'') (.inRegion ops rest :: k) o.dst s.F.length := by
    refine ⟨fun F0 F' G' B' Rs' x hl hsg ρ' w' v hm' hd' hv => ⟨v, rfl, ?_⟩⟩
    obtain ⟨g1, g2⟩ := reps_split (by omega) hm'.ghost
    refine hsg.run ρ' w' _ ((hm'.rebase (W' := W) (s' := ⟨F', B', Rs', G'⟩) rfl rfl rfl rfl rfl g2).put _ _) ?_ ((Dom.mk (s := ⟨F', B', Rs', G'⟩) hd'.box hd'.row).put _ _)
    exact reps_put_any ⟨hfr.defers, g1⟩ o hv _ rfl
  refine calls_of_good hf hb ((h _ _ hback ⟨rfl, rfl⟩).run ρ w _ (hm.rebase rfl rfl rfl rfl rfl (reps_append hfr.tmps hm.ghost)) ⟨rfl, ?_⟩ ⟨hdm.box, hdm.row⟩)
  have hl := reps_len hreps
  have : vs.toArray.size = args.length := by simpa using hl
  simp only [Array.toList_append, Array.toList_replicate, this]
  exact reps_append hreps (reps_undef _)
theorem SG.inline {ops : Array Oper} {i : Nat} {rest : List Nat} {o : Oper} {args : List SV} {fn : Func} {c : Code} (ho : ops.toList[i]? = some o) (hg : guardOf s.F ops.toList o = .yes) (hc : callOf s.get o.op = some (g, args))
    (hf : P.funcs[g]? = some fn) (hn : (fn.name == "runtime.NumGoroutine") = false) (hb : fn.body = some c)
    (h : ∀ W' R', Back P f R W W' R' (.inRegion ops rest :: k) o.dst s.F.length → SG P ⟨g, none, []⟩ R' W' [.code c] ⟨args ++ List.replicate (fn.ntmps - args.length) (.tup []), s.B, s.R, s.F ++ s.G⟩) : SG P f R W (.inRegion ops (i :: rest) :: k) s :=
  SG.inlineK ho hg hc hf hn hb fun W' R' hb _ => h W' R' hb
theorem Back.use {todo : List Item} {dst : Option Tmp} {n : Nat} (hb : Back P f R W W' R' todo dst n) (hn : n ≤ s.G.length) {x : SV} (h : SG P f R W todo (St.put ⟨s.G.take n, s.B, s.R, s.G.drop n⟩ dst x)) : ∀ ρ w v, Mem W' s ρ w → Dom s ρ → x.rep ρ v → R' (.returned v) w := by
  intro ρ w v hm hd hv
  have e : s.G.take n ++ s.G.drop n = s.G := List.take_append_drop n s.G
  refine hb.ok s.F (s.G.take n) (s.G.drop n) s.B s.R x (by simp [hn]) h ρ w v ?_ ⟨hd.box, hd.row⟩ hv
  rw [e]; exact hm
/-- Out of what was called, on with who waits. -/
theorem SG.back {fg : Fr} {Wc : Base} {todo : List Item} {dst : Option Tmp} {n : Nat} (hb : Back P f R W W' R' todo dst n) (hT : TabOk P T) {fn : Func} (hf : P.funcs[fg.fn]? = some fn) {cs : List Cv} (hres : resCvs T s fn.results.toList = some cs) (hn : n ≤ s.G.length)
    (h : SG P f R W todo (St.put ⟨s.G.take n, s.B, s.R, s.G.drop n⟩ dst (resSV cs))) (hW : Wc.out fg.ds.length = W' := by rfl)
    (hro : fg.ro = none := by rfl) (hmk : Marks fg.ds Wc.objs := by first | exact trivial | exact And.intro rfl trivial | exact And.intro rfl (And.intro rfl trivial)) (hp : fg.ds = [] ∨ rowsPos s.R = true := by first | exact .inl rfl | exact .inr rfl) : SG P fg R' Wc (.code .ret :: k') s :=
  SG.retD hT hf hres (by rw [hW]; exact hb.use hn h) hro hmk hp
theorem SG.backEnd {fg : Fr} {Wc : Base} {todo : List Item} {dst : Option Tmp} {n : Nat} (hb : Back P f R W W' R' todo dst n) (hT : TabOk P T) {fn : Func} (hf : P.funcs[fg.fn]? = some fn) {cs : List Cv} (hres : resCvs T s fn.results.toList = some cs) (hn : n ≤ s.G.length)
    (h : SG P f R W todo (St.put ⟨s.G.take n, s.B, s.R, s.G.drop n⟩ dst (resSV cs))) (hW : Wc.out fg.ds.length = W' := by rfl)
    (hro : fg.ro = none := by rfl) (hmk : Marks fg.ds Wc.objs := by first | exact trivial | exact And.intro rfl trivial | exact And.intro rfl (And.intro rfl trivial)) (hp : fg.ds = [] ∨ rowsPos s.R = true := by first | exact .inl rfl | exact .inr rfl) : SG P fg R' Wc [] s :=
  SG.doneD hT hf hres (by rw [hW]; exact hb.use hn h) hro hmk hp
/-- A state that is written out. -/
theorem SG.norm {todo : List Item} (h : fSt s fun s => SG P f R W todo s) : SG P f R W todo s := by rwa [fSt_eq] at h
end
end Go.Sx
