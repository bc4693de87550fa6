/- Processors: a step. -/
import Derived.Test.YtcdoofjddhlodaaDoorCxD
namespace Go.Proofs.YtcdoofjddhlodaaDoor
open Go.Sx Go.RowKit
set_option linter.unusedVariables false
set_option linter.unusedSimpArgs false
set_option linter.unusedSectionVars false
structure Out where
  R : Nat → Int
  p : Int
  m : ByteArray
  t : Int
abbrev outT (x : Out) : Hd := hdT [.agg (cpuC x.R x.p), .one (.v (.string x.m)), .one (aI x.t)]
def atN (R : Nat → Int) (b i : Int) : Int := IntKind.u32.wrap (R b.toNat + IntKind.u32.wrap i)
def movO (R : Nat → Int) (p : Int) (m : ByteArray) (o a b i : Int) : Out :=
  if o = 14 then (if loadE m (atN R b i) = 0 then ⟨updR R a.toNat (loadN m (atN R b i)), IntKind.u32.wrap (p + 4), m, 0⟩ else ⟨R, p, m, 2⟩)
  else if o = 15 then (if loadE m (atN R b i) = 0 then ⟨updR R a.toNat (R a.toNat), IntKind.u32.wrap (p + 4), storeM m (atN R b i) (R a.toNat), 0⟩ else ⟨R, p, m, 2⟩)
  else if o = 16 then (if byteE m (atN R b i) = 0 then ⟨updR R a.toNat (byteN m (atN R b i)), IntKind.u32.wrap (p + 4), m, 0⟩ else ⟨R, p, m, 2⟩)
  else (if byteE m (atN R b i) = 0 then ⟨updR R a.toNat (R a.toNat), IntKind.u32.wrap (p + 4), putM m (atN R b i) (R a.toNat), 0⟩ else ⟨R, p, m, 2⟩)
def doO (R : Nat → Int) (p : Int) (m : ByteArray) (o a b i : Int) : Out :=
  if o ≤ 13 then ⟨updR R a.toNat (recN o (R a.toNat) (R b.toNat) i), IntKind.u32.wrap (p + 4), m, 0⟩ else ⟨jmpR o R p a, jmpP o R p a b i, m, 0⟩
def insO (R : Nat → Int) (p : Int) (m : ByteArray) (o a b i : Int) : Out :=
  if 14 ≤ o ∧ o ≤ 17 then movO R p m o a b i else if o = 24 then ⟨R, IntKind.u32.wrap (p + 4), m, 3⟩ else doO R p m o a b i
def stepO (R : Nat → Int) (p : Int) (m : ByteArray) : Out :=
  if loadE m p = 0 then (if tMay (loadN m p) = true then insO R p m (tO (loadN m p)) (tA (loadN m p)) (tB (loadN m p)) (tI (loadN m p)) else ⟨R, p, m, 1⟩) else ⟨R, p, m, 2⟩
theorem wordV_bounds (m : ByteArray) (k : Nat) : 0 ≤ wordV m k ∧ wordV m k < 4294967296 := by
  have h0 := byteV_bounds m k
  have h1 := byteV_bounds m (k + 1)
  have h2 := byteV_bounds m (k + 2)
  have h3 := byteV_bounds m (k + 3)
  unfold wordV; omega
theorem loadN_ok (m : ByteArray) (a : Int) : 0 ≤ loadN m a ∧ loadN m a < 4294967296 := by
  unfold loadN
  split
  · exact wordV_bounds _ _
  · omega
theorem byteN_ok (m : ByteArray) (a : Int) : 0 ≤ byteN m a ∧ byteN m a < 4294967296 := by
  unfold byteN
  split
  · have := byteV_bounds m a.toNat; omega
  · omega
theorem atN_ok (R : Nat → Int) (b i : Int) : 0 ≤ atN R b i ∧ atN R b i < 4294967296 := by unfold atN; rw [wrapU]; omega
section
variable {W : Base} {B : List (Option (List At))} {Rs : List (Option Row)}
theorem takeX (hU : UB W) {n o a b i : Int} (h0 : 0 ≤ n ∧ n < 4294967296) (hm : tMay n = true) (e1 : tO n = o) (e2 : tA n = a) (e3 : tB n = b) (e4 : tI n = i) : CallOk Tryd.prog W B Rs 27 [u32V n] (hdT [.agg (insC o a b i), .one (aI 0)]) := by
  subst e1 e2 e3 e4; exact takeYes hU h0.1 h0.2 hm
theorem rTakeX {n o a b i : Int} (h0 : 0 ≤ n ∧ n < 4294967296) (hm : tMay n = true) (e1 : tO n = o) (e2 : tA n = a) (e3 : tB n = b) (e4 : tI n = i) : CallOk Tryd.prog W B Rs 30 [u32V n] (hdT [.agg (insC o a b i), .one (aI 0)]) := by
  subst e1 e2 e3 e4; exact rTakeYes h0.1 h0.2 hm
theorem doesO (hU : UB W) {R : Nat → Int} {p o a b i : Int} {m : ByteArray} (hR : regs R) (hm : rMay o a b i = true) (h : (1 ≤ o ∧ o ≤ 13) ∨ (18 ≤ o ∧ o ≤ 23)) : CallOk Tryd.prog W B Rs 13 [cpuS R p, insS o a b i] (hdT [.agg (cpuC (doO R p m o a b i).R (doO R p m o a b i).p), .one (.lb true)]) := by
  unfold doO
  rcases h with h | h
  · rw [if_pos h.2]; exact doesAlu hU hR hm h
  · rw [if_neg (by omega)]; exact doesJmp hU hm h
theorem rDoesO {R : Nat → Int} {p o a b i : Int} {m : ByteArray} (hR : regs R) (hm : rMay o a b i = true) (h : (1 ≤ o ∧ o ≤ 13) ∨ (18 ≤ o ∧ o ≤ 23)) : CallOk Tryd.prog W B Rs 14 [cpuS R p, insS o a b i] (hdT [.agg (cpuC (doO R p m o a b i).R (doO R p m o a b i).p), .one (.lb true)]) := by
  unfold doO
  rcases h with h | h
  · rw [if_pos h.2]; exact rDoesAlu hR hm h
  · rw [if_neg (by omega)]; exact rDoesJmp hR hm h
set_option maxHeartbeats 4000000 in
set_option maxRecDepth 100000 in
theorem moved14 {R : Nat → Int} {p a b i : Int} {m : ByteArray} (hms : m.size ≤ 140737488351232) (hR : regs R) (hm : rMay 14 a b i = true) : CallOk Tryd.prog W B Rs 28 [cpuS R p, strV m, insS 14 a b i] (outT (movO R p m 14 a b i)) := by
  obtain ⟨_, _, a0, a7, b0, b7, _, _⟩ := may_range hm
  obtain ⟨x0, x1⟩ := hR a.toNat (by omega)
  obtain ⟨q0, q1⟩ := atN_ok R b i
  by_cases g : loadE m (atN R b i) = 0
  · rw [show movO R p m 14 a b i = ⟨updR R a.toNat (loadN m (atN R b i)), IntKind.u32.wrap (p + 4), m, 0⟩ from (if_pos g)]
    refine CallOk.enter Tryd.func28 (by kernel_rfl) rfl [] [] [cpuS R p, strV m, insS 14 a b i] rfl rows0 (fun r h => by cases h) rfl rfl ?_
    intro w blk hblk
    refine SG.walk tab_ok mx 400 [true, false] [hdT [.one (aU (loadN m (atN R b i))), .one (aI (loadE m (atN R b i)))]] ?_
    conv => whnf
    try dsimp only [rowL, rowN, growOk, hiN, fromL, tightN, maxOk]
    refine ⟨?_, ?_⟩
    · try simp only [pick8 a0 a7, pick8 b0 b7, show IntKind.u32.wrap (R b.toNat + IntKind.u32.wrap i) = atN R b i from rfl]
      repeat' apply And.intro
      all_goals first
        | exact loadC q0 q1 hms
        | trivial
        | rfl
        | omega
        | ((try dsimp only [rowL, rowN]); simp only [beq_iff_eq, beq_eq_false_iff_ne, bne_iff_ne, bne_eq_false_iff_eq, decide_eq_true_eq, decide_eq_false_iff_not, ne_eq, Bool.not_eq_true', Bool.not_eq_false', Bool.not_eq_eq_eq_not, Bool.not_true, Bool.not_false, Option.some.injEq, Option.getD_some, Option.getD_none]; omega)
        | (simp; done)
        | (simp; omega)
    try simp only [pick8 a0 a7, pick8 b0 b7, show IntKind.u32.wrap (R b.toNat + IntKind.u32.wrap i) = atN R b i from rfl]
    refine SG.ret tab_ok Tryd.func28 rfl ?_
    intro ρ w' v hm hv
    exact Post.mk hm (.tup [.agg (cpuC (updR R a.toNat (loadN m (atN R b i))) (IntKind.u32.wrap (p + 4))), .one (.v (.string (m))), .one (aI 0)]) [] none [] hv rfl rows0 rfl (by simp)
  · rw [show movO R p m 14 a b i = ⟨R, p, m, 2⟩ from (if_neg g)]
    refine CallOk.enter Tryd.func28 (by kernel_rfl) rfl [] [] [cpuS R p, strV m, insS 14 a b i] rfl rows0 (fun r h => by cases h) rfl rfl ?_
    intro w blk hblk
    refine SG.walk tab_ok mx 400 [true, true] [hdT [.one (aU (loadN m (atN R b i))), .one (aI (loadE m (atN R b i)))]] ?_
    conv => whnf
    try dsimp only [rowL, rowN, growOk, hiN, fromL, tightN, maxOk]
    refine ⟨?_, ?_⟩
    · try simp only [pick8 a0 a7, pick8 b0 b7, show IntKind.u32.wrap (R b.toNat + IntKind.u32.wrap i) = atN R b i from rfl]
      repeat' apply And.intro
      all_goals first
        | exact loadC q0 q1 hms
        | trivial
        | rfl
        | omega
        | ((try dsimp only [rowL, rowN]); simp only [beq_iff_eq, beq_eq_false_iff_ne, bne_iff_ne, bne_eq_false_iff_eq, decide_eq_true_eq, decide_eq_false_iff_not, ne_eq, Bool.not_eq_true', Bool.not_eq_false', Bool.not_eq_eq_eq_not, Bool.not_true, Bool.not_false, Option.some.injEq, Option.getD_some, Option.getD_none]; omega)
        | (simp; done)
        | (simp; omega)
    try simp only [pick8 a0 a7, pick8 b0 b7, show IntKind.u32.wrap (R b.toNat + IntKind.u32.wrap i) = atN R b i from rfl]
    refine SG.ret tab_ok Tryd.func28 rfl ?_
    intro ρ w' v hm hv
    exact Post.mk hm (.tup [.agg (cpuC (R) (p)), .one (.v (.string (m))), .one (aI 2)]) [] none [] hv rfl rows0 rfl (by simp)
set_option maxHeartbeats 4000000 in
set_option maxRecDepth 100000 in
theorem moved15 {R : Nat → Int} {p a b i : Int} {m : ByteArray} (hms : m.size ≤ 140737488351232) (hR : regs R) (hm : rMay 15 a b i = true) : CallOk Tryd.prog W B Rs 28 [cpuS R p, strV m, insS 15 a b i] (outT (movO R p m 15 a b i)) := by
  obtain ⟨_, _, a0, a7, b0, b7, _, _⟩ := may_range hm
  obtain ⟨x0, x1⟩ := hR a.toNat (by omega)
  obtain ⟨q0, q1⟩ := atN_ok R b i
  by_cases g : loadE m (atN R b i) = 0
  · rw [show movO R p m 15 a b i = ⟨updR R a.toNat (R a.toNat), IntKind.u32.wrap (p + 4), storeM m (atN R b i) (R a.toNat), 0⟩ from (if_pos g)]
    refine CallOk.enter Tryd.func28 (by kernel_rfl) rfl [] [] [cpuS R p, strV m, insS 15 a b i] rfl rows0 (fun r h => by cases h) rfl rfl ?_
    intro w blk hblk
    refine SG.walk tab_ok mx 400 [false, false, true, false] [hdT [.one (.v (.string (storeM m (atN R b i) (R a.toNat)))), .one (aI (loadE m (atN R b i)))]] ?_
    conv => whnf
    try dsimp only [rowL, rowN, growOk, hiN, fromL, tightN, maxOk]
    refine ⟨?_, ?_⟩
    · try simp only [pick8 a0 a7, pick8 b0 b7, show IntKind.u32.wrap (R b.toNat + IntKind.u32.wrap i) = atN R b i from rfl]
      repeat' apply And.intro
      all_goals first
        | exact storeC q0 q1 x0 x1 hms
        | trivial
        | rfl
        | omega
        | ((try dsimp only [rowL, rowN]); simp only [beq_iff_eq, beq_eq_false_iff_ne, bne_iff_ne, bne_eq_false_iff_eq, decide_eq_true_eq, decide_eq_false_iff_not, ne_eq, Bool.not_eq_true', Bool.not_eq_false', Bool.not_eq_eq_eq_not, Bool.not_true, Bool.not_false, Option.some.injEq, Option.getD_some, Option.getD_none]; omega)
        | (simp; done)
        | (simp; omega)
    try simp only [pick8 a0 a7, pick8 b0 b7, show IntKind.u32.wrap (R b.toNat + IntKind.u32.wrap i) = atN R b i from rfl]
    refine SG.ret tab_ok Tryd.func28 rfl ?_
    intro ρ w' v hm hv
    exact Post.mk hm (.tup [.agg (cpuC (updR R a.toNat (R a.toNat)) (IntKind.u32.wrap (p + 4))), .one (.v (.string (storeM m (atN R b i) (R a.toNat)))), .one (aI 0)]) [] none [] hv rfl rows0 rfl (by simp)
  · rw [show movO R p m 15 a b i = ⟨R, p, m, 2⟩ from (if_neg g)]
    refine CallOk.enter Tryd.func28 (by kernel_rfl) rfl [] [] [cpuS R p, strV m, insS 15 a b i] rfl rows0 (fun r h => by cases h) rfl rfl ?_
    intro w blk hblk
    refine SG.walk tab_ok mx 400 [false, false, true, true] [hdT [.one (.v (.string (storeM m (atN R b i) (R a.toNat)))), .one (aI (loadE m (atN R b i)))]] ?_
    conv => whnf
    try dsimp only [rowL, rowN, growOk, hiN, fromL, tightN, maxOk]
    refine ⟨?_, ?_⟩
    · try simp only [pick8 a0 a7, pick8 b0 b7, show IntKind.u32.wrap (R b.toNat + IntKind.u32.wrap i) = atN R b i from rfl]
      repeat' apply And.intro
      all_goals first
        | exact storeC q0 q1 x0 x1 hms
        | trivial
        | rfl
        | omega
        | ((try dsimp only [rowL, rowN]); simp only [beq_iff_eq, beq_eq_false_iff_ne, bne_iff_ne, bne_eq_false_iff_eq, decide_eq_true_eq, decide_eq_false_iff_not, ne_eq, Bool.not_eq_true', Bool.not_eq_false', Bool.not_eq_eq_eq_not, Bool.not_true, Bool.not_false, Option.some.injEq, Option.getD_some, Option.getD_none]; omega)
        | (simp; done)
        | (simp; omega)
    try simp only [pick8 a0 a7, pick8 b0 b7, show IntKind.u32.wrap (R b.toNat + IntKind.u32.wrap i) = atN R b i from rfl]
    refine SG.ret tab_ok Tryd.func28 rfl ?_
    intro ρ w' v hm hv
    exact Post.mk hm (.tup [.agg (cpuC (R) (p)), .one (.v (.string (m))), .one (aI 2)]) [] none [] hv rfl rows0 rfl (by simp)
set_option maxHeartbeats 4000000 in
set_option maxRecDepth 100000 in
theorem moved16 {R : Nat → Int} {p a b i : Int} {m : ByteArray} (hms : m.size ≤ 140737488351232) (hR : regs R) (hm : rMay 16 a b i = true) : CallOk Tryd.prog W B Rs 28 [cpuS R p, strV m, insS 16 a b i] (outT (movO R p m 16 a b i)) := by
  obtain ⟨_, _, a0, a7, b0, b7, _, _⟩ := may_range hm
  obtain ⟨x0, x1⟩ := hR a.toNat (by omega)
  obtain ⟨q0, q1⟩ := atN_ok R b i
  by_cases g : byteE m (atN R b i) = 0
  · rw [show movO R p m 16 a b i = ⟨updR R a.toNat (byteN m (atN R b i)), IntKind.u32.wrap (p + 4), m, 0⟩ from (if_pos g)]
    refine CallOk.enter Tryd.func28 (by kernel_rfl) rfl [] [] [cpuS R p, strV m, insS 16 a b i] rfl rows0 (fun r h => by cases h) rfl rfl ?_
    intro w blk hblk
    refine SG.walk tab_ok mx 400 [false, true, false] [hdT [.one (aU (byteN m (atN R b i))), .one (aI (byteE m (atN R b i)))]] ?_
    conv => whnf
    try dsimp only [rowL, rowN, growOk, hiN, fromL, tightN, maxOk]
    refine ⟨?_, ?_⟩
    · try simp only [pick8 a0 a7, pick8 b0 b7, show IntKind.u32.wrap (R b.toNat + IntKind.u32.wrap i) = atN R b i from rfl]
      repeat' apply And.intro
      all_goals first
        | exact byteC q0 q1 hms
        | trivial
        | rfl
        | omega
        | ((try dsimp only [rowL, rowN]); simp only [beq_iff_eq, beq_eq_false_iff_ne, bne_iff_ne, bne_eq_false_iff_eq, decide_eq_true_eq, decide_eq_false_iff_not, ne_eq, Bool.not_eq_true', Bool.not_eq_false', Bool.not_eq_eq_eq_not, Bool.not_true, Bool.not_false, Option.some.injEq, Option.getD_some, Option.getD_none]; omega)
        | (simp; done)
        | (simp; omega)
    try simp only [pick8 a0 a7, pick8 b0 b7, show IntKind.u32.wrap (R b.toNat + IntKind.u32.wrap i) = atN R b i from rfl]
    refine SG.ret tab_ok Tryd.func28 rfl ?_
    intro ρ w' v hm hv
    exact Post.mk hm (.tup [.agg (cpuC (updR R a.toNat (byteN m (atN R b i))) (IntKind.u32.wrap (p + 4))), .one (.v (.string (m))), .one (aI 0)]) [] none [] hv rfl rows0 rfl (by simp)
  · rw [show movO R p m 16 a b i = ⟨R, p, m, 2⟩ from (if_neg g)]
    refine CallOk.enter Tryd.func28 (by kernel_rfl) rfl [] [] [cpuS R p, strV m, insS 16 a b i] rfl rows0 (fun r h => by cases h) rfl rfl ?_
    intro w blk hblk
    refine SG.walk tab_ok mx 400 [false, true, true] [hdT [.one (aU (byteN m (atN R b i))), .one (aI (byteE m (atN R b i)))]] ?_
    conv => whnf
    try dsimp only [rowL, rowN, growOk, hiN, fromL, tightN, maxOk]
    refine ⟨?_, ?_⟩
    · try simp only [pick8 a0 a7, pick8 b0 b7, show IntKind.u32.wrap (R b.toNat + IntKind.u32.wrap i) = atN R b i from rfl]
      repeat' apply And.intro
      all_goals first
        | exact byteC q0 q1 hms
        | trivial
        | rfl
        | omega
        | ((try dsimp only [rowL, rowN]); simp only [beq_iff_eq, beq_eq_false_iff_ne, bne_iff_ne, bne_eq_false_iff_eq, decide_eq_true_eq, decide_eq_false_iff_not, ne_eq, Bool.not_eq_true', Bool.not_eq_false', Bool.not_eq_eq_eq_not, Bool.not_true, Bool.not_false, Option.some.injEq, Option.getD_some, Option.getD_none]; omega)
        | (simp; done)
        | (simp; omega)
    try simp only [pick8 a0 a7, pick8 b0 b7, show IntKind.u32.wrap (R b.toNat + IntKind.u32.wrap i) = atN R b i from rfl]
    refine SG.ret tab_ok Tryd.func28 rfl ?_
    intro ρ w' v hm hv
    exact Post.mk hm (.tup [.agg (cpuC (R) (p)), .one (.v (.string (m))), .one (aI 2)]) [] none [] hv rfl rows0 rfl (by simp)
set_option maxHeartbeats 4000000 in
set_option maxRecDepth 100000 in
theorem moved17 {R : Nat → Int} {p a b i : Int} {m : ByteArray} (hms : m.size ≤ 140737488351232) (hR : regs R) (hm : rMay 17 a b i = true) : CallOk Tryd.prog W B Rs 28 [cpuS R p, strV m, insS 17 a b i] (outT (movO R p m 17 a b i)) := by
  obtain ⟨_, _, a0, a7, b0, b7, _, _⟩ := may_range hm
  obtain ⟨x0, x1⟩ := hR a.toNat (by omega)
  obtain ⟨q0, q1⟩ := atN_ok R b i
  by_cases g : byteE m (atN R b i) = 0
  · rw [show movO R p m 17 a b i = ⟨updR R a.toNat (R a.toNat), IntKind.u32.wrap (p + 4), putM m (atN R b i) (R a.toNat), 0⟩ from (if_pos g)]
    refine CallOk.enter Tryd.func28 (by kernel_rfl) rfl [] [] [cpuS R p, strV m, insS 17 a b i] rfl rows0 (fun r h => by cases h) rfl rfl ?_
    intro w blk hblk
    refine SG.walk tab_ok mx 400 [false, false, false, true, false] [hdT [.one (.v (.string (putM m (atN R b i) (R a.toNat)))), .one (aI (byteE m (atN R b i)))]] ?_
    conv => whnf
    try dsimp only [rowL, rowN, growOk, hiN, fromL, tightN, maxOk]
    refine ⟨?_, ?_⟩
    · try simp only [pick8 a0 a7, pick8 b0 b7, show IntKind.u32.wrap (R b.toNat + IntKind.u32.wrap i) = atN R b i from rfl]
      repeat' apply And.intro
      all_goals first
        | exact putC q0 q1 x0 x1 hms
        | trivial
        | rfl
        | omega
        | ((try dsimp only [rowL, rowN]); simp only [beq_iff_eq, beq_eq_false_iff_ne, bne_iff_ne, bne_eq_false_iff_eq, decide_eq_true_eq, decide_eq_false_iff_not, ne_eq, Bool.not_eq_true', Bool.not_eq_false', Bool.not_eq_eq_eq_not, Bool.not_true, Bool.not_false, Option.some.injEq, Option.getD_some, Option.getD_none]; omega)
        | (simp; done)
        | (simp; omega)
    try simp only [pick8 a0 a7, pick8 b0 b7, show IntKind.u32.wrap (R b.toNat + IntKind.u32.wrap i) = atN R b i from rfl]
    refine SG.ret tab_ok Tryd.func28 rfl ?_
    intro ρ w' v hm hv
    exact Post.mk hm (.tup [.agg (cpuC (updR R a.toNat (R a.toNat)) (IntKind.u32.wrap (p + 4))), .one (.v (.string (putM m (atN R b i) (R a.toNat)))), .one (aI 0)]) [] none [] hv rfl rows0 rfl (by simp)
  · rw [show movO R p m 17 a b i = ⟨R, p, m, 2⟩ from (if_neg g)]
    refine CallOk.enter Tryd.func28 (by kernel_rfl) rfl [] [] [cpuS R p, strV m, insS 17 a b i] rfl rows0 (fun r h => by cases h) rfl rfl ?_
    intro w blk hblk
    refine SG.walk tab_ok mx 400 [false, false, false, true, true] [hdT [.one (.v (.string (putM m (atN R b i) (R a.toNat)))), .one (aI (byteE m (atN R b i)))]] ?_
    conv => whnf
    try dsimp only [rowL, rowN, growOk, hiN, fromL, tightN, maxOk]
    refine ⟨?_, ?_⟩
    · try simp only [pick8 a0 a7, pick8 b0 b7, show IntKind.u32.wrap (R b.toNat + IntKind.u32.wrap i) = atN R b i from rfl]
      repeat' apply And.intro
      all_goals first
        | exact putC q0 q1 x0 x1 hms
        | trivial
        | rfl
        | omega
        | ((try dsimp only [rowL, rowN]); simp only [beq_iff_eq, beq_eq_false_iff_ne, bne_iff_ne, bne_eq_false_iff_eq, decide_eq_true_eq, decide_eq_false_iff_not, ne_eq, Bool.not_eq_true', Bool.not_eq_false', Bool.not_eq_eq_eq_not, Bool.not_true, Bool.not_false, Option.some.injEq, Option.getD_some, Option.getD_none]; omega)
        | (simp; done)
        | (simp; omega)
    try simp only [pick8 a0 a7, pick8 b0 b7, show IntKind.u32.wrap (R b.toNat + IntKind.u32.wrap i) = atN R b i from rfl]
    refine SG.ret tab_ok Tryd.func28 rfl ?_
    intro ρ w' v hm hv
    exact Post.mk hm (.tup [.agg (cpuC (R) (p)), .one (.v (.string (m))), .one (aI 2)]) [] none [] hv rfl rows0 rfl (by simp)
theorem movedC {R : Nat → Int} {p o a b i : Int} {m : ByteArray} (hms : m.size ≤ 140737488351232) (hR : regs R) (hm : rMay o a b i = true) (h : 14 ≤ o ∧ o ≤ 17) : CallOk Tryd.prog W B Rs 28 [cpuS R p, strV m, insS o a b i] (outT (movO R p m o a b i)) := by
  have hc : o = 14 ∨ o = 15 ∨ o = 16 ∨ o = 17 := by omega
  rcases hc with rfl | rfl | rfl | rfl
  · exact moved14 hms hR hm
  · exact moved15 hms hR hm
  · exact moved16 hms hR hm
  · exact moved17 hms hR hm
set_option maxHeartbeats 4000000 in
set_option maxRecDepth 100000 in
theorem stepC (hU : UB W) {R : Nat → Int} {p : Int} {m : ByteArray} (hms : m.size ≤ 140737488351232) (hR : regs R) (hp : 0 ≤ p ∧ p < 4294967296) : CallOk Tryd.prog W B Rs 15 [cpuS R p, strV m] (outT (stepO R p m)) := by
  have hw := loadN_ok m p
  unfold stepO
  by_cases g1 : loadE m p = 0
  · rw [if_pos g1]
    by_cases g2 : tMay (loadN m p) = true
    · rw [if_pos g2]
      obtain ⟨o, ho⟩ : ∃ x, tO (loadN m p) = x := ⟨_, rfl⟩
      obtain ⟨a, ha⟩ : ∃ x, tA (loadN m p) = x := ⟨_, rfl⟩
      obtain ⟨b, hb⟩ : ∃ x, tB (loadN m p) = x := ⟨_, rfl⟩
      obtain ⟨i, hi⟩ : ∃ x, tI (loadN m p) = x := ⟨_, rfl⟩
      have hm : rMay o a b i = true := by have := g2; unfold tMay at this; rw [ho, ha, hb, hi] at this; exact this
      obtain ⟨o0, o1, a0, a7, b0, b7, _, _⟩ := may_range hm
      rw [ho, ha, hb, hi]
      unfold insO
      have tk : ∀ {W : Base} {B : List (Option (List At))} {Rs : List (Option Row)}, UB W → CallOk Tryd.prog W B Rs 27 [u32V (loadN m p)] (hdT [.agg (insC o a b i), .one (aI 0)]) := fun hU => takeX hU hw g2 ho ha hb hi
      by_cases g3 : 14 ≤ o ∧ o ≤ 17
      · rw [if_pos g3]
        by_cases h14 : o = 14
        · refine CallOk.enterK Tryd.func15 (by kernel_rfl) rfl [] [] [cpuS R p, strV m] rfl rows0 (fun r h => by cases h) rfl rfl ?_
          intro w blk hblk hK
          have hU := UB.step hU hblk hK
          clear hK
          refine SG.walk tab_ok mx 400 [false, false, true, true] [hdT [.one (aU (loadN m p)), .one (aI (loadE m p))], hdT [.agg (insC o a b i), .one (aI 0)], outT (movO R p m o a b i)] ?_
          conv => whnf
          try dsimp only [rowL, rowN, growOk, hiN, fromL, tightN, maxOk]
          refine ⟨?_, ?_⟩
          · repeat' apply And.intro
            all_goals first
              | exact loadC hp.1 hp.2 hms
              | exact tk hU
              | exact movedC hms hR hm g3
              | trivial
              | rfl
              | omega
              | ((try dsimp only [rowL, rowN]); simp only [beq_iff_eq, beq_eq_false_iff_ne, bne_iff_ne, bne_eq_false_iff_eq, decide_eq_true_eq, decide_eq_false_iff_not, ne_eq, Bool.not_eq_true', Bool.not_eq_false', Bool.not_eq_eq_eq_not, Bool.not_true, Bool.not_false, Option.some.injEq, Option.getD_some, Option.getD_none]; omega)
              | (simp; done)
              | (simp; omega)
          refine SG.ret tab_ok Tryd.func15 rfl ?_
          intro ρ w' v hm hv
          exact Post.mk hm (.tup [.agg (cpuC (movO R p m o a b i).R (movO R p m o a b i).p), .one (.v (.string (movO R p m o a b i).m)), .one (aI (movO R p m o a b i).t)]) [] none [] hv rfl rows0 rfl (by simp)
        by_cases h16 : o = 16
        · refine CallOk.enterK Tryd.func15 (by kernel_rfl) rfl [] [] [cpuS R p, strV m] rfl rows0 (fun r h => by cases h) rfl rfl ?_
          intro w blk hblk hK
          have hU := UB.step hU hblk hK
          clear hK
          refine SG.walk tab_ok mx 400 [false, false, false, true, true] [hdT [.one (aU (loadN m p)), .one (aI (loadE m p))], hdT [.agg (insC o a b i), .one (aI 0)], outT (movO R p m o a b i)] ?_
          conv => whnf
          try dsimp only [rowL, rowN, growOk, hiN, fromL, tightN, maxOk]
          refine ⟨?_, ?_⟩
          · repeat' apply And.intro
            all_goals first
              | exact loadC hp.1 hp.2 hms
              | exact tk hU
              | exact movedC hms hR hm g3
              | trivial
              | rfl
              | omega
              | ((try dsimp only [rowL, rowN]); simp only [beq_iff_eq, beq_eq_false_iff_ne, bne_iff_ne, bne_eq_false_iff_eq, decide_eq_true_eq, decide_eq_false_iff_not, ne_eq, Bool.not_eq_true', Bool.not_eq_false', Bool.not_eq_eq_eq_not, Bool.not_true, Bool.not_false, Option.some.injEq, Option.getD_some, Option.getD_none]; omega)
              | (simp; done)
              | (simp; omega)
          refine SG.ret tab_ok Tryd.func15 rfl ?_
          intro ρ w' v hm hv
          exact Post.mk hm (.tup [.agg (cpuC (movO R p m o a b i).R (movO R p m o a b i).p), .one (.v (.string (movO R p m o a b i).m)), .one (aI (movO R p m o a b i).t)]) [] none [] hv rfl rows0 rfl (by simp)
        by_cases h15 : o = 15
        · refine CallOk.enterK Tryd.func15 (by kernel_rfl) rfl [] [] [cpuS R p, strV m] rfl rows0 (fun r h => by cases h) rfl rfl ?_
          intro w blk hblk hK
          have hU := UB.step hU hblk hK
          clear hK
          refine SG.walk tab_ok mx 400 [false, false, false, false, true, true] [hdT [.one (aU (loadN m p)), .one (aI (loadE m p))], hdT [.agg (insC o a b i), .one (aI 0)], outT (movO R p m o a b i)] ?_
          conv => whnf
          try dsimp only [rowL, rowN, growOk, hiN, fromL, tightN, maxOk]
          refine ⟨?_, ?_⟩
          · repeat' apply And.intro
            all_goals first
              | exact loadC hp.1 hp.2 hms
              | exact tk hU
              | exact movedC hms hR hm g3
              | trivial
              | rfl
              | omega
              | ((try dsimp only [rowL, rowN]); simp only [beq_iff_eq, beq_eq_false_iff_ne, bne_iff_ne, bne_eq_false_iff_eq, decide_eq_true_eq, decide_eq_false_iff_not, ne_eq, Bool.not_eq_true', Bool.not_eq_false', Bool.not_eq_eq_eq_not, Bool.not_true, Bool.not_false, Option.some.injEq, Option.getD_some, Option.getD_none]; omega)
              | (simp; done)
              | (simp; omega)
          refine SG.ret tab_ok Tryd.func15 rfl ?_
          intro ρ w' v hm hv
          exact Post.mk hm (.tup [.agg (cpuC (movO R p m o a b i).R (movO R p m o a b i).p), .one (.v (.string (movO R p m o a b i).m)), .one (aI (movO R p m o a b i).t)]) [] none [] hv rfl rows0 rfl (by simp)
        refine CallOk.enterK Tryd.func15 (by kernel_rfl) rfl [] [] [cpuS R p, strV m] rfl rows0 (fun r h => by cases h) rfl rfl ?_
        intro w blk hblk hK
        have hU := UB.step hU hblk hK
        clear hK
        refine SG.walk tab_ok mx 400 [false, false, false, false, false, true] [hdT [.one (aU (loadN m p)), .one (aI (loadE m p))], hdT [.agg (insC o a b i), .one (aI 0)], outT (movO R p m o a b i)] ?_
        conv => whnf
        try dsimp only [rowL, rowN, growOk, hiN, fromL, tightN, maxOk]
        refine ⟨?_, ?_⟩
        · repeat' apply And.intro
          all_goals first
            | exact loadC hp.1 hp.2 hms
            | exact tk hU
            | exact movedC hms hR hm g3
            | trivial
            | rfl
            | omega
            | ((try dsimp only [rowL, rowN]); simp only [beq_iff_eq, beq_eq_false_iff_ne, bne_iff_ne, bne_eq_false_iff_eq, decide_eq_true_eq, decide_eq_false_iff_not, ne_eq, Bool.not_eq_true', Bool.not_eq_false', Bool.not_eq_eq_eq_not, Bool.not_true, Bool.not_false, Option.some.injEq, Option.getD_some, Option.getD_none]; omega)
            | (simp; done)
            | (simp; omega)
        refine SG.ret tab_ok Tryd.func15 rfl ?_
        intro ρ w' v hm hv
        exact Post.mk hm (.tup [.agg (cpuC (movO R p m o a b i).R (movO R p m o a b i).p), .one (.v (.string (movO R p m o a b i).m)), .one (aI (movO R p m o a b i).t)]) [] none [] hv rfl rows0 rfl (by simp)
      · rw [if_neg g3]
        by_cases g4 : o = 24
        · rw [if_pos g4]
          refine CallOk.enterK Tryd.func15 (by kernel_rfl) rfl [] [] [cpuS R p, strV m] rfl rows0 (fun r h => by cases h) rfl rfl ?_
          intro w blk hblk hK
          have hU := UB.step hU hblk hK
          clear hK
          refine SG.walk tab_ok mx 400 [false, false, false, false, false, false, true] [hdT [.one (aU (loadN m p)), .one (aI (loadE m p))], hdT [.agg (insC o a b i), .one (aI 0)]] ?_
          conv => whnf
          try dsimp only [rowL, rowN, growOk, hiN, fromL, tightN, maxOk]
          refine ⟨?_, ?_⟩
          · repeat' apply And.intro
            all_goals first
              | exact loadC hp.1 hp.2 hms
              | exact tk hU
              | trivial
              | rfl
              | omega
              | ((try dsimp only [rowL, rowN]); simp only [beq_iff_eq, beq_eq_false_iff_ne, bne_iff_ne, bne_eq_false_iff_eq, decide_eq_true_eq, decide_eq_false_iff_not, ne_eq, Bool.not_eq_true', Bool.not_eq_false', Bool.not_eq_eq_eq_not, Bool.not_true, Bool.not_false, Option.some.injEq, Option.getD_some, Option.getD_none]; omega)
              | (simp; done)
              | (simp; omega)
          refine SG.ret tab_ok Tryd.func15 rfl ?_
          intro ρ w' v hm hv
          exact Post.mk hm (.tup [.agg (cpuC (R) (IntKind.u32.wrap (p + 4))), .one (.v (.string (m))), .one (aI 3)]) [] none [] hv rfl rows0 rfl (by simp)
        · rw [if_neg g4]
          have hd : (1 ≤ o ∧ o ≤ 13) ∨ (18 ≤ o ∧ o ≤ 23) := by omega
          have hmm : (doO R p m o a b i).m = m ∧ (doO R p m o a b i).t = 0 := by unfold doO; split <;> exact ⟨rfl, rfl⟩
          rw [show outT (doO R p m o a b i) = hdT [.agg (cpuC (doO R p m o a b i).R (doO R p m o a b i).p), .one (.v (.string m)), .one (aI 0)] from by unfold outT; rw [hmm.1, hmm.2]]
          refine CallOk.enterK Tryd.func15 (by kernel_rfl) rfl [] [] [cpuS R p, strV m] rfl rows0 (fun r h => by cases h) rfl rfl ?_
          intro w blk hblk hK
          have hU := UB.step hU hblk hK
          clear hK
          refine SG.walk tab_ok mx 400 [false, false, false, false, false, false, false] [hdT [.one (aU (loadN m p)), .one (aI (loadE m p))], hdT [.agg (insC o a b i), .one (aI 0)], hdT [.agg (cpuC (doO R p m o a b i).R (doO R p m o a b i).p), .one (.lb true)]] ?_
          conv => whnf
          try dsimp only [rowL, rowN, growOk, hiN, fromL, tightN, maxOk]
          refine ⟨?_, ?_⟩
          · repeat' apply And.intro
            all_goals first
              | exact loadC hp.1 hp.2 hms
              | exact tk hU
              | exact doesO (m := m) hU hR hm hd
              | trivial
              | rfl
              | omega
              | ((try dsimp only [rowL, rowN]); simp only [beq_iff_eq, beq_eq_false_iff_ne, bne_iff_ne, bne_eq_false_iff_eq, decide_eq_true_eq, decide_eq_false_iff_not, ne_eq, Bool.not_eq_true', Bool.not_eq_false', Bool.not_eq_eq_eq_not, Bool.not_true, Bool.not_false, Option.some.injEq, Option.getD_some, Option.getD_none]; omega)
              | (simp; done)
              | (simp; omega)
          refine SG.ret tab_ok Tryd.func15 rfl ?_
          intro ρ w' v hm hv
          exact Post.mk hm (.tup [.agg (cpuC ((doO R p m o a b i).R) ((doO R p m o a b i).p)), .one (.v (.string (m))), .one (aI 0)]) [] none [] hv rfl rows0 rfl (by simp)
    · rw [if_neg g2]
      refine CallOk.enterK Tryd.func15 (by kernel_rfl) rfl [] [] [cpuS R p, strV m] rfl rows0 (fun r h => by cases h) rfl rfl ?_
      intro w blk hblk hK
      have hU := UB.step hU hblk hK
      clear hK
      refine SG.walk tab_ok mx 400 [false, true] [hdT [.one (aU (loadN m p)), .one (aI (loadE m p))], hdT [.agg (insC 0 0 0 0), .one (aI 11)]] ?_
      conv => whnf
      try dsimp only [rowL, rowN, growOk, hiN, fromL, tightN, maxOk]
      refine ⟨?_, ?_⟩
      · repeat' apply And.intro
        all_goals first
          | exact loadC hp.1 hp.2 hms
          | exact takeNo hU hw.1 hw.2 (Bool.eq_false_iff.2 g2)
          | trivial
          | rfl
          | omega
          | ((try dsimp only [rowL, rowN]); simp only [beq_iff_eq, beq_eq_false_iff_ne, bne_iff_ne, bne_eq_false_iff_eq, decide_eq_true_eq, decide_eq_false_iff_not, ne_eq, Bool.not_eq_true', Bool.not_eq_false', Bool.not_eq_eq_eq_not, Bool.not_true, Bool.not_false, Option.some.injEq, Option.getD_some, Option.getD_none]; omega)
          | (simp; done)
          | (simp; omega)
      refine SG.ret tab_ok Tryd.func15 rfl ?_
      intro ρ w' v hm hv
      exact Post.mk hm (.tup [.agg (cpuC (R) (p)), .one (.v (.string (m))), .one (aI 1)]) [] none [] hv rfl rows0 rfl (by simp)
  · rw [if_neg g1]
    refine CallOk.enterK Tryd.func15 (by kernel_rfl) rfl [] [] [cpuS R p, strV m] rfl rows0 (fun r h => by cases h) rfl rfl ?_
    intro w blk hblk hK
    have hU := UB.step hU hblk hK
    clear hK
    refine SG.walk tab_ok mx 400 [true] [hdT [.one (aU (loadN m p)), .one (aI (loadE m p))]] ?_
    conv => whnf
    try dsimp only [rowL, rowN, growOk, hiN, fromL, tightN, maxOk]
    refine ⟨?_, ?_⟩
    · repeat' apply And.intro
      all_goals first
        | exact loadC hp.1 hp.2 hms
        | trivial
        | rfl
        | omega
        | ((try dsimp only [rowL, rowN]); simp only [beq_iff_eq, beq_eq_false_iff_ne, bne_iff_ne, bne_eq_false_iff_eq, decide_eq_true_eq, decide_eq_false_iff_not, ne_eq, Bool.not_eq_true', Bool.not_eq_false', Bool.not_eq_eq_eq_not, Bool.not_true, Bool.not_false, Option.some.injEq, Option.getD_some, Option.getD_none]; omega)
        | (simp; done)
        | (simp; omega)
    refine SG.ret tab_ok Tryd.func15 rfl ?_
    intro ρ w' v hm hv
    exact Post.mk hm (.tup [.agg (cpuC (R) (p)), .one (.v (.string (m))), .one (aI 2)]) [] none [] hv rfl rows0 rfl (by simp)
end
end Go.Proofs.YtcdoofjddhlodaaDoor
