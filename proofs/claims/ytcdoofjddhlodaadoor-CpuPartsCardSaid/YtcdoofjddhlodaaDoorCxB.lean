/- Processors: what an instruction does that needs no memory. -/
import Derived.Test.YtcdoofjddhlodaaDoorCxA
namespace Go.Proofs.YtcdoofjddhlodaaDoor
open Go.Sx Go.RowKit
set_option linter.unusedVariables false
set_option linter.unusedSimpArgs false
section
variable {W : Base} {B : List (Option (List At))} {Rs : List (Option Row)}
set_option maxHeartbeats 4000000 in
set_option maxRecDepth 100000 in
theorem doesNo (hU : UB W) {R : Nat → Int} {p o a b i : Int} (h : rMay o a b i = false ∨ (14 ≤ o ∧ o ≤ 17) ∨ o = 24) : CallOk Tryd.prog W B Rs 13 [cpuS R p, insS o a b i] (hdT [.agg (cpuC R p), .one (.lb false)]) := by
  by_cases hm : rMay o a b i = false
  · refine CallOk.enterK Tryd.func13 (by kernel_rfl) rfl [] [] [cpuS R p, insS o a b i] rfl rows0 (fun r h => by cases h) rfl rfl ?_
    intro w blk hblk hK
    have hU := UB.step hU hblk hK
    clear hK
    refine SG.walk tab_ok mx 400 [] [hdB false] ?_
    conv => whnf
    try dsimp only [rowL, rowN, growOk, hiN, fromL, tightN, maxOk]
    refine ⟨?_, ?_⟩
    · exact hm ▸ mayC hU
    refine SG.ret tab_ok Tryd.func13 rfl ?_
    intro ρ w' v hm hv
    exact Post.mk hm (.tup [.agg (cpuC R p), .one (.lb false)]) [] none [] hv rfl rows0 rfl (by simp)
  have hm' : rMay o a b i = true := Bool.not_eq_false _ ▸ hm
  by_cases h14 : o = 14
  · refine CallOk.enterK Tryd.func13 (by kernel_rfl) rfl [] [] [cpuS R p, insS o a b i] rfl rows0 (fun r h => by cases h) rfl rfl ?_
    intro w blk hblk hK
    have hU := UB.step hU hblk hK
    clear hK
    refine SG.walk tab_ok mx 400 [true, true] [hdB true] ?_
    conv => whnf
    try dsimp only [rowL, rowN, growOk, hiN, fromL, tightN, maxOk]
    refine ⟨?_, ?_⟩
    · repeat' apply And.intro
      all_goals first
        | exact hm' ▸ mayC hU
        | trivial
        | rfl
        | omega
        | ((try dsimp only [rowL, rowN]); simp only [beq_iff_eq, beq_eq_false_iff_ne, bne_iff_ne, bne_eq_false_iff_eq, decide_eq_true_eq, decide_eq_false_iff_not, ne_eq, Bool.not_eq_true', Bool.not_eq_false', Bool.not_eq_eq_eq_not, Bool.not_true, Bool.not_false, Option.some.injEq, Option.getD_some, Option.getD_none]; omega)
        | (simp; done)
        | (simp; omega)
    refine SG.ret tab_ok Tryd.func13 rfl ?_
    intro ρ w' v hm hv
    exact Post.mk hm (.tup [.agg (cpuC R p), .one (.lb false)]) [] none [] hv rfl rows0 rfl (by simp)
  by_cases h16 : o = 16
  · refine CallOk.enterK Tryd.func13 (by kernel_rfl) rfl [] [] [cpuS R p, insS o a b i] rfl rows0 (fun r h => by cases h) rfl rfl ?_
    intro w blk hblk hK
    have hU := UB.step hU hblk hK
    clear hK
    refine SG.walk tab_ok mx 400 [false, true, true] [hdB true] ?_
    conv => whnf
    try dsimp only [rowL, rowN, growOk, hiN, fromL, tightN, maxOk]
    refine ⟨?_, ?_⟩
    · repeat' apply And.intro
      all_goals first
        | exact hm' ▸ mayC hU
        | trivial
        | rfl
        | omega
        | ((try dsimp only [rowL, rowN]); simp only [beq_iff_eq, beq_eq_false_iff_ne, bne_iff_ne, bne_eq_false_iff_eq, decide_eq_true_eq, decide_eq_false_iff_not, ne_eq, Bool.not_eq_true', Bool.not_eq_false', Bool.not_eq_eq_eq_not, Bool.not_true, Bool.not_false, Option.some.injEq, Option.getD_some, Option.getD_none]; omega)
        | (simp; done)
        | (simp; omega)
    refine SG.ret tab_ok Tryd.func13 rfl ?_
    intro ρ w' v hm hv
    exact Post.mk hm (.tup [.agg (cpuC R p), .one (.lb false)]) [] none [] hv rfl rows0 rfl (by simp)
  by_cases h15 : o = 15
  · refine CallOk.enterK Tryd.func13 (by kernel_rfl) rfl [] [] [cpuS R p, insS o a b i] rfl rows0 (fun r h => by cases h) rfl rfl ?_
    intro w blk hblk hK
    have hU := UB.step hU hblk hK
    clear hK
    refine SG.walk tab_ok mx 400 [false, false, true, true] [hdB true] ?_
    conv => whnf
    try dsimp only [rowL, rowN, growOk, hiN, fromL, tightN, maxOk]
    refine ⟨?_, ?_⟩
    · repeat' apply And.intro
      all_goals first
        | exact hm' ▸ mayC hU
        | trivial
        | rfl
        | omega
        | ((try dsimp only [rowL, rowN]); simp only [beq_iff_eq, beq_eq_false_iff_ne, bne_iff_ne, bne_eq_false_iff_eq, decide_eq_true_eq, decide_eq_false_iff_not, ne_eq, Bool.not_eq_true', Bool.not_eq_false', Bool.not_eq_eq_eq_not, Bool.not_true, Bool.not_false, Option.some.injEq, Option.getD_some, Option.getD_none]; omega)
        | (simp; done)
        | (simp; omega)
    refine SG.ret tab_ok Tryd.func13 rfl ?_
    intro ρ w' v hm hv
    exact Post.mk hm (.tup [.agg (cpuC R p), .one (.lb false)]) [] none [] hv rfl rows0 rfl (by simp)
  by_cases h17 : o = 17
  · refine CallOk.enterK Tryd.func13 (by kernel_rfl) rfl [] [] [cpuS R p, insS o a b i] rfl rows0 (fun r h => by cases h) rfl rfl ?_
    intro w blk hblk hK
    have hU := UB.step hU hblk hK
    clear hK
    refine SG.walk tab_ok mx 400 [false, false, false, true, true] [hdB true] ?_
    conv => whnf
    try dsimp only [rowL, rowN, growOk, hiN, fromL, tightN, maxOk]
    refine ⟨?_, ?_⟩
    · repeat' apply And.intro
      all_goals first
        | exact hm' ▸ mayC hU
        | trivial
        | rfl
        | omega
        | ((try dsimp only [rowL, rowN]); simp only [beq_iff_eq, beq_eq_false_iff_ne, bne_iff_ne, bne_eq_false_iff_eq, decide_eq_true_eq, decide_eq_false_iff_not, ne_eq, Bool.not_eq_true', Bool.not_eq_false', Bool.not_eq_eq_eq_not, Bool.not_true, Bool.not_false, Option.some.injEq, Option.getD_some, Option.getD_none]; omega)
        | (simp; done)
        | (simp; omega)
    refine SG.ret tab_ok Tryd.func13 rfl ?_
    intro ρ w' v hm hv
    exact Post.mk hm (.tup [.agg (cpuC R p), .one (.lb false)]) [] none [] hv rfl rows0 rfl (by simp)
  · refine CallOk.enterK Tryd.func13 (by kernel_rfl) rfl [] [] [cpuS R p, insS o a b i] rfl rows0 (fun r h => by cases h) rfl rfl ?_
    intro w blk hblk hK
    have hU := UB.step hU hblk hK
    clear hK
    refine SG.walk tab_ok mx 400 [false, false, false, false, true] [hdB true] ?_
    conv => whnf
    try dsimp only [rowL, rowN, growOk, hiN, fromL, tightN, maxOk]
    refine ⟨?_, ?_⟩
    · have h24 : o = 24 := by rcases h with h | h | h; exact absurd h hm; omega; exact h
      repeat' apply And.intro
      all_goals first
        | exact hm' ▸ mayC hU
        | trivial
        | rfl
        | omega
        | ((try dsimp only [rowL, rowN]); simp only [beq_iff_eq, beq_eq_false_iff_ne, bne_iff_ne, bne_eq_false_iff_eq, decide_eq_true_eq, decide_eq_false_iff_not, ne_eq, Bool.not_eq_true', Bool.not_eq_false', Bool.not_eq_eq_eq_not, Bool.not_true, Bool.not_false, Option.some.injEq, Option.getD_some, Option.getD_none]; omega)
        | (simp; done)
        | (simp; omega)
    refine SG.ret tab_ok Tryd.func13 rfl ?_
    intro ρ w' v hm hv
    exact Post.mk hm (.tup [.agg (cpuC R p), .one (.lb false)]) [] none [] hv rfl rows0 rfl (by simp)
set_option maxHeartbeats 4000000 in
set_option maxRecDepth 100000 in
theorem doesAlu (hU : UB W) {R : Nat → Int} {p o a b i : Int} (hR : regs R) (hm : rMay o a b i = true) (h : 1 ≤ o ∧ o ≤ 13) : CallOk Tryd.prog W B Rs 13 [cpuS R p, insS o a b i] (hdT [.agg (cpuC (updR R a.toNat (recN o (R a.toNat) (R b.toNat) i)) (IntKind.u32.wrap (p + 4))), .one (.lb true)]) := by
  obtain ⟨_, _, a0, a7, b0, b7, _, _⟩ := may_range hm
  obtain ⟨x0, x1⟩ := hR a.toNat (by omega)
  obtain ⟨y0, y1⟩ := hR b.toNat (by omega)
  refine CallOk.enterK Tryd.func13 (by kernel_rfl) rfl [] [] [cpuS R p, insS o a b i] rfl rows0 (fun r h => by cases h) rfl rfl ?_
  intro w blk hblk hK
  have hU := UB.step hU hblk hK
  clear hK
  refine SG.walk tab_ok mx 400 [false, false, false, false, false, false, false, false, false, false, false] [hdB true, hdU (recN o (R a.toNat) (R b.toNat) i)] ?_
  conv => whnf
  try dsimp only [rowL, rowN, growOk, hiN, fromL, tightN, maxOk]
  refine ⟨?_, ?_⟩
  · simp only [pick8 a0 a7, pick8 b0 b7]
    repeat' apply And.intro
    all_goals first
      | exact hm ▸ mayC hU
      | exact recC h.1 h.2 x0 x1 y0 y1
      | trivial
      | rfl
      | omega
      | ((try dsimp only [rowL, rowN]); simp only [beq_iff_eq, beq_eq_false_iff_ne, bne_iff_ne, bne_eq_false_iff_eq, decide_eq_true_eq, decide_eq_false_iff_not, ne_eq, Bool.not_eq_true', Bool.not_eq_false', Bool.not_eq_eq_eq_not, Bool.not_true, Bool.not_false, Option.some.injEq, Option.getD_some, Option.getD_none]; omega)
      | (simp; done)
      | (simp; omega)
  refine SG.ret tab_ok Tryd.func13 rfl ?_
  intro ρ w' v hm hv
  exact Post.mk hm (.tup [.agg (cpuC (updR R a.toNat (recN o (R a.toNat) (R b.toNat) i)) (IntKind.u32.wrap (p + 4))), .one (.lb true)]) [] none [] hv rfl rows0 rfl (by simp)
/-- Where a jump leads. -/
def farN (p i : Int) : Int := IntKind.u32.wrap (p + IntKind.u32.wrap (4 * IntKind.u32.wrap i))
def behN (p : Int) : Int := IntKind.u32.wrap (p + 4)
def jmpP (o : Int) (R : Nat → Int) (p a b i : Int) : Int :=
  if o = 18 ∨ o = 19 then farN p i else if o = 20 then R a.toNat else if o = 21 then (if R a.toNat = R b.toNat then farN p i else behN p)
  else if o = 22 then (if IntKind.i32.wrap (R a.toNat) < IntKind.i32.wrap (R b.toNat) then farN p i else behN p) else (if R a.toNat < R b.toNat then farN p i else behN p)
def jmpR (o : Int) (R : Nat → Int) (p a : Int) : Nat → Int := if o = 19 then updR R a.toNat (behN p) else R
set_option maxHeartbeats 4000000 in
set_option maxRecDepth 100000 in
theorem jumpC {R : Nat → Int} {p o a b i : Int} (hm : rMay o a b i = true) (h : 18 ≤ o ∧ o ≤ 23) : CallOk Tryd.prog W B Rs 21 [cpuS R p, insS o a b i] (mkHd (cpuS (jmpR o R p a) (jmpP o R p a b i)) []) := by
  obtain ⟨_, _, a0, a7, b0, b7, _, _⟩ := may_range hm
  have hc : o = 18 ∨ o = 19 ∨ o = 20 ∨ o = 21 ∨ o = 22 ∨ o = 23 := by omega
  rcases hc with rfl | rfl | rfl | rfl | rfl | rfl
  · rw [show jmpR 18 R p a = R from rfl, show jmpP 18 R p a b i = farN p i from rfl]
    refine CallOk.enter Tryd.func21 (by kernel_rfl) rfl [] [] [cpuS R p, insS 18 a b i] rfl rows0 (fun r h => by cases h) rfl rfl ?_
    intro w blk hblk
    refine SG.walk tab_ok mx 400 [false, true] [] ?_
    conv => whnf
    try dsimp only [rowL, rowN, growOk, hiN, fromL, tightN, maxOk]
    refine ⟨?_, ?_⟩
    · try simp only [pick8 a0 a7, pick8 b0 b7]
      repeat' apply And.intro
      all_goals first
        | trivial
        | rfl
        | omega
        | ((try dsimp only [rowL, rowN]); simp only [beq_iff_eq, beq_eq_false_iff_ne, bne_iff_ne, bne_eq_false_iff_eq, decide_eq_true_eq, decide_eq_false_iff_not, ne_eq, Bool.not_eq_true', Bool.not_eq_false', Bool.not_eq_eq_eq_not, Bool.not_true, Bool.not_false, Option.some.injEq, Option.getD_some, Option.getD_none]; omega)
        | (simp; done)
        | (simp; omega)
    try simp only [pick8 a0 a7, pick8 b0 b7]
    refine SG.ret tab_ok Tryd.func21 rfl ?_
    intro ρ w' v hm hv
    exact Post.mk hm (cpuS (R) (farN p i)) [] none [] hv rfl rows0 rfl (by simp)
  · rw [show jmpR 19 R p a = updR R a.toNat (behN p) from rfl, show jmpP 19 R p a b i = farN p i from rfl]
    refine CallOk.enter Tryd.func21 (by kernel_rfl) rfl [] [] [cpuS R p, insS 19 a b i] rfl rows0 (fun r h => by cases h) rfl rfl ?_
    intro w blk hblk
    refine SG.walk tab_ok mx 400 [true] [] ?_
    conv => whnf
    try dsimp only [rowL, rowN, growOk, hiN, fromL, tightN, maxOk]
    refine ⟨?_, ?_⟩
    · try simp only [pick8 a0 a7, pick8 b0 b7]
      repeat' apply And.intro
      all_goals first
        | trivial
        | rfl
        | omega
        | ((try dsimp only [rowL, rowN]); simp only [beq_iff_eq, beq_eq_false_iff_ne, bne_iff_ne, bne_eq_false_iff_eq, decide_eq_true_eq, decide_eq_false_iff_not, ne_eq, Bool.not_eq_true', Bool.not_eq_false', Bool.not_eq_eq_eq_not, Bool.not_true, Bool.not_false, Option.some.injEq, Option.getD_some, Option.getD_none]; omega)
        | (simp; done)
        | (simp; omega)
    try simp only [pick8 a0 a7, pick8 b0 b7]
    refine SG.ret tab_ok Tryd.func21 rfl ?_
    intro ρ w' v hm hv
    exact Post.mk hm (cpuS (updR R a.toNat (behN p)) (farN p i)) [] none [] hv rfl rows0 rfl (by simp)
  · rw [show jmpR 20 R p a = R from rfl, show jmpP 20 R p a b i = R a.toNat from rfl]
    refine CallOk.enter Tryd.func21 (by kernel_rfl) rfl [] [] [cpuS R p, insS 20 a b i] rfl rows0 (fun r h => by cases h) rfl rfl ?_
    intro w blk hblk
    refine SG.walk tab_ok mx 400 [false, false, true] [] ?_
    conv => whnf
    try dsimp only [rowL, rowN, growOk, hiN, fromL, tightN, maxOk]
    refine ⟨?_, ?_⟩
    · try simp only [pick8 a0 a7, pick8 b0 b7]
      repeat' apply And.intro
      all_goals first
        | trivial
        | rfl
        | omega
        | ((try dsimp only [rowL, rowN]); simp only [beq_iff_eq, beq_eq_false_iff_ne, bne_iff_ne, bne_eq_false_iff_eq, decide_eq_true_eq, decide_eq_false_iff_not, ne_eq, Bool.not_eq_true', Bool.not_eq_false', Bool.not_eq_eq_eq_not, Bool.not_true, Bool.not_false, Option.some.injEq, Option.getD_some, Option.getD_none]; omega)
        | (simp; done)
        | (simp; omega)
    try simp only [pick8 a0 a7, pick8 b0 b7]
    refine SG.ret tab_ok Tryd.func21 rfl ?_
    intro ρ w' v hm hv
    exact Post.mk hm (cpuS (R) (R a.toNat)) [] none [] hv rfl rows0 rfl (by simp)
  · by_cases g : R a.toNat = R b.toNat
    · rw [show jmpR 21 R p a = R from rfl, show jmpP 21 R p a b i = farN p i from (if_pos g)]
      refine CallOk.enter Tryd.func21 (by kernel_rfl) rfl [] [] [cpuS R p, insS 21 a b i] rfl rows0 (fun r h => by cases h) rfl rfl ?_
      intro w blk hblk
      refine SG.walk tab_ok mx 400 [false, false, false, true, true] [] ?_
      conv => whnf
      try dsimp only [rowL, rowN, growOk, hiN, fromL, tightN, maxOk]
      refine ⟨?_, ?_⟩
      · try simp only [pick8 a0 a7, pick8 b0 b7]
        repeat' apply And.intro
        all_goals first
          | trivial
          | rfl
          | omega
          | ((try dsimp only [rowL, rowN]); simp only [beq_iff_eq, beq_eq_false_iff_ne, bne_iff_ne, bne_eq_false_iff_eq, decide_eq_true_eq, decide_eq_false_iff_not, ne_eq, Bool.not_eq_true', Bool.not_eq_false', Bool.not_eq_eq_eq_not, Bool.not_true, Bool.not_false, Option.some.injEq, Option.getD_some, Option.getD_none]; omega)
          | (simp; done)
          | (simp; omega)
      try simp only [pick8 a0 a7, pick8 b0 b7]
      refine SG.ret tab_ok Tryd.func21 rfl ?_
      intro ρ w' v hm hv
      exact Post.mk hm (cpuS (R) (farN p i)) [] none [] hv rfl rows0 rfl (by simp)
    · rw [show jmpR 21 R p a = R from rfl, show jmpP 21 R p a b i = behN p from (if_neg g)]
      refine CallOk.enter Tryd.func21 (by kernel_rfl) rfl [] [] [cpuS R p, insS 21 a b i] rfl rows0 (fun r h => by cases h) rfl rfl ?_
      intro w blk hblk
      refine SG.walk tab_ok mx 400 [false, false, false, true, false] [] ?_
      conv => whnf
      try dsimp only [rowL, rowN, growOk, hiN, fromL, tightN, maxOk]
      refine ⟨?_, ?_⟩
      · try simp only [pick8 a0 a7, pick8 b0 b7]
        repeat' apply And.intro
        all_goals first
          | trivial
          | rfl
          | omega
          | ((try dsimp only [rowL, rowN]); simp only [beq_iff_eq, beq_eq_false_iff_ne, bne_iff_ne, bne_eq_false_iff_eq, decide_eq_true_eq, decide_eq_false_iff_not, ne_eq, Bool.not_eq_true', Bool.not_eq_false', Bool.not_eq_eq_eq_not, Bool.not_true, Bool.not_false, Option.some.injEq, Option.getD_some, Option.getD_none]; omega)
          | (simp; done)
          | (simp; omega)
      try simp only [pick8 a0 a7, pick8 b0 b7]
      refine SG.ret tab_ok Tryd.func21 rfl ?_
      intro ρ w' v hm hv
      exact Post.mk hm (cpuS (R) (behN p)) [] none [] hv rfl rows0 rfl (by simp)
  · by_cases g : IntKind.i32.wrap (R a.toNat) < IntKind.i32.wrap (R b.toNat)
    · rw [show jmpR 22 R p a = R from rfl, show jmpP 22 R p a b i = farN p i from (if_pos g)]
      refine CallOk.enter Tryd.func21 (by kernel_rfl) rfl [] [] [cpuS R p, insS 22 a b i] rfl rows0 (fun r h => by cases h) rfl rfl ?_
      intro w blk hblk
      refine SG.walk tab_ok mx 400 [false, false, false, false, true, true] [] ?_
      conv => whnf
      try dsimp only [rowL, rowN, growOk, hiN, fromL, tightN, maxOk]
      refine ⟨?_, ?_⟩
      · try simp only [pick8 a0 a7, pick8 b0 b7]
        repeat' apply And.intro
        all_goals first
          | trivial
          | rfl
          | omega
          | ((try dsimp only [rowL, rowN]); simp only [beq_iff_eq, beq_eq_false_iff_ne, bne_iff_ne, bne_eq_false_iff_eq, decide_eq_true_eq, decide_eq_false_iff_not, ne_eq, Bool.not_eq_true', Bool.not_eq_false', Bool.not_eq_eq_eq_not, Bool.not_true, Bool.not_false, Option.some.injEq, Option.getD_some, Option.getD_none]; omega)
          | (simp; done)
          | (simp; omega)
      try simp only [pick8 a0 a7, pick8 b0 b7]
      refine SG.ret tab_ok Tryd.func21 rfl ?_
      intro ρ w' v hm hv
      exact Post.mk hm (cpuS (R) (farN p i)) [] none [] hv rfl rows0 rfl (by simp)
    · rw [show jmpR 22 R p a = R from rfl, show jmpP 22 R p a b i = behN p from (if_neg g)]
      refine CallOk.enter Tryd.func21 (by kernel_rfl) rfl [] [] [cpuS R p, insS 22 a b i] rfl rows0 (fun r h => by cases h) rfl rfl ?_
      intro w blk hblk
      refine SG.walk tab_ok mx 400 [false, false, false, false, true, false] [] ?_
      conv => whnf
      try dsimp only [rowL, rowN, growOk, hiN, fromL, tightN, maxOk]
      refine ⟨?_, ?_⟩
      · try simp only [pick8 a0 a7, pick8 b0 b7]
        repeat' apply And.intro
        all_goals first
          | trivial
          | rfl
          | omega
          | ((try dsimp only [rowL, rowN]); simp only [beq_iff_eq, beq_eq_false_iff_ne, bne_iff_ne, bne_eq_false_iff_eq, decide_eq_true_eq, decide_eq_false_iff_not, ne_eq, Bool.not_eq_true', Bool.not_eq_false', Bool.not_eq_eq_eq_not, Bool.not_true, Bool.not_false, Option.some.injEq, Option.getD_some, Option.getD_none]; omega)
          | (simp; done)
          | (simp; omega)
      try simp only [pick8 a0 a7, pick8 b0 b7]
      refine SG.ret tab_ok Tryd.func21 rfl ?_
      intro ρ w' v hm hv
      exact Post.mk hm (cpuS (R) (behN p)) [] none [] hv rfl rows0 rfl (by simp)
  · by_cases g : R a.toNat < R b.toNat
    · rw [show jmpR 23 R p a = R from rfl, show jmpP 23 R p a b i = farN p i from (if_pos g)]
      refine CallOk.enter Tryd.func21 (by kernel_rfl) rfl [] [] [cpuS R p, insS 23 a b i] rfl rows0 (fun r h => by cases h) rfl rfl ?_
      intro w blk hblk
      refine SG.walk tab_ok mx 400 [false, false, false, false, false, true, true] [] ?_
      conv => whnf
      try dsimp only [rowL, rowN, growOk, hiN, fromL, tightN, maxOk]
      refine ⟨?_, ?_⟩
      · try simp only [pick8 a0 a7, pick8 b0 b7]
        repeat' apply And.intro
        all_goals first
          | trivial
          | rfl
          | omega
          | ((try dsimp only [rowL, rowN]); simp only [beq_iff_eq, beq_eq_false_iff_ne, bne_iff_ne, bne_eq_false_iff_eq, decide_eq_true_eq, decide_eq_false_iff_not, ne_eq, Bool.not_eq_true', Bool.not_eq_false', Bool.not_eq_eq_eq_not, Bool.not_true, Bool.not_false, Option.some.injEq, Option.getD_some, Option.getD_none]; omega)
          | (simp; done)
          | (simp; omega)
      try simp only [pick8 a0 a7, pick8 b0 b7]
      refine SG.ret tab_ok Tryd.func21 rfl ?_
      intro ρ w' v hm hv
      exact Post.mk hm (cpuS (R) (farN p i)) [] none [] hv rfl rows0 rfl (by simp)
    · rw [show jmpR 23 R p a = R from rfl, show jmpP 23 R p a b i = behN p from (if_neg g)]
      refine CallOk.enter Tryd.func21 (by kernel_rfl) rfl [] [] [cpuS R p, insS 23 a b i] rfl rows0 (fun r h => by cases h) rfl rfl ?_
      intro w blk hblk
      refine SG.walk tab_ok mx 400 [false, false, false, false, false, true, false] [] ?_
      conv => whnf
      try dsimp only [rowL, rowN, growOk, hiN, fromL, tightN, maxOk]
      refine ⟨?_, ?_⟩
      · try simp only [pick8 a0 a7, pick8 b0 b7]
        repeat' apply And.intro
        all_goals first
          | trivial
          | rfl
          | omega
          | ((try dsimp only [rowL, rowN]); simp only [beq_iff_eq, beq_eq_false_iff_ne, bne_iff_ne, bne_eq_false_iff_eq, decide_eq_true_eq, decide_eq_false_iff_not, ne_eq, Bool.not_eq_true', Bool.not_eq_false', Bool.not_eq_eq_eq_not, Bool.not_true, Bool.not_false, Option.some.injEq, Option.getD_some, Option.getD_none]; omega)
          | (simp; done)
          | (simp; omega)
      try simp only [pick8 a0 a7, pick8 b0 b7]
      refine SG.ret tab_ok Tryd.func21 rfl ?_
      intro ρ w' v hm hv
      exact Post.mk hm (cpuS (R) (behN p)) [] none [] hv rfl rows0 rfl (by simp)
set_option maxHeartbeats 4000000 in
set_option maxRecDepth 100000 in
theorem doesJmp (hU : UB W) {R : Nat → Int} {p o a b i : Int} (hm : rMay o a b i = true) (h : 18 ≤ o ∧ o ≤ 23) : CallOk Tryd.prog W B Rs 13 [cpuS R p, insS o a b i] (hdT [.agg (cpuC (jmpR o R p a) (jmpP o R p a b i)), .one (.lb true)]) := by
  by_cases g18 : o = 18
  · refine CallOk.enterK Tryd.func13 (by kernel_rfl) rfl [] [] [cpuS R p, insS o a b i] rfl rows0 (fun r h => by cases h) rfl rfl ?_
    intro w blk hblk hK
    have hU := UB.step hU hblk hK
    clear hK
    refine SG.walk tab_ok mx 400 [false, false, false, false, false, true, true] [hdB true, mkHd (cpuS (jmpR o R p a) (jmpP o R p a b i)) []] ?_
    conv => whnf
    try dsimp only [rowL, rowN, growOk, hiN, fromL, tightN, maxOk]
    refine ⟨?_, ?_⟩
    · repeat' apply And.intro
      all_goals first
        | exact hm ▸ mayC hU
        | exact jumpC hm h
        | trivial
        | rfl
        | omega
        | ((try dsimp only [rowL, rowN]); simp only [beq_iff_eq, beq_eq_false_iff_ne, bne_iff_ne, bne_eq_false_iff_eq, decide_eq_true_eq, decide_eq_false_iff_not, ne_eq, Bool.not_eq_true', Bool.not_eq_false', Bool.not_eq_eq_eq_not, Bool.not_true, Bool.not_false, Option.some.injEq, Option.getD_some, Option.getD_none]; omega)
        | (simp; done)
        | (simp; omega)
    refine SG.ret tab_ok Tryd.func13 rfl ?_
    intro ρ w' v hm hv
    exact Post.mk hm (.tup [.agg (cpuC (jmpR o R p a) (jmpP o R p a b i)), .one (.lb true)]) [] none [] hv rfl rows0 rfl (by simp)
  by_cases g19 : o = 19
  · refine CallOk.enterK Tryd.func13 (by kernel_rfl) rfl [] [] [cpuS R p, insS o a b i] rfl rows0 (fun r h => by cases h) rfl rfl ?_
    intro w blk hblk hK
    have hU := UB.step hU hblk hK
    clear hK
    refine SG.walk tab_ok mx 400 [false, false, false, false, false, false, true, true] [hdB true, mkHd (cpuS (jmpR o R p a) (jmpP o R p a b i)) []] ?_
    conv => whnf
    try dsimp only [rowL, rowN, growOk, hiN, fromL, tightN, maxOk]
    refine ⟨?_, ?_⟩
    · repeat' apply And.intro
      all_goals first
        | exact hm ▸ mayC hU
        | exact jumpC hm h
        | trivial
        | rfl
        | omega
        | ((try dsimp only [rowL, rowN]); simp only [beq_iff_eq, beq_eq_false_iff_ne, bne_iff_ne, bne_eq_false_iff_eq, decide_eq_true_eq, decide_eq_false_iff_not, ne_eq, Bool.not_eq_true', Bool.not_eq_false', Bool.not_eq_eq_eq_not, Bool.not_true, Bool.not_false, Option.some.injEq, Option.getD_some, Option.getD_none]; omega)
        | (simp; done)
        | (simp; omega)
    refine SG.ret tab_ok Tryd.func13 rfl ?_
    intro ρ w' v hm hv
    exact Post.mk hm (.tup [.agg (cpuC (jmpR o R p a) (jmpP o R p a b i)), .one (.lb true)]) [] none [] hv rfl rows0 rfl (by simp)
  by_cases g20 : o = 20
  · refine CallOk.enterK Tryd.func13 (by kernel_rfl) rfl [] [] [cpuS R p, insS o a b i] rfl rows0 (fun r h => by cases h) rfl rfl ?_
    intro w blk hblk hK
    have hU := UB.step hU hblk hK
    clear hK
    refine SG.walk tab_ok mx 400 [false, false, false, false, false, false, false, true, true] [hdB true, mkHd (cpuS (jmpR o R p a) (jmpP o R p a b i)) []] ?_
    conv => whnf
    try dsimp only [rowL, rowN, growOk, hiN, fromL, tightN, maxOk]
    refine ⟨?_, ?_⟩
    · repeat' apply And.intro
      all_goals first
        | exact hm ▸ mayC hU
        | exact jumpC hm h
        | trivial
        | rfl
        | omega
        | ((try dsimp only [rowL, rowN]); simp only [beq_iff_eq, beq_eq_false_iff_ne, bne_iff_ne, bne_eq_false_iff_eq, decide_eq_true_eq, decide_eq_false_iff_not, ne_eq, Bool.not_eq_true', Bool.not_eq_false', Bool.not_eq_eq_eq_not, Bool.not_true, Bool.not_false, Option.some.injEq, Option.getD_some, Option.getD_none]; omega)
        | (simp; done)
        | (simp; omega)
    refine SG.ret tab_ok Tryd.func13 rfl ?_
    intro ρ w' v hm hv
    exact Post.mk hm (.tup [.agg (cpuC (jmpR o R p a) (jmpP o R p a b i)), .one (.lb true)]) [] none [] hv rfl rows0 rfl (by simp)
  by_cases g21 : o = 21
  · refine CallOk.enterK Tryd.func13 (by kernel_rfl) rfl [] [] [cpuS R p, insS o a b i] rfl rows0 (fun r h => by cases h) rfl rfl ?_
    intro w blk hblk hK
    have hU := UB.step hU hblk hK
    clear hK
    refine SG.walk tab_ok mx 400 [false, false, false, false, false, false, false, false, true, true] [hdB true, mkHd (cpuS (jmpR o R p a) (jmpP o R p a b i)) []] ?_
    conv => whnf
    try dsimp only [rowL, rowN, growOk, hiN, fromL, tightN, maxOk]
    refine ⟨?_, ?_⟩
    · repeat' apply And.intro
      all_goals first
        | exact hm ▸ mayC hU
        | exact jumpC hm h
        | trivial
        | rfl
        | omega
        | ((try dsimp only [rowL, rowN]); simp only [beq_iff_eq, beq_eq_false_iff_ne, bne_iff_ne, bne_eq_false_iff_eq, decide_eq_true_eq, decide_eq_false_iff_not, ne_eq, Bool.not_eq_true', Bool.not_eq_false', Bool.not_eq_eq_eq_not, Bool.not_true, Bool.not_false, Option.some.injEq, Option.getD_some, Option.getD_none]; omega)
        | (simp; done)
        | (simp; omega)
    refine SG.ret tab_ok Tryd.func13 rfl ?_
    intro ρ w' v hm hv
    exact Post.mk hm (.tup [.agg (cpuC (jmpR o R p a) (jmpP o R p a b i)), .one (.lb true)]) [] none [] hv rfl rows0 rfl (by simp)
  by_cases g22 : o = 22
  · refine CallOk.enterK Tryd.func13 (by kernel_rfl) rfl [] [] [cpuS R p, insS o a b i] rfl rows0 (fun r h => by cases h) rfl rfl ?_
    intro w blk hblk hK
    have hU := UB.step hU hblk hK
    clear hK
    refine SG.walk tab_ok mx 400 [false, false, false, false, false, false, false, false, false, true, true] [hdB true, mkHd (cpuS (jmpR o R p a) (jmpP o R p a b i)) []] ?_
    conv => whnf
    try dsimp only [rowL, rowN, growOk, hiN, fromL, tightN, maxOk]
    refine ⟨?_, ?_⟩
    · repeat' apply And.intro
      all_goals first
        | exact hm ▸ mayC hU
        | exact jumpC hm h
        | trivial
        | rfl
        | omega
        | ((try dsimp only [rowL, rowN]); simp only [beq_iff_eq, beq_eq_false_iff_ne, bne_iff_ne, bne_eq_false_iff_eq, decide_eq_true_eq, decide_eq_false_iff_not, ne_eq, Bool.not_eq_true', Bool.not_eq_false', Bool.not_eq_eq_eq_not, Bool.not_true, Bool.not_false, Option.some.injEq, Option.getD_some, Option.getD_none]; omega)
        | (simp; done)
        | (simp; omega)
    refine SG.ret tab_ok Tryd.func13 rfl ?_
    intro ρ w' v hm hv
    exact Post.mk hm (.tup [.agg (cpuC (jmpR o R p a) (jmpP o R p a b i)), .one (.lb true)]) [] none [] hv rfl rows0 rfl (by simp)
  have g23 : o = 23 := by omega
  refine CallOk.enterK Tryd.func13 (by kernel_rfl) rfl [] [] [cpuS R p, insS o a b i] rfl rows0 (fun r h => by cases h) rfl rfl ?_
  intro w blk hblk hK
  have hU := UB.step hU hblk hK
  clear hK
  refine SG.walk tab_ok mx 400 [false, false, false, false, false, false, false, false, false, false, true] [hdB true, mkHd (cpuS (jmpR o R p a) (jmpP o R p a b i)) []] ?_
  conv => whnf
  try dsimp only [rowL, rowN, growOk, hiN, fromL, tightN, maxOk]
  refine ⟨?_, ?_⟩
  · repeat' apply And.intro
    all_goals first
      | exact hm ▸ mayC hU
      | exact jumpC hm h
      | trivial
      | rfl
      | omega
      | ((try dsimp only [rowL, rowN]); simp only [beq_iff_eq, beq_eq_false_iff_ne, bne_iff_ne, bne_eq_false_iff_eq, decide_eq_true_eq, decide_eq_false_iff_not, ne_eq, Bool.not_eq_true', Bool.not_eq_false', Bool.not_eq_eq_eq_not, Bool.not_true, Bool.not_false, Option.some.injEq, Option.getD_some, Option.getD_none]; omega)
      | (simp; done)
      | (simp; omega)
  refine SG.ret tab_ok Tryd.func13 rfl ?_
  intro ρ w' v hm hv
  exact Post.mk hm (.tup [.agg (cpuC (jmpR o R p a) (jmpP o R p a b i)), .one (.lb true)]) [] none [] hv rfl rows0 rfl (by simp)
end
end Go.Proofs.YtcdoofjddhlodaaDoor
