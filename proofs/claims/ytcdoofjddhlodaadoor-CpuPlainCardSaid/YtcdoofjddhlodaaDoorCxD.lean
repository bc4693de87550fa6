/- Processors: the document's jumps. -/
import Derived.Test.YtcdoofjddhlodaaDoorCxC
namespace Go.Proofs.YtcdoofjddhlodaaDoor
open Go.Sx Go.RowKit
set_option linter.unusedVariables false
set_option linter.unusedSimpArgs false
section
variable {W : Base} {B : List (Option (List At))} {Rs : List (Option Row)}
set_option maxHeartbeats 4000000 in
set_option maxRecDepth 100000 in
theorem rJmp18 {R : Nat → Int} {p a b i : Int} (hR : regs R) (hm : rMay 18 a b i = true) : CallOk Tryd.prog W B Rs 14 [cpuS R p, insS 18 a b i] (hdT [.agg (cpuC (jmpR 18 R p a) (jmpP 18 R p a b i)), .one (.lb true)]) := by
  obtain ⟨_, _, a0, a7, b0, b7, _, _⟩ := may_range hm
  obtain ⟨x0, x1⟩ := hR a.toNat (by omega)
  obtain ⟨y0, y1⟩ := hR b.toNat (by omega)
  rw [show jmpR 18 R p a = R from rfl, show jmpP 18 R p a b i = farN p i from rfl]
  refine CallOk.enter Tryd.func14 (by kernel_rfl) rfl [] [] [cpuS R p, insS 18 a b i] rfl rows0 (fun r h => by cases h) rfl rfl ?_
  intro w blk hblk
  refine SG.walk tab_ok mx 400 [true, false, false, false, false, false, false, false, false, false, false, false, false, false, false, false, true, false, false, false, false, false] [hdB true] ?_
  conv => whnf
  try dsimp only [rowL, rowN, growOk, hiN, fromL, tightN, maxOk]
  refine ⟨?_, ?_⟩
  · try simp only [pick8 a0 a7, pick8 b0 b7]
    repeat' apply And.intro
    all_goals first
      | exact hm ▸ rMayC
      | trivial
      | rfl
      | omega
      | ((try dsimp only [rowL, rowN]); simp only [beq_iff_eq, beq_eq_false_iff_ne, bne_iff_ne, bne_eq_false_iff_eq, decide_eq_true_eq, decide_eq_false_iff_not, ne_eq, Bool.not_eq_true', Bool.not_eq_false', Bool.not_eq_eq_eq_not, Bool.not_true, Bool.not_false, Option.some.injEq, Option.getD_some, Option.getD_none]; omega)
      | (simp; done)
      | (simp; omega)
  try simp only [pick8 a0 a7, pick8 b0 b7]
  refine SG.ret tab_ok Tryd.func14 rfl ?_
  intro ρ w' v hm hv
  exact Post.mk hm (.tup [.agg (cpuC (R) (farN p i)), .one (.lb true)]) [] none [] hv rfl rows0 rfl (by simp)
set_option maxHeartbeats 4000000 in
set_option maxRecDepth 100000 in
theorem rJmp19 {R : Nat → Int} {p a b i : Int} (hR : regs R) (hm : rMay 19 a b i = true) : CallOk Tryd.prog W B Rs 14 [cpuS R p, insS 19 a b i] (hdT [.agg (cpuC (jmpR 19 R p a) (jmpP 19 R p a b i)), .one (.lb true)]) := by
  obtain ⟨_, _, a0, a7, b0, b7, _, _⟩ := may_range hm
  obtain ⟨x0, x1⟩ := hR a.toNat (by omega)
  obtain ⟨y0, y1⟩ := hR b.toNat (by omega)
  rw [show jmpR 19 R p a = updR R a.toNat (behN p) from rfl, show jmpP 19 R p a b i = farN p i from rfl]
  refine CallOk.enter Tryd.func14 (by kernel_rfl) rfl [] [] [cpuS R p, insS 19 a b i] rfl rows0 (fun r h => by cases h) rfl rfl ?_
  intro w blk hblk
  refine SG.walk tab_ok mx 400 [true, false, false, false, false, false, false, false, false, false, false, false, false, false, false, false, false, true, false, false, false, false] [hdB true] ?_
  conv => whnf
  try dsimp only [rowL, rowN, growOk, hiN, fromL, tightN, maxOk]
  refine ⟨?_, ?_⟩
  · try simp only [pick8 a0 a7, pick8 b0 b7]
    repeat' apply And.intro
    all_goals first
      | exact hm ▸ rMayC
      | trivial
      | rfl
      | omega
      | ((try dsimp only [rowL, rowN]); simp only [beq_iff_eq, beq_eq_false_iff_ne, bne_iff_ne, bne_eq_false_iff_eq, decide_eq_true_eq, decide_eq_false_iff_not, ne_eq, Bool.not_eq_true', Bool.not_eq_false', Bool.not_eq_eq_eq_not, Bool.not_true, Bool.not_false, Option.some.injEq, Option.getD_some, Option.getD_none]; omega)
      | (simp; done)
      | (simp; omega)
  try simp only [pick8 a0 a7, pick8 b0 b7]
  refine SG.ret tab_ok Tryd.func14 rfl ?_
  intro ρ w' v hm hv
  exact Post.mk hm (.tup [.agg (cpuC (updR R a.toNat (behN p)) (farN p i)), .one (.lb true)]) [] none [] hv rfl rows0 rfl (by simp)
set_option maxHeartbeats 4000000 in
set_option maxRecDepth 100000 in
theorem rJmp20 {R : Nat → Int} {p a b i : Int} (hR : regs R) (hm : rMay 20 a b i = true) : CallOk Tryd.prog W B Rs 14 [cpuS R p, insS 20 a b i] (hdT [.agg (cpuC (jmpR 20 R p a) (jmpP 20 R p a b i)), .one (.lb true)]) := by
  obtain ⟨_, _, a0, a7, b0, b7, _, _⟩ := may_range hm
  obtain ⟨x0, x1⟩ := hR a.toNat (by omega)
  obtain ⟨y0, y1⟩ := hR b.toNat (by omega)
  rw [show jmpR 20 R p a = R from rfl, show jmpP 20 R p a b i = R a.toNat from rfl]
  refine CallOk.enter Tryd.func14 (by kernel_rfl) rfl [] [] [cpuS R p, insS 20 a b i] rfl rows0 (fun r h => by cases h) rfl rfl ?_
  intro w blk hblk
  refine SG.walk tab_ok mx 400 [true, false, false, false, false, false, false, false, false, false, false, false, false, false, false, false, false, false, true, false, false, false] [hdB true] ?_
  conv => whnf
  try dsimp only [rowL, rowN, growOk, hiN, fromL, tightN, maxOk]
  refine ⟨?_, ?_⟩
  · try simp only [pick8 a0 a7, pick8 b0 b7]
    repeat' apply And.intro
    all_goals first
      | exact hm ▸ rMayC
      | trivial
      | rfl
      | omega
      | ((try dsimp only [rowL, rowN]); simp only [beq_iff_eq, beq_eq_false_iff_ne, bne_iff_ne, bne_eq_false_iff_eq, decide_eq_true_eq, decide_eq_false_iff_not, ne_eq, Bool.not_eq_true', Bool.not_eq_false', Bool.not_eq_eq_eq_not, Bool.not_true, Bool.not_false, Option.some.injEq, Option.getD_some, Option.getD_none]; omega)
      | (simp; done)
      | (simp; omega)
  try simp only [pick8 a0 a7, pick8 b0 b7]
  refine SG.ret tab_ok Tryd.func14 rfl ?_
  intro ρ w' v hm hv
  exact Post.mk hm (.tup [.agg (cpuC (R) (R a.toNat)), .one (.lb true)]) [] none [] hv rfl rows0 rfl (by simp)
set_option maxHeartbeats 4000000 in
set_option maxRecDepth 100000 in
theorem rJmp21 {R : Nat → Int} {p a b i : Int} (hR : regs R) (hm : rMay 21 a b i = true) : CallOk Tryd.prog W B Rs 14 [cpuS R p, insS 21 a b i] (hdT [.agg (cpuC (jmpR 21 R p a) (jmpP 21 R p a b i)), .one (.lb true)]) := by
  obtain ⟨_, _, a0, a7, b0, b7, _, _⟩ := may_range hm
  obtain ⟨x0, x1⟩ := hR a.toNat (by omega)
  obtain ⟨y0, y1⟩ := hR b.toNat (by omega)
  by_cases g : R a.toNat = R b.toNat
  · rw [show jmpR 21 R p a = R from rfl, show jmpP 21 R p a b i = farN p i from (if_pos g)]
    refine CallOk.enter Tryd.func14 (by kernel_rfl) rfl [] [] [cpuS R p, insS 21 a b i] rfl rows0 (fun r h => by cases h) rfl rfl ?_
    intro w blk hblk
    refine SG.walk tab_ok mx 400 [true, false, false, false, false, false, false, false, false, false, false, false, false, false, false, false, false, false, false, true, true] [hdB true] ?_
    conv => whnf
    try dsimp only [rowL, rowN, growOk, hiN, fromL, tightN, maxOk]
    refine ⟨?_, ?_⟩
    · try simp only [pick8 a0 a7, pick8 b0 b7]
      repeat' apply And.intro
      all_goals first
        | exact hm ▸ rMayC
        | trivial
        | rfl
        | omega
        | ((try dsimp only [rowL, rowN]); simp only [beq_iff_eq, beq_eq_false_iff_ne, bne_iff_ne, bne_eq_false_iff_eq, decide_eq_true_eq, decide_eq_false_iff_not, ne_eq, Bool.not_eq_true', Bool.not_eq_false', Bool.not_eq_eq_eq_not, Bool.not_true, Bool.not_false, Option.some.injEq, Option.getD_some, Option.getD_none]; omega)
        | (simp; done)
        | (simp; omega)
    try simp only [pick8 a0 a7, pick8 b0 b7]
    refine SG.ret tab_ok Tryd.func14 rfl ?_
    intro ρ w' v hm hv
    exact Post.mk hm (.tup [.agg (cpuC (R) (farN p i)), .one (.lb true)]) [] none [] hv rfl rows0 rfl (by simp)
  · rw [show jmpR 21 R p a = R from rfl, show jmpP 21 R p a b i = behN p from (if_neg g)]
    refine CallOk.enter Tryd.func14 (by kernel_rfl) rfl [] [] [cpuS R p, insS 21 a b i] rfl rows0 (fun r h => by cases h) rfl rfl ?_
    intro w blk hblk
    refine SG.walk tab_ok mx 400 [true, false, false, false, false, false, false, false, false, false, false, false, false, false, false, false, false, false, false, true, false, false, false] [hdB true] ?_
    conv => whnf
    try dsimp only [rowL, rowN, growOk, hiN, fromL, tightN, maxOk]
    refine ⟨?_, ?_⟩
    · try simp only [pick8 a0 a7, pick8 b0 b7]
      repeat' apply And.intro
      all_goals first
        | exact hm ▸ rMayC
        | trivial
        | rfl
        | omega
        | ((try dsimp only [rowL, rowN]); simp only [beq_iff_eq, beq_eq_false_iff_ne, bne_iff_ne, bne_eq_false_iff_eq, decide_eq_true_eq, decide_eq_false_iff_not, ne_eq, Bool.not_eq_true', Bool.not_eq_false', Bool.not_eq_eq_eq_not, Bool.not_true, Bool.not_false, Option.some.injEq, Option.getD_some, Option.getD_none]; omega)
        | (simp; done)
        | (simp; omega)
    try simp only [pick8 a0 a7, pick8 b0 b7]
    refine SG.ret tab_ok Tryd.func14 rfl ?_
    intro ρ w' v hm hv
    exact Post.mk hm (.tup [.agg (cpuC (R) (behN p)), .one (.lb true)]) [] none [] hv rfl rows0 rfl (by simp)
set_option maxHeartbeats 4000000 in
set_option maxRecDepth 100000 in
theorem rJmp22 {R : Nat → Int} {p a b i : Int} (hR : regs R) (hm : rMay 22 a b i = true) : CallOk Tryd.prog W B Rs 14 [cpuS R p, insS 22 a b i] (hdT [.agg (cpuC (jmpR 22 R p a) (jmpP 22 R p a b i)), .one (.lb true)]) := by
  obtain ⟨_, _, a0, a7, b0, b7, _, _⟩ := may_range hm
  obtain ⟨x0, x1⟩ := hR a.toNat (by omega)
  obtain ⟨y0, y1⟩ := hR b.toNat (by omega)
  by_cases g : IntKind.i32.wrap (R a.toNat) < IntKind.i32.wrap (R b.toNat)
  · rw [show jmpR 22 R p a = R from rfl, show jmpP 22 R p a b i = farN p i from (if_pos g)]
    refine CallOk.enter Tryd.func14 (by kernel_rfl) rfl [] [] [cpuS R p, insS 22 a b i] rfl rows0 (fun r h => by cases h) rfl rfl ?_
    intro w blk hblk
    refine SG.walk tab_ok mx 400 [true, false, false, false, false, false, false, false, false, false, false, false, false, false, false, false, false, false, false, false, true, true] [hdB true, mkHd (intV (IntKind.i32.wrap (R a.toNat))) [], mkHd (intV (IntKind.i32.wrap (R b.toNat))) []] ?_
    conv => whnf
    try dsimp only [rowL, rowN, growOk, hiN, fromL, tightN, maxOk]
    refine ⟨?_, ?_⟩
    · try simp only [pick8 a0 a7, pick8 b0 b7]
      repeat' apply And.intro
      all_goals first
        | exact hm ▸ rMayC
        | exact signedC x0 x1
        | exact signedC y0 y1
        | trivial
        | rfl
        | omega
        | ((try dsimp only [rowL, rowN]); simp only [beq_iff_eq, beq_eq_false_iff_ne, bne_iff_ne, bne_eq_false_iff_eq, decide_eq_true_eq, decide_eq_false_iff_not, ne_eq, Bool.not_eq_true', Bool.not_eq_false', Bool.not_eq_eq_eq_not, Bool.not_true, Bool.not_false, Option.some.injEq, Option.getD_some, Option.getD_none]; omega)
        | (simp; done)
        | (simp; omega)
    try simp only [pick8 a0 a7, pick8 b0 b7]
    refine SG.ret tab_ok Tryd.func14 rfl ?_
    intro ρ w' v hm hv
    exact Post.mk hm (.tup [.agg (cpuC (R) (farN p i)), .one (.lb true)]) [] none [] hv rfl rows0 rfl (by simp)
  · rw [show jmpR 22 R p a = R from rfl, show jmpP 22 R p a b i = behN p from (if_neg g)]
    refine CallOk.enter Tryd.func14 (by kernel_rfl) rfl [] [] [cpuS R p, insS 22 a b i] rfl rows0 (fun r h => by cases h) rfl rfl ?_
    intro w blk hblk
    refine SG.walk tab_ok mx 400 [true, false, false, false, false, false, false, false, false, false, false, false, false, false, false, false, false, false, false, false, true, false, false] [hdB true, mkHd (intV (IntKind.i32.wrap (R a.toNat))) [], mkHd (intV (IntKind.i32.wrap (R b.toNat))) []] ?_
    conv => whnf
    try dsimp only [rowL, rowN, growOk, hiN, fromL, tightN, maxOk]
    refine ⟨?_, ?_⟩
    · try simp only [pick8 a0 a7, pick8 b0 b7]
      repeat' apply And.intro
      all_goals first
        | exact hm ▸ rMayC
        | exact signedC x0 x1
        | exact signedC y0 y1
        | trivial
        | rfl
        | omega
        | ((try dsimp only [rowL, rowN]); simp only [beq_iff_eq, beq_eq_false_iff_ne, bne_iff_ne, bne_eq_false_iff_eq, decide_eq_true_eq, decide_eq_false_iff_not, ne_eq, Bool.not_eq_true', Bool.not_eq_false', Bool.not_eq_eq_eq_not, Bool.not_true, Bool.not_false, Option.some.injEq, Option.getD_some, Option.getD_none]; omega)
        | (simp; done)
        | (simp; omega)
    try simp only [pick8 a0 a7, pick8 b0 b7]
    refine SG.ret tab_ok Tryd.func14 rfl ?_
    intro ρ w' v hm hv
    exact Post.mk hm (.tup [.agg (cpuC (R) (behN p)), .one (.lb true)]) [] none [] hv rfl rows0 rfl (by simp)
set_option maxHeartbeats 4000000 in
set_option maxRecDepth 100000 in
theorem rJmp23 {R : Nat → Int} {p a b i : Int} (hR : regs R) (hm : rMay 23 a b i = true) : CallOk Tryd.prog W B Rs 14 [cpuS R p, insS 23 a b i] (hdT [.agg (cpuC (jmpR 23 R p a) (jmpP 23 R p a b i)), .one (.lb true)]) := by
  obtain ⟨_, _, a0, a7, b0, b7, _, _⟩ := may_range hm
  obtain ⟨x0, x1⟩ := hR a.toNat (by omega)
  obtain ⟨y0, y1⟩ := hR b.toNat (by omega)
  by_cases g : R a.toNat < R b.toNat
  · rw [show jmpR 23 R p a = R from rfl, show jmpP 23 R p a b i = farN p i from (if_pos g)]
    refine CallOk.enter Tryd.func14 (by kernel_rfl) rfl [] [] [cpuS R p, insS 23 a b i] rfl rows0 (fun r h => by cases h) rfl rfl ?_
    intro w blk hblk
    refine SG.walk tab_ok mx 400 [true, false, false, false, false, false, false, false, false, false, false, false, false, false, false, false, false, false, false, false, false, true, true] [hdB true] ?_
    conv => whnf
    try dsimp only [rowL, rowN, growOk, hiN, fromL, tightN, maxOk]
    refine ⟨?_, ?_⟩
    · try simp only [pick8 a0 a7, pick8 b0 b7]
      repeat' apply And.intro
      all_goals first
        | exact hm ▸ rMayC
        | trivial
        | rfl
        | omega
        | ((try dsimp only [rowL, rowN]); simp only [beq_iff_eq, beq_eq_false_iff_ne, bne_iff_ne, bne_eq_false_iff_eq, decide_eq_true_eq, decide_eq_false_iff_not, ne_eq, Bool.not_eq_true', Bool.not_eq_false', Bool.not_eq_eq_eq_not, Bool.not_true, Bool.not_false, Option.some.injEq, Option.getD_some, Option.getD_none]; omega)
        | (simp; done)
        | (simp; omega)
    try simp only [pick8 a0 a7, pick8 b0 b7]
    refine SG.ret tab_ok Tryd.func14 rfl ?_
    intro ρ w' v hm hv
    exact Post.mk hm (.tup [.agg (cpuC (R) (farN p i)), .one (.lb true)]) [] none [] hv rfl rows0 rfl (by simp)
  · rw [show jmpR 23 R p a = R from rfl, show jmpP 23 R p a b i = behN p from (if_neg g)]
    refine CallOk.enter Tryd.func14 (by kernel_rfl) rfl [] [] [cpuS R p, insS 23 a b i] rfl rows0 (fun r h => by cases h) rfl rfl ?_
    intro w blk hblk
    refine SG.walk tab_ok mx 400 [true, false, false, false, false, false, false, false, false, false, false, false, false, false, false, false, false, false, false, false, false, true, false] [hdB true] ?_
    conv => whnf
    try dsimp only [rowL, rowN, growOk, hiN, fromL, tightN, maxOk]
    refine ⟨?_, ?_⟩
    · try simp only [pick8 a0 a7, pick8 b0 b7]
      repeat' apply And.intro
      all_goals first
        | exact hm ▸ rMayC
        | trivial
        | rfl
        | omega
        | ((try dsimp only [rowL, rowN]); simp only [beq_iff_eq, beq_eq_false_iff_ne, bne_iff_ne, bne_eq_false_iff_eq, decide_eq_true_eq, decide_eq_false_iff_not, ne_eq, Bool.not_eq_true', Bool.not_eq_false', Bool.not_eq_eq_eq_not, Bool.not_true, Bool.not_false, Option.some.injEq, Option.getD_some, Option.getD_none]; omega)
        | (simp; done)
        | (simp; omega)
    try simp only [pick8 a0 a7, pick8 b0 b7]
    refine SG.ret tab_ok Tryd.func14 rfl ?_
    intro ρ w' v hm hv
    exact Post.mk hm (.tup [.agg (cpuC (R) (behN p)), .one (.lb true)]) [] none [] hv rfl rows0 rfl (by simp)
set_option maxHeartbeats 4000000 in
set_option maxRecDepth 100000 in
theorem rDoesJmp {R : Nat → Int} {p o a b i : Int} (hR : regs R) (hm : rMay o a b i = true) (h : 18 ≤ o ∧ o ≤ 23) : CallOk Tryd.prog W B Rs 14 [cpuS R p, insS o a b i] (hdT [.agg (cpuC (jmpR o R p a) (jmpP o R p a b i)), .one (.lb true)]) := by
  have hc : o = 18 ∨ o = 19 ∨ o = 20 ∨ o = 21 ∨ o = 22 ∨ o = 23 := by omega
  rcases hc with rfl | rfl | rfl | rfl | rfl | rfl
  · exact rJmp18 hR hm
  · exact rJmp19 hR hm
  · exact rJmp20 hR hm
  · exact rJmp21 hR hm
  · exact rJmp22 hR hm
  · exact rJmp23 hR hm
end
end Go.Proofs.YtcdoofjddhlodaaDoor
