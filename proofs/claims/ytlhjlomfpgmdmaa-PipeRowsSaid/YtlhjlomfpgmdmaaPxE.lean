/- Ends: the first place that is empty. -/
import Derived.Test.YtlhjlomfpgmdmaaPxA
namespace Go.Proofs.Ytlhjlomfpgmdmaa
open Go.Sx Go.RowKit
set_option linter.unusedVariables false
set_option linter.unusedSimpArgs false
section
variable {W : Base} {B : List (Option (List At))} {Rs : List (Option Row)} {p0 p1 p2 p3 p : Int} {w0 w1 w2 w3 u : Bool}
set_option maxRecDepth 100000 in
theorem set0  (h0 : p0 = 0) : CallOk Try.prog W B Rs 19 [.cv (.agg [.v (.int .i64 p0), .v (.bool w0), .v (.int .i64 p1), .v (.bool w1), .v (.int .i64 p2), .v (.bool w2), .v (.int .i64 p3), .v (.bool w3)]), .cv (.agg [.v (.int .i64 p), .v (.bool u)])] (mkHd (.tup [.agg [.v (.int .i64 p), .v (.bool u), .v (.int .i64 p1), .v (.bool w1), .v (.int .i64 p2), .v (.bool w2), .v (.int .i64 p3), .v (.bool w3)], .one (.v (.int .i64 0)), .one (.v (.int .i64 0))]) []) := by
  refine CallOk.enter Try.func19 (by kernel_rfl) rfl [] [] [.cv (.agg [.v (.int .i64 p0), .v (.bool w0), .v (.int .i64 p1), .v (.bool w1), .v (.int .i64 p2), .v (.bool w2), .v (.int .i64 p3), .v (.bool w3)]), .cv (.agg [.v (.int .i64 p), .v (.bool u)])] rfl rows0 (fun r h => by cases h) rfl rfl ?_
  intro w blk hblk
  refine SG.walk tab_ok mx 400 [] [] ?_
  conv => whnf
  try dsimp only [rowL, rowN, growOk, hiN, fromL, tightN, maxOk]
  try simp (disch := omega) only [wI, wU64, wU32, wU8, Int.toNat_natCast, toNat_succ, toNat_pred, Int.reduceToNat, Option.getD_some, Option.getD_none, Nat.sub_zero, Nat.zero_add]
  refine ⟨?_, ?_⟩
  · trivial
  refine SG.good (fun _ _ => .loop) ?_
  refine SG.walk tab_ok mx 400 [true, true] [] ?_
  conv => whnf
  try dsimp only [rowL, rowN, growOk, hiN, fromL, tightN, maxOk]
  try simp (disch := omega) only [wI, wU64, wU32, wU8, Int.toNat_natCast, toNat_succ, toNat_pred, Int.reduceToNat, Option.getD_some, Option.getD_none, Nat.sub_zero, Nat.zero_add]
  refine ⟨?_, ?_⟩
  · repeat' apply And.intro
    all_goals first
      | exact beq_iff_eq.2 h0
      | trivial
      | rfl
      | omega
      | ((try dsimp only [rowL, rowN]); simp only [beq_iff_eq, beq_eq_false_iff_ne, bne_iff_ne, bne_eq_false_iff_eq, decide_eq_true_eq, decide_eq_false_iff_not, ne_eq, Bool.not_eq_true', Bool.not_eq_false', Bool.not_eq_eq_eq_not, Bool.not_true, Bool.not_false, Option.some.injEq, Option.getD_some, Option.getD_none]; omega)
      | (simp; done)
      | (simp; omega)
  refine SG.ret tab_ok Try.func19 rfl ?_
  intro ρ w' v hm hv
  exact Post.mk hm (.tup [.agg [.v (.int .i64 p), .v (.bool u), .v (.int .i64 p1), .v (.bool w1), .v (.int .i64 p2), .v (.bool w2), .v (.int .i64 p3), .v (.bool w3)], .one (.v (.int .i64 0)), .one (.v (.int .i64 0))]) [] none [] hv rfl rows0 rfl (by simp)
set_option maxRecDepth 100000 in
theorem set1 (h0 : p0 ≠ 0) (h1 : p1 = 0) : CallOk Try.prog W B Rs 19 [.cv (.agg [.v (.int .i64 p0), .v (.bool w0), .v (.int .i64 p1), .v (.bool w1), .v (.int .i64 p2), .v (.bool w2), .v (.int .i64 p3), .v (.bool w3)]), .cv (.agg [.v (.int .i64 p), .v (.bool u)])] (mkHd (.tup [.agg [.v (.int .i64 p0), .v (.bool w0), .v (.int .i64 p), .v (.bool u), .v (.int .i64 p2), .v (.bool w2), .v (.int .i64 p3), .v (.bool w3)], .one (.v (.int .i64 1)), .one (.v (.int .i64 0))]) []) := by
  refine CallOk.enter Try.func19 (by kernel_rfl) rfl [] [] [.cv (.agg [.v (.int .i64 p0), .v (.bool w0), .v (.int .i64 p1), .v (.bool w1), .v (.int .i64 p2), .v (.bool w2), .v (.int .i64 p3), .v (.bool w3)]), .cv (.agg [.v (.int .i64 p), .v (.bool u)])] rfl rows0 (fun r h => by cases h) rfl rfl ?_
  intro w blk hblk
  refine SG.walk tab_ok mx 400 [] [] ?_
  conv => whnf
  try dsimp only [rowL, rowN, growOk, hiN, fromL, tightN, maxOk]
  try simp (disch := omega) only [wI, wU64, wU32, wU8, Int.toNat_natCast, toNat_succ, toNat_pred, Int.reduceToNat, Option.getD_some, Option.getD_none, Nat.sub_zero, Nat.zero_add]
  refine ⟨?_, ?_⟩
  · trivial
  refine SG.good (fun _ _ => .loop) ?_
  refine SG.walk tab_ok mx 400 [true, false] [] ?_
  conv => whnf
  try dsimp only [rowL, rowN, growOk, hiN, fromL, tightN, maxOk]
  try simp (disch := omega) only [wI, wU64, wU32, wU8, Int.toNat_natCast, toNat_succ, toNat_pred, Int.reduceToNat, Option.getD_some, Option.getD_none, Nat.sub_zero, Nat.zero_add]
  refine ⟨?_, ?_⟩
  · repeat' apply And.intro
    all_goals first
      | exact beq_eq_false_iff_ne.2 h0
      | trivial
      | rfl
      | omega
      | ((try dsimp only [rowL, rowN]); simp only [beq_iff_eq, beq_eq_false_iff_ne, bne_iff_ne, bne_eq_false_iff_eq, decide_eq_true_eq, decide_eq_false_iff_not, ne_eq, Bool.not_eq_true', Bool.not_eq_false', Bool.not_eq_eq_eq_not, Bool.not_true, Bool.not_false, Option.some.injEq, Option.getD_some, Option.getD_none]; omega)
      | (simp; done)
      | (simp; omega)
  refine SG.good (fun _ _ => .inLoop) ?_
  refine SG.walk tab_ok mx 400 [true, true] [] ?_
  conv => whnf
  try dsimp only [rowL, rowN, growOk, hiN, fromL, tightN, maxOk]
  try simp (disch := omega) only [wI, wU64, wU32, wU8, Int.toNat_natCast, toNat_succ, toNat_pred, Int.reduceToNat, Option.getD_some, Option.getD_none, Nat.sub_zero, Nat.zero_add]
  refine ⟨?_, ?_⟩
  · repeat' apply And.intro
    all_goals first
      | exact beq_iff_eq.2 h1
      | trivial
      | rfl
      | omega
      | ((try dsimp only [rowL, rowN]); simp only [beq_iff_eq, beq_eq_false_iff_ne, bne_iff_ne, bne_eq_false_iff_eq, decide_eq_true_eq, decide_eq_false_iff_not, ne_eq, Bool.not_eq_true', Bool.not_eq_false', Bool.not_eq_eq_eq_not, Bool.not_true, Bool.not_false, Option.some.injEq, Option.getD_some, Option.getD_none]; omega)
      | (simp; done)
      | (simp; omega)
  refine SG.ret tab_ok Try.func19 rfl ?_
  intro ρ w' v hm hv
  exact Post.mk hm (.tup [.agg [.v (.int .i64 p0), .v (.bool w0), .v (.int .i64 p), .v (.bool u), .v (.int .i64 p2), .v (.bool w2), .v (.int .i64 p3), .v (.bool w3)], .one (.v (.int .i64 1)), .one (.v (.int .i64 0))]) [] none [] hv rfl rows0 rfl (by simp)
set_option maxRecDepth 100000 in
theorem set2 (h0 : p0 ≠ 0) (h1 : p1 ≠ 0) (h2 : p2 = 0) : CallOk Try.prog W B Rs 19 [.cv (.agg [.v (.int .i64 p0), .v (.bool w0), .v (.int .i64 p1), .v (.bool w1), .v (.int .i64 p2), .v (.bool w2), .v (.int .i64 p3), .v (.bool w3)]), .cv (.agg [.v (.int .i64 p), .v (.bool u)])] (mkHd (.tup [.agg [.v (.int .i64 p0), .v (.bool w0), .v (.int .i64 p1), .v (.bool w1), .v (.int .i64 p), .v (.bool u), .v (.int .i64 p3), .v (.bool w3)], .one (.v (.int .i64 2)), .one (.v (.int .i64 0))]) []) := by
  refine CallOk.enter Try.func19 (by kernel_rfl) rfl [] [] [.cv (.agg [.v (.int .i64 p0), .v (.bool w0), .v (.int .i64 p1), .v (.bool w1), .v (.int .i64 p2), .v (.bool w2), .v (.int .i64 p3), .v (.bool w3)]), .cv (.agg [.v (.int .i64 p), .v (.bool u)])] rfl rows0 (fun r h => by cases h) rfl rfl ?_
  intro w blk hblk
  refine SG.walk tab_ok mx 400 [] [] ?_
  conv => whnf
  try dsimp only [rowL, rowN, growOk, hiN, fromL, tightN, maxOk]
  try simp (disch := omega) only [wI, wU64, wU32, wU8, Int.toNat_natCast, toNat_succ, toNat_pred, Int.reduceToNat, Option.getD_some, Option.getD_none, Nat.sub_zero, Nat.zero_add]
  refine ⟨?_, ?_⟩
  · trivial
  refine SG.good (fun _ _ => .loop) ?_
  refine SG.walk tab_ok mx 400 [true, false] [] ?_
  conv => whnf
  try dsimp only [rowL, rowN, growOk, hiN, fromL, tightN, maxOk]
  try simp (disch := omega) only [wI, wU64, wU32, wU8, Int.toNat_natCast, toNat_succ, toNat_pred, Int.reduceToNat, Option.getD_some, Option.getD_none, Nat.sub_zero, Nat.zero_add]
  refine ⟨?_, ?_⟩
  · repeat' apply And.intro
    all_goals first
      | exact beq_eq_false_iff_ne.2 h0
      | trivial
      | rfl
      | omega
      | ((try dsimp only [rowL, rowN]); simp only [beq_iff_eq, beq_eq_false_iff_ne, bne_iff_ne, bne_eq_false_iff_eq, decide_eq_true_eq, decide_eq_false_iff_not, ne_eq, Bool.not_eq_true', Bool.not_eq_false', Bool.not_eq_eq_eq_not, Bool.not_true, Bool.not_false, Option.some.injEq, Option.getD_some, Option.getD_none]; omega)
      | (simp; done)
      | (simp; omega)
  refine SG.good (fun _ _ => .inLoop) ?_
  refine SG.walk tab_ok mx 400 [true, false] [] ?_
  conv => whnf
  try dsimp only [rowL, rowN, growOk, hiN, fromL, tightN, maxOk]
  try simp (disch := omega) only [wI, wU64, wU32, wU8, Int.toNat_natCast, toNat_succ, toNat_pred, Int.reduceToNat, Option.getD_some, Option.getD_none, Nat.sub_zero, Nat.zero_add]
  refine ⟨?_, ?_⟩
  · repeat' apply And.intro
    all_goals first
      | exact beq_eq_false_iff_ne.2 h1
      | trivial
      | rfl
      | omega
      | ((try dsimp only [rowL, rowN]); simp only [beq_iff_eq, beq_eq_false_iff_ne, bne_iff_ne, bne_eq_false_iff_eq, decide_eq_true_eq, decide_eq_false_iff_not, ne_eq, Bool.not_eq_true', Bool.not_eq_false', Bool.not_eq_eq_eq_not, Bool.not_true, Bool.not_false, Option.some.injEq, Option.getD_some, Option.getD_none]; omega)
      | (simp; done)
      | (simp; omega)
  refine SG.good (fun _ _ => .inLoop) ?_
  refine SG.walk tab_ok mx 400 [true, true] [] ?_
  conv => whnf
  try dsimp only [rowL, rowN, growOk, hiN, fromL, tightN, maxOk]
  try simp (disch := omega) only [wI, wU64, wU32, wU8, Int.toNat_natCast, toNat_succ, toNat_pred, Int.reduceToNat, Option.getD_some, Option.getD_none, Nat.sub_zero, Nat.zero_add]
  refine ⟨?_, ?_⟩
  · repeat' apply And.intro
    all_goals first
      | exact beq_iff_eq.2 h2
      | trivial
      | rfl
      | omega
      | ((try dsimp only [rowL, rowN]); simp only [beq_iff_eq, beq_eq_false_iff_ne, bne_iff_ne, bne_eq_false_iff_eq, decide_eq_true_eq, decide_eq_false_iff_not, ne_eq, Bool.not_eq_true', Bool.not_eq_false', Bool.not_eq_eq_eq_not, Bool.not_true, Bool.not_false, Option.some.injEq, Option.getD_some, Option.getD_none]; omega)
      | (simp; done)
      | (simp; omega)
  refine SG.ret tab_ok Try.func19 rfl ?_
  intro ρ w' v hm hv
  exact Post.mk hm (.tup [.agg [.v (.int .i64 p0), .v (.bool w0), .v (.int .i64 p1), .v (.bool w1), .v (.int .i64 p), .v (.bool u), .v (.int .i64 p3), .v (.bool w3)], .one (.v (.int .i64 2)), .one (.v (.int .i64 0))]) [] none [] hv rfl rows0 rfl (by simp)
set_option maxRecDepth 100000 in
theorem set3 (h0 : p0 ≠ 0) (h1 : p1 ≠ 0) (h2 : p2 ≠ 0) (h3 : p3 = 0) : CallOk Try.prog W B Rs 19 [.cv (.agg [.v (.int .i64 p0), .v (.bool w0), .v (.int .i64 p1), .v (.bool w1), .v (.int .i64 p2), .v (.bool w2), .v (.int .i64 p3), .v (.bool w3)]), .cv (.agg [.v (.int .i64 p), .v (.bool u)])] (mkHd (.tup [.agg [.v (.int .i64 p0), .v (.bool w0), .v (.int .i64 p1), .v (.bool w1), .v (.int .i64 p2), .v (.bool w2), .v (.int .i64 p), .v (.bool u)], .one (.v (.int .i64 3)), .one (.v (.int .i64 0))]) []) := by
  refine CallOk.enter Try.func19 (by kernel_rfl) rfl [] [] [.cv (.agg [.v (.int .i64 p0), .v (.bool w0), .v (.int .i64 p1), .v (.bool w1), .v (.int .i64 p2), .v (.bool w2), .v (.int .i64 p3), .v (.bool w3)]), .cv (.agg [.v (.int .i64 p), .v (.bool u)])] rfl rows0 (fun r h => by cases h) rfl rfl ?_
  intro w blk hblk
  refine SG.walk tab_ok mx 400 [] [] ?_
  conv => whnf
  try dsimp only [rowL, rowN, growOk, hiN, fromL, tightN, maxOk]
  try simp (disch := omega) only [wI, wU64, wU32, wU8, Int.toNat_natCast, toNat_succ, toNat_pred, Int.reduceToNat, Option.getD_some, Option.getD_none, Nat.sub_zero, Nat.zero_add]
  refine ⟨?_, ?_⟩
  · trivial
  refine SG.good (fun _ _ => .loop) ?_
  refine SG.walk tab_ok mx 400 [true, false] [] ?_
  conv => whnf
  try dsimp only [rowL, rowN, growOk, hiN, fromL, tightN, maxOk]
  try simp (disch := omega) only [wI, wU64, wU32, wU8, Int.toNat_natCast, toNat_succ, toNat_pred, Int.reduceToNat, Option.getD_some, Option.getD_none, Nat.sub_zero, Nat.zero_add]
  refine ⟨?_, ?_⟩
  · repeat' apply And.intro
    all_goals first
      | exact beq_eq_false_iff_ne.2 h0
      | trivial
      | rfl
      | omega
      | ((try dsimp only [rowL, rowN]); simp only [beq_iff_eq, beq_eq_false_iff_ne, bne_iff_ne, bne_eq_false_iff_eq, decide_eq_true_eq, decide_eq_false_iff_not, ne_eq, Bool.not_eq_true', Bool.not_eq_false', Bool.not_eq_eq_eq_not, Bool.not_true, Bool.not_false, Option.some.injEq, Option.getD_some, Option.getD_none]; omega)
      | (simp; done)
      | (simp; omega)
  refine SG.good (fun _ _ => .inLoop) ?_
  refine SG.walk tab_ok mx 400 [true, false] [] ?_
  conv => whnf
  try dsimp only [rowL, rowN, growOk, hiN, fromL, tightN, maxOk]
  try simp (disch := omega) only [wI, wU64, wU32, wU8, Int.toNat_natCast, toNat_succ, toNat_pred, Int.reduceToNat, Option.getD_some, Option.getD_none, Nat.sub_zero, Nat.zero_add]
  refine ⟨?_, ?_⟩
  · repeat' apply And.intro
    all_goals first
      | exact beq_eq_false_iff_ne.2 h1
      | trivial
      | rfl
      | omega
      | ((try dsimp only [rowL, rowN]); simp only [beq_iff_eq, beq_eq_false_iff_ne, bne_iff_ne, bne_eq_false_iff_eq, decide_eq_true_eq, decide_eq_false_iff_not, ne_eq, Bool.not_eq_true', Bool.not_eq_false', Bool.not_eq_eq_eq_not, Bool.not_true, Bool.not_false, Option.some.injEq, Option.getD_some, Option.getD_none]; omega)
      | (simp; done)
      | (simp; omega)
  refine SG.good (fun _ _ => .inLoop) ?_
  refine SG.walk tab_ok mx 400 [true, false] [] ?_
  conv => whnf
  try dsimp only [rowL, rowN, growOk, hiN, fromL, tightN, maxOk]
  try simp (disch := omega) only [wI, wU64, wU32, wU8, Int.toNat_natCast, toNat_succ, toNat_pred, Int.reduceToNat, Option.getD_some, Option.getD_none, Nat.sub_zero, Nat.zero_add]
  refine ⟨?_, ?_⟩
  · repeat' apply And.intro
    all_goals first
      | exact beq_eq_false_iff_ne.2 h2
      | trivial
      | rfl
      | omega
      | ((try dsimp only [rowL, rowN]); simp only [beq_iff_eq, beq_eq_false_iff_ne, bne_iff_ne, bne_eq_false_iff_eq, decide_eq_true_eq, decide_eq_false_iff_not, ne_eq, Bool.not_eq_true', Bool.not_eq_false', Bool.not_eq_eq_eq_not, Bool.not_true, Bool.not_false, Option.some.injEq, Option.getD_some, Option.getD_none]; omega)
      | (simp; done)
      | (simp; omega)
  refine SG.good (fun _ _ => .inLoop) ?_
  refine SG.walk tab_ok mx 400 [true, true] [] ?_
  conv => whnf
  try dsimp only [rowL, rowN, growOk, hiN, fromL, tightN, maxOk]
  try simp (disch := omega) only [wI, wU64, wU32, wU8, Int.toNat_natCast, toNat_succ, toNat_pred, Int.reduceToNat, Option.getD_some, Option.getD_none, Nat.sub_zero, Nat.zero_add]
  refine ⟨?_, ?_⟩
  · repeat' apply And.intro
    all_goals first
      | exact beq_iff_eq.2 h3
      | trivial
      | rfl
      | omega
      | ((try dsimp only [rowL, rowN]); simp only [beq_iff_eq, beq_eq_false_iff_ne, bne_iff_ne, bne_eq_false_iff_eq, decide_eq_true_eq, decide_eq_false_iff_not, ne_eq, Bool.not_eq_true', Bool.not_eq_false', Bool.not_eq_eq_eq_not, Bool.not_true, Bool.not_false, Option.some.injEq, Option.getD_some, Option.getD_none]; omega)
      | (simp; done)
      | (simp; omega)
  refine SG.ret tab_ok Try.func19 rfl ?_
  intro ρ w' v hm hv
  exact Post.mk hm (.tup [.agg [.v (.int .i64 p0), .v (.bool w0), .v (.int .i64 p1), .v (.bool w1), .v (.int .i64 p2), .v (.bool w2), .v (.int .i64 p), .v (.bool u)], .one (.v (.int .i64 3)), .one (.v (.int .i64 0))]) [] none [] hv rfl rows0 rfl (by simp)
set_option maxRecDepth 100000 in
theorem set4 (h0 : p0 ≠ 0) (h1 : p1 ≠ 0) (h2 : p2 ≠ 0) (h3 : p3 ≠ 0) : CallOk Try.prog W B Rs 19 [.cv (.agg [.v (.int .i64 p0), .v (.bool w0), .v (.int .i64 p1), .v (.bool w1), .v (.int .i64 p2), .v (.bool w2), .v (.int .i64 p3), .v (.bool w3)]), .cv (.agg [.v (.int .i64 p), .v (.bool u)])] (mkHd (.tup [.agg [.v (.int .i64 p0), .v (.bool w0), .v (.int .i64 p1), .v (.bool w1), .v (.int .i64 p2), .v (.bool w2), .v (.int .i64 p3), .v (.bool w3)], .one (.v (.int .i64 0)), .one (.v (.int .i64 5))]) []) := by
  refine CallOk.enter Try.func19 (by kernel_rfl) rfl [] [] [.cv (.agg [.v (.int .i64 p0), .v (.bool w0), .v (.int .i64 p1), .v (.bool w1), .v (.int .i64 p2), .v (.bool w2), .v (.int .i64 p3), .v (.bool w3)]), .cv (.agg [.v (.int .i64 p), .v (.bool u)])] rfl rows0 (fun r h => by cases h) rfl rfl ?_
  intro w blk hblk
  refine SG.walk tab_ok mx 400 [] [] ?_
  conv => whnf
  try dsimp only [rowL, rowN, growOk, hiN, fromL, tightN, maxOk]
  try simp (disch := omega) only [wI, wU64, wU32, wU8, Int.toNat_natCast, toNat_succ, toNat_pred, Int.reduceToNat, Option.getD_some, Option.getD_none, Nat.sub_zero, Nat.zero_add]
  refine ⟨?_, ?_⟩
  · trivial
  refine SG.good (fun _ _ => .loop) ?_
  refine SG.walk tab_ok mx 400 [true, false] [] ?_
  conv => whnf
  try dsimp only [rowL, rowN, growOk, hiN, fromL, tightN, maxOk]
  try simp (disch := omega) only [wI, wU64, wU32, wU8, Int.toNat_natCast, toNat_succ, toNat_pred, Int.reduceToNat, Option.getD_some, Option.getD_none, Nat.sub_zero, Nat.zero_add]
  refine ⟨?_, ?_⟩
  · repeat' apply And.intro
    all_goals first
      | exact beq_eq_false_iff_ne.2 h0
      | trivial
      | rfl
      | omega
      | ((try dsimp only [rowL, rowN]); simp only [beq_iff_eq, beq_eq_false_iff_ne, bne_iff_ne, bne_eq_false_iff_eq, decide_eq_true_eq, decide_eq_false_iff_not, ne_eq, Bool.not_eq_true', Bool.not_eq_false', Bool.not_eq_eq_eq_not, Bool.not_true, Bool.not_false, Option.some.injEq, Option.getD_some, Option.getD_none]; omega)
      | (simp; done)
      | (simp; omega)
  refine SG.good (fun _ _ => .inLoop) ?_
  refine SG.walk tab_ok mx 400 [true, false] [] ?_
  conv => whnf
  try dsimp only [rowL, rowN, growOk, hiN, fromL, tightN, maxOk]
  try simp (disch := omega) only [wI, wU64, wU32, wU8, Int.toNat_natCast, toNat_succ, toNat_pred, Int.reduceToNat, Option.getD_some, Option.getD_none, Nat.sub_zero, Nat.zero_add]
  refine ⟨?_, ?_⟩
  · repeat' apply And.intro
    all_goals first
      | exact beq_eq_false_iff_ne.2 h1
      | trivial
      | rfl
      | omega
      | ((try dsimp only [rowL, rowN]); simp only [beq_iff_eq, beq_eq_false_iff_ne, bne_iff_ne, bne_eq_false_iff_eq, decide_eq_true_eq, decide_eq_false_iff_not, ne_eq, Bool.not_eq_true', Bool.not_eq_false', Bool.not_eq_eq_eq_not, Bool.not_true, Bool.not_false, Option.some.injEq, Option.getD_some, Option.getD_none]; omega)
      | (simp; done)
      | (simp; omega)
  refine SG.good (fun _ _ => .inLoop) ?_
  refine SG.walk tab_ok mx 400 [true, false] [] ?_
  conv => whnf
  try dsimp only [rowL, rowN, growOk, hiN, fromL, tightN, maxOk]
  try simp (disch := omega) only [wI, wU64, wU32, wU8, Int.toNat_natCast, toNat_succ, toNat_pred, Int.reduceToNat, Option.getD_some, Option.getD_none, Nat.sub_zero, Nat.zero_add]
  refine ⟨?_, ?_⟩
  · repeat' apply And.intro
    all_goals first
      | exact beq_eq_false_iff_ne.2 h2
      | trivial
      | rfl
      | omega
      | ((try dsimp only [rowL, rowN]); simp only [beq_iff_eq, beq_eq_false_iff_ne, bne_iff_ne, bne_eq_false_iff_eq, decide_eq_true_eq, decide_eq_false_iff_not, ne_eq, Bool.not_eq_true', Bool.not_eq_false', Bool.not_eq_eq_eq_not, Bool.not_true, Bool.not_false, Option.some.injEq, Option.getD_some, Option.getD_none]; omega)
      | (simp; done)
      | (simp; omega)
  refine SG.good (fun _ _ => .inLoop) ?_
  refine SG.walk tab_ok mx 400 [true, false] [] ?_
  conv => whnf
  try dsimp only [rowL, rowN, growOk, hiN, fromL, tightN, maxOk]
  try simp (disch := omega) only [wI, wU64, wU32, wU8, Int.toNat_natCast, toNat_succ, toNat_pred, Int.reduceToNat, Option.getD_some, Option.getD_none, Nat.sub_zero, Nat.zero_add]
  refine ⟨?_, ?_⟩
  · repeat' apply And.intro
    all_goals first
      | exact beq_eq_false_iff_ne.2 h3
      | trivial
      | rfl
      | omega
      | ((try dsimp only [rowL, rowN]); simp only [beq_iff_eq, beq_eq_false_iff_ne, bne_iff_ne, bne_eq_false_iff_eq, decide_eq_true_eq, decide_eq_false_iff_not, ne_eq, Bool.not_eq_true', Bool.not_eq_false', Bool.not_eq_eq_eq_not, Bool.not_true, Bool.not_false, Option.some.injEq, Option.getD_some, Option.getD_none]; omega)
      | (simp; done)
      | (simp; omega)
  refine SG.good (fun _ _ => .inLoop) ?_
  refine SG.walk tab_ok mx 400 [false] [] ?_
  conv => whnf
  try dsimp only [rowL, rowN, growOk, hiN, fromL, tightN, maxOk]
  try simp (disch := omega) only [wI, wU64, wU32, wU8, Int.toNat_natCast, toNat_succ, toNat_pred, Int.reduceToNat, Option.getD_some, Option.getD_none, Nat.sub_zero, Nat.zero_add]
  refine ⟨?_, ?_⟩
  · repeat' apply And.intro
    all_goals first
      | trivial
      | rfl
      | omega
      | ((try dsimp only [rowL, rowN]); simp only [beq_iff_eq, beq_eq_false_iff_ne, bne_iff_ne, bne_eq_false_iff_eq, decide_eq_true_eq, decide_eq_false_iff_not, ne_eq, Bool.not_eq_true', Bool.not_eq_false', Bool.not_eq_eq_eq_not, Bool.not_true, Bool.not_false, Option.some.injEq, Option.getD_some, Option.getD_none]; omega)
      | (simp; done)
      | (simp; omega)
  refine SG.ret tab_ok Try.func19 rfl ?_
  intro ρ w' v hm hv
  exact Post.mk hm (.tup [.agg [.v (.int .i64 p0), .v (.bool w0), .v (.int .i64 p1), .v (.bool w1), .v (.int .i64 p2), .v (.bool w2), .v (.int .i64 p3), .v (.bool w3)], .one (.v (.int .i64 0)), .one (.v (.int .i64 5))]) [] none [] hv rfl rows0 rfl (by simp)
set_option maxRecDepth 100000 in
theorem rset0  (h0 : p0 = 0) : CallOk Try.prog W B Rs 20 [.cv (.agg [.v (.int .i64 p0), .v (.bool w0), .v (.int .i64 p1), .v (.bool w1), .v (.int .i64 p2), .v (.bool w2), .v (.int .i64 p3), .v (.bool w3)]), .cv (.agg [.v (.int .i64 p), .v (.bool u)])] (mkHd (.tup [.agg [.v (.int .i64 p), .v (.bool u), .v (.int .i64 p1), .v (.bool w1), .v (.int .i64 p2), .v (.bool w2), .v (.int .i64 p3), .v (.bool w3)], .one (.v (.int .i64 0)), .one (.v (.int .i64 0))]) []) := by
  refine CallOk.enter Try.func20 (by kernel_rfl) rfl [] [] [.cv (.agg [.v (.int .i64 p0), .v (.bool w0), .v (.int .i64 p1), .v (.bool w1), .v (.int .i64 p2), .v (.bool w2), .v (.int .i64 p3), .v (.bool w3)]), .cv (.agg [.v (.int .i64 p), .v (.bool u)])] rfl rows0 (fun r h => by cases h) rfl rfl ?_
  intro w blk hblk
  refine SG.walk tab_ok mx 400 [] [] ?_
  conv => whnf
  try dsimp only [rowL, rowN, growOk, hiN, fromL, tightN, maxOk]
  try simp (disch := omega) only [wI, wU64, wU32, wU8, Int.toNat_natCast, toNat_succ, toNat_pred, Int.reduceToNat, Option.getD_some, Option.getD_none, Nat.sub_zero, Nat.zero_add]
  refine ⟨?_, ?_⟩
  · trivial
  refine SG.good (fun _ _ => .loop) ?_
  refine SG.walk tab_ok mx 400 [true, true] [] ?_
  conv => whnf
  try dsimp only [rowL, rowN, growOk, hiN, fromL, tightN, maxOk]
  try simp (disch := omega) only [wI, wU64, wU32, wU8, Int.toNat_natCast, toNat_succ, toNat_pred, Int.reduceToNat, Option.getD_some, Option.getD_none, Nat.sub_zero, Nat.zero_add]
  refine ⟨?_, ?_⟩
  · repeat' apply And.intro
    all_goals first
      | exact beq_iff_eq.2 h0
      | trivial
      | rfl
      | omega
      | ((try dsimp only [rowL, rowN]); simp only [beq_iff_eq, beq_eq_false_iff_ne, bne_iff_ne, bne_eq_false_iff_eq, decide_eq_true_eq, decide_eq_false_iff_not, ne_eq, Bool.not_eq_true', Bool.not_eq_false', Bool.not_eq_eq_eq_not, Bool.not_true, Bool.not_false, Option.some.injEq, Option.getD_some, Option.getD_none]; omega)
      | (simp; done)
      | (simp; omega)
  refine SG.ret tab_ok Try.func20 rfl ?_
  intro ρ w' v hm hv
  exact Post.mk hm (.tup [.agg [.v (.int .i64 p), .v (.bool u), .v (.int .i64 p1), .v (.bool w1), .v (.int .i64 p2), .v (.bool w2), .v (.int .i64 p3), .v (.bool w3)], .one (.v (.int .i64 0)), .one (.v (.int .i64 0))]) [] none [] hv rfl rows0 rfl (by simp)
set_option maxRecDepth 100000 in
theorem rset1 (h0 : p0 ≠ 0) (h1 : p1 = 0) : CallOk Try.prog W B Rs 20 [.cv (.agg [.v (.int .i64 p0), .v (.bool w0), .v (.int .i64 p1), .v (.bool w1), .v (.int .i64 p2), .v (.bool w2), .v (.int .i64 p3), .v (.bool w3)]), .cv (.agg [.v (.int .i64 p), .v (.bool u)])] (mkHd (.tup [.agg [.v (.int .i64 p0), .v (.bool w0), .v (.int .i64 p), .v (.bool u), .v (.int .i64 p2), .v (.bool w2), .v (.int .i64 p3), .v (.bool w3)], .one (.v (.int .i64 1)), .one (.v (.int .i64 0))]) []) := by
  refine CallOk.enter Try.func20 (by kernel_rfl) rfl [] [] [.cv (.agg [.v (.int .i64 p0), .v (.bool w0), .v (.int .i64 p1), .v (.bool w1), .v (.int .i64 p2), .v (.bool w2), .v (.int .i64 p3), .v (.bool w3)]), .cv (.agg [.v (.int .i64 p), .v (.bool u)])] rfl rows0 (fun r h => by cases h) rfl rfl ?_
  intro w blk hblk
  refine SG.walk tab_ok mx 400 [] [] ?_
  conv => whnf
  try dsimp only [rowL, rowN, growOk, hiN, fromL, tightN, maxOk]
  try simp (disch := omega) only [wI, wU64, wU32, wU8, Int.toNat_natCast, toNat_succ, toNat_pred, Int.reduceToNat, Option.getD_some, Option.getD_none, Nat.sub_zero, Nat.zero_add]
  refine ⟨?_, ?_⟩
  · trivial
  refine SG.good (fun _ _ => .loop) ?_
  refine SG.walk tab_ok mx 400 [true, false] [] ?_
  conv => whnf
  try dsimp only [rowL, rowN, growOk, hiN, fromL, tightN, maxOk]
  try simp (disch := omega) only [wI, wU64, wU32, wU8, Int.toNat_natCast, toNat_succ, toNat_pred, Int.reduceToNat, Option.getD_some, Option.getD_none, Nat.sub_zero, Nat.zero_add]
  refine ⟨?_, ?_⟩
  · repeat' apply And.intro
    all_goals first
      | exact beq_eq_false_iff_ne.2 h0
      | trivial
      | rfl
      | omega
      | ((try dsimp only [rowL, rowN]); simp only [beq_iff_eq, beq_eq_false_iff_ne, bne_iff_ne, bne_eq_false_iff_eq, decide_eq_true_eq, decide_eq_false_iff_not, ne_eq, Bool.not_eq_true', Bool.not_eq_false', Bool.not_eq_eq_eq_not, Bool.not_true, Bool.not_false, Option.some.injEq, Option.getD_some, Option.getD_none]; omega)
      | (simp; done)
      | (simp; omega)
  refine SG.good (fun _ _ => .inLoop) ?_
  refine SG.walk tab_ok mx 400 [true, true] [] ?_
  conv => whnf
  try dsimp only [rowL, rowN, growOk, hiN, fromL, tightN, maxOk]
  try simp (disch := omega) only [wI, wU64, wU32, wU8, Int.toNat_natCast, toNat_succ, toNat_pred, Int.reduceToNat, Option.getD_some, Option.getD_none, Nat.sub_zero, Nat.zero_add]
  refine ⟨?_, ?_⟩
  · repeat' apply And.intro
    all_goals first
      | exact beq_iff_eq.2 h1
      | trivial
      | rfl
      | omega
      | ((try dsimp only [rowL, rowN]); simp only [beq_iff_eq, beq_eq_false_iff_ne, bne_iff_ne, bne_eq_false_iff_eq, decide_eq_true_eq, decide_eq_false_iff_not, ne_eq, Bool.not_eq_true', Bool.not_eq_false', Bool.not_eq_eq_eq_not, Bool.not_true, Bool.not_false, Option.some.injEq, Option.getD_some, Option.getD_none]; omega)
      | (simp; done)
      | (simp; omega)
  refine SG.ret tab_ok Try.func20 rfl ?_
  intro ρ w' v hm hv
  exact Post.mk hm (.tup [.agg [.v (.int .i64 p0), .v (.bool w0), .v (.int .i64 p), .v (.bool u), .v (.int .i64 p2), .v (.bool w2), .v (.int .i64 p3), .v (.bool w3)], .one (.v (.int .i64 1)), .one (.v (.int .i64 0))]) [] none [] hv rfl rows0 rfl (by simp)
set_option maxRecDepth 100000 in
theorem rset2 (h0 : p0 ≠ 0) (h1 : p1 ≠ 0) (h2 : p2 = 0) : CallOk Try.prog W B Rs 20 [.cv (.agg [.v (.int .i64 p0), .v (.bool w0), .v (.int .i64 p1), .v (.bool w1), .v (.int .i64 p2), .v (.bool w2), .v (.int .i64 p3), .v (.bool w3)]), .cv (.agg [.v (.int .i64 p), .v (.bool u)])] (mkHd (.tup [.agg [.v (.int .i64 p0), .v (.bool w0), .v (.int .i64 p1), .v (.bool w1), .v (.int .i64 p), .v (.bool u), .v (.int .i64 p3), .v (.bool w3)], .one (.v (.int .i64 2)), .one (.v (.int .i64 0))]) []) := by
  refine CallOk.enter Try.func20 (by kernel_rfl) rfl [] [] [.cv (.agg [.v (.int .i64 p0), .v (.bool w0), .v (.int .i64 p1), .v (.bool w1), .v (.int .i64 p2), .v (.bool w2), .v (.int .i64 p3), .v (.bool w3)]), .cv (.agg [.v (.int .i64 p), .v (.bool u)])] rfl rows0 (fun r h => by cases h) rfl rfl ?_
  intro w blk hblk
  refine SG.walk tab_ok mx 400 [] [] ?_
  conv => whnf
  try dsimp only [rowL, rowN, growOk, hiN, fromL, tightN, maxOk]
  try simp (disch := omega) only [wI, wU64, wU32, wU8, Int.toNat_natCast, toNat_succ, toNat_pred, Int.reduceToNat, Option.getD_some, Option.getD_none, Nat.sub_zero, Nat.zero_add]
  refine ⟨?_, ?_⟩
  · trivial
  refine SG.good (fun _ _ => .loop) ?_
  refine SG.walk tab_ok mx 400 [true, false] [] ?_
  conv => whnf
  try dsimp only [rowL, rowN, growOk, hiN, fromL, tightN, maxOk]
  try simp (disch := omega) only [wI, wU64, wU32, wU8, Int.toNat_natCast, toNat_succ, toNat_pred, Int.reduceToNat, Option.getD_some, Option.getD_none, Nat.sub_zero, Nat.zero_add]
  refine ⟨?_, ?_⟩
  · repeat' apply And.intro
    all_goals first
      | exact beq_eq_false_iff_ne.2 h0
      | trivial
      | rfl
      | omega
      | ((try dsimp only [rowL, rowN]); simp only [beq_iff_eq, beq_eq_false_iff_ne, bne_iff_ne, bne_eq_false_iff_eq, decide_eq_true_eq, decide_eq_false_iff_not, ne_eq, Bool.not_eq_true', Bool.not_eq_false', Bool.not_eq_eq_eq_not, Bool.not_true, Bool.not_false, Option.some.injEq, Option.getD_some, Option.getD_none]; omega)
      | (simp; done)
      | (simp; omega)
  refine SG.good (fun _ _ => .inLoop) ?_
  refine SG.walk tab_ok mx 400 [true, false] [] ?_
  conv => whnf
  try dsimp only [rowL, rowN, growOk, hiN, fromL, tightN, maxOk]
  try simp (disch := omega) only [wI, wU64, wU32, wU8, Int.toNat_natCast, toNat_succ, toNat_pred, Int.reduceToNat, Option.getD_some, Option.getD_none, Nat.sub_zero, Nat.zero_add]
  refine ⟨?_, ?_⟩
  · repeat' apply And.intro
    all_goals first
      | exact beq_eq_false_iff_ne.2 h1
      | trivial
      | rfl
      | omega
      | ((try dsimp only [rowL, rowN]); simp only [beq_iff_eq, beq_eq_false_iff_ne, bne_iff_ne, bne_eq_false_iff_eq, decide_eq_true_eq, decide_eq_false_iff_not, ne_eq, Bool.not_eq_true', Bool.not_eq_false', Bool.not_eq_eq_eq_not, Bool.not_true, Bool.not_false, Option.some.injEq, Option.getD_some, Option.getD_none]; omega)
      | (simp; done)
      | (simp; omega)
  refine SG.good (fun _ _ => .inLoop) ?_
  refine SG.walk tab_ok mx 400 [true, true] [] ?_
  conv => whnf
  try dsimp only [rowL, rowN, growOk, hiN, fromL, tightN, maxOk]
  try simp (disch := omega) only [wI, wU64, wU32, wU8, Int.toNat_natCast, toNat_succ, toNat_pred, Int.reduceToNat, Option.getD_some, Option.getD_none, Nat.sub_zero, Nat.zero_add]
  refine ⟨?_, ?_⟩
  · repeat' apply And.intro
    all_goals first
      | exact beq_iff_eq.2 h2
      | trivial
      | rfl
      | omega
      | ((try dsimp only [rowL, rowN]); simp only [beq_iff_eq, beq_eq_false_iff_ne, bne_iff_ne, bne_eq_false_iff_eq, decide_eq_true_eq, decide_eq_false_iff_not, ne_eq, Bool.not_eq_true', Bool.not_eq_false', Bool.not_eq_eq_eq_not, Bool.not_true, Bool.not_false, Option.some.injEq, Option.getD_some, Option.getD_none]; omega)
      | (simp; done)
      | (simp; omega)
  refine SG.ret tab_ok Try.func20 rfl ?_
  intro ρ w' v hm hv
  exact Post.mk hm (.tup [.agg [.v (.int .i64 p0), .v (.bool w0), .v (.int .i64 p1), .v (.bool w1), .v (.int .i64 p), .v (.bool u), .v (.int .i64 p3), .v (.bool w3)], .one (.v (.int .i64 2)), .one (.v (.int .i64 0))]) [] none [] hv rfl rows0 rfl (by simp)
set_option maxRecDepth 100000 in
theorem rset3 (h0 : p0 ≠ 0) (h1 : p1 ≠ 0) (h2 : p2 ≠ 0) (h3 : p3 = 0) : CallOk Try.prog W B Rs 20 [.cv (.agg [.v (.int .i64 p0), .v (.bool w0), .v (.int .i64 p1), .v (.bool w1), .v (.int .i64 p2), .v (.bool w2), .v (.int .i64 p3), .v (.bool w3)]), .cv (.agg [.v (.int .i64 p), .v (.bool u)])] (mkHd (.tup [.agg [.v (.int .i64 p0), .v (.bool w0), .v (.int .i64 p1), .v (.bool w1), .v (.int .i64 p2), .v (.bool w2), .v (.int .i64 p), .v (.bool u)], .one (.v (.int .i64 3)), .one (.v (.int .i64 0))]) []) := by
  refine CallOk.enter Try.func20 (by kernel_rfl) rfl [] [] [.cv (.agg [.v (.int .i64 p0), .v (.bool w0), .v (.int .i64 p1), .v (.bool w1), .v (.int .i64 p2), .v (.bool w2), .v (.int .i64 p3), .v (.bool w3)]), .cv (.agg [.v (.int .i64 p), .v (.bool u)])] rfl rows0 (fun r h => by cases h) rfl rfl ?_
  intro w blk hblk
  refine SG.walk tab_ok mx 400 [] [] ?_
  conv => whnf
  try dsimp only [rowL, rowN, growOk, hiN, fromL, tightN, maxOk]
  try simp (disch := omega) only [wI, wU64, wU32, wU8, Int.toNat_natCast, toNat_succ, toNat_pred, Int.reduceToNat, Option.getD_some, Option.getD_none, Nat.sub_zero, Nat.zero_add]
  refine ⟨?_, ?_⟩
  · trivial
  refine SG.good (fun _ _ => .loop) ?_
  refine SG.walk tab_ok mx 400 [true, false] [] ?_
  conv => whnf
  try dsimp only [rowL, rowN, growOk, hiN, fromL, tightN, maxOk]
  try simp (disch := omega) only [wI, wU64, wU32, wU8, Int.toNat_natCast, toNat_succ, toNat_pred, Int.reduceToNat, Option.getD_some, Option.getD_none, Nat.sub_zero, Nat.zero_add]
  refine ⟨?_, ?_⟩
  · repeat' apply And.intro
    all_goals first
      | exact beq_eq_false_iff_ne.2 h0
      | trivial
      | rfl
      | omega
      | ((try dsimp only [rowL, rowN]); simp only [beq_iff_eq, beq_eq_false_iff_ne, bne_iff_ne, bne_eq_false_iff_eq, decide_eq_true_eq, decide_eq_false_iff_not, ne_eq, Bool.not_eq_true', Bool.not_eq_false', Bool.not_eq_eq_eq_not, Bool.not_true, Bool.not_false, Option.some.injEq, Option.getD_some, Option.getD_none]; omega)
      | (simp; done)
      | (simp; omega)
  refine SG.good (fun _ _ => .inLoop) ?_
  refine SG.walk tab_ok mx 400 [true, false] [] ?_
  conv => whnf
  try dsimp only [rowL, rowN, growOk, hiN, fromL, tightN, maxOk]
  try simp (disch := omega) only [wI, wU64, wU32, wU8, Int.toNat_natCast, toNat_succ, toNat_pred, Int.reduceToNat, Option.getD_some, Option.getD_none, Nat.sub_zero, Nat.zero_add]
  refine ⟨?_, ?_⟩
  · repeat' apply And.intro
    all_goals first
      | exact beq_eq_false_iff_ne.2 h1
      | trivial
      | rfl
      | omega
      | ((try dsimp only [rowL, rowN]); simp only [beq_iff_eq, beq_eq_false_iff_ne, bne_iff_ne, bne_eq_false_iff_eq, decide_eq_true_eq, decide_eq_false_iff_not, ne_eq, Bool.not_eq_true', Bool.not_eq_false', Bool.not_eq_eq_eq_not, Bool.not_true, Bool.not_false, Option.some.injEq, Option.getD_some, Option.getD_none]; omega)
      | (simp; done)
      | (simp; omega)
  refine SG.good (fun _ _ => .inLoop) ?_
  refine SG.walk tab_ok mx 400 [true, false] [] ?_
  conv => whnf
  try dsimp only [rowL, rowN, growOk, hiN, fromL, tightN, maxOk]
  try simp (disch := omega) only [wI, wU64, wU32, wU8, Int.toNat_natCast, toNat_succ, toNat_pred, Int.reduceToNat, Option.getD_some, Option.getD_none, Nat.sub_zero, Nat.zero_add]
  refine ⟨?_, ?_⟩
  · repeat' apply And.intro
    all_goals first
      | exact beq_eq_false_iff_ne.2 h2
      | trivial
      | rfl
      | omega
      | ((try dsimp only [rowL, rowN]); simp only [beq_iff_eq, beq_eq_false_iff_ne, bne_iff_ne, bne_eq_false_iff_eq, decide_eq_true_eq, decide_eq_false_iff_not, ne_eq, Bool.not_eq_true', Bool.not_eq_false', Bool.not_eq_eq_eq_not, Bool.not_true, Bool.not_false, Option.some.injEq, Option.getD_some, Option.getD_none]; omega)
      | (simp; done)
      | (simp; omega)
  refine SG.good (fun _ _ => .inLoop) ?_
  refine SG.walk tab_ok mx 400 [true, true] [] ?_
  conv => whnf
  try dsimp only [rowL, rowN, growOk, hiN, fromL, tightN, maxOk]
  try simp (disch := omega) only [wI, wU64, wU32, wU8, Int.toNat_natCast, toNat_succ, toNat_pred, Int.reduceToNat, Option.getD_some, Option.getD_none, Nat.sub_zero, Nat.zero_add]
  refine ⟨?_, ?_⟩
  · repeat' apply And.intro
    all_goals first
      | exact beq_iff_eq.2 h3
      | trivial
      | rfl
      | omega
      | ((try dsimp only [rowL, rowN]); simp only [beq_iff_eq, beq_eq_false_iff_ne, bne_iff_ne, bne_eq_false_iff_eq, decide_eq_true_eq, decide_eq_false_iff_not, ne_eq, Bool.not_eq_true', Bool.not_eq_false', Bool.not_eq_eq_eq_not, Bool.not_true, Bool.not_false, Option.some.injEq, Option.getD_some, Option.getD_none]; omega)
      | (simp; done)
      | (simp; omega)
  refine SG.ret tab_ok Try.func20 rfl ?_
  intro ρ w' v hm hv
  exact Post.mk hm (.tup [.agg [.v (.int .i64 p0), .v (.bool w0), .v (.int .i64 p1), .v (.bool w1), .v (.int .i64 p2), .v (.bool w2), .v (.int .i64 p), .v (.bool u)], .one (.v (.int .i64 3)), .one (.v (.int .i64 0))]) [] none [] hv rfl rows0 rfl (by simp)
set_option maxRecDepth 100000 in
theorem rset4 (h0 : p0 ≠ 0) (h1 : p1 ≠ 0) (h2 : p2 ≠ 0) (h3 : p3 ≠ 0) : CallOk Try.prog W B Rs 20 [.cv (.agg [.v (.int .i64 p0), .v (.bool w0), .v (.int .i64 p1), .v (.bool w1), .v (.int .i64 p2), .v (.bool w2), .v (.int .i64 p3), .v (.bool w3)]), .cv (.agg [.v (.int .i64 p), .v (.bool u)])] (mkHd (.tup [.agg [.v (.int .i64 p0), .v (.bool w0), .v (.int .i64 p1), .v (.bool w1), .v (.int .i64 p2), .v (.bool w2), .v (.int .i64 p3), .v (.bool w3)], .one (.v (.int .i64 0)), .one (.v (.int .i64 5))]) []) := by
  refine CallOk.enter Try.func20 (by kernel_rfl) rfl [] [] [.cv (.agg [.v (.int .i64 p0), .v (.bool w0), .v (.int .i64 p1), .v (.bool w1), .v (.int .i64 p2), .v (.bool w2), .v (.int .i64 p3), .v (.bool w3)]), .cv (.agg [.v (.int .i64 p), .v (.bool u)])] rfl rows0 (fun r h => by cases h) rfl rfl ?_
  intro w blk hblk
  refine SG.walk tab_ok mx 400 [] [] ?_
  conv => whnf
  try dsimp only [rowL, rowN, growOk, hiN, fromL, tightN, maxOk]
  try simp (disch := omega) only [wI, wU64, wU32, wU8, Int.toNat_natCast, toNat_succ, toNat_pred, Int.reduceToNat, Option.getD_some, Option.getD_none, Nat.sub_zero, Nat.zero_add]
  refine ⟨?_, ?_⟩
  · trivial
  refine SG.good (fun _ _ => .loop) ?_
  refine SG.walk tab_ok mx 400 [true, false] [] ?_
  conv => whnf
  try dsimp only [rowL, rowN, growOk, hiN, fromL, tightN, maxOk]
  try simp (disch := omega) only [wI, wU64, wU32, wU8, Int.toNat_natCast, toNat_succ, toNat_pred, Int.reduceToNat, Option.getD_some, Option.getD_none, Nat.sub_zero, Nat.zero_add]
  refine ⟨?_, ?_⟩
  · repeat' apply And.intro
    all_goals first
      | exact beq_eq_false_iff_ne.2 h0
      | trivial
      | rfl
      | omega
      | ((try dsimp only [rowL, rowN]); simp only [beq_iff_eq, beq_eq_false_iff_ne, bne_iff_ne, bne_eq_false_iff_eq, decide_eq_true_eq, decide_eq_false_iff_not, ne_eq, Bool.not_eq_true', Bool.not_eq_false', Bool.not_eq_eq_eq_not, Bool.not_true, Bool.not_false, Option.some.injEq, Option.getD_some, Option.getD_none]; omega)
      | (simp; done)
      | (simp; omega)
  refine SG.good (fun _ _ => .inLoop) ?_
  refine SG.walk tab_ok mx 400 [true, false] [] ?_
  conv => whnf
  try dsimp only [rowL, rowN, growOk, hiN, fromL, tightN, maxOk]
  try simp (disch := omega) only [wI, wU64, wU32, wU8, Int.toNat_natCast, toNat_succ, toNat_pred, Int.reduceToNat, Option.getD_some, Option.getD_none, Nat.sub_zero, Nat.zero_add]
  refine ⟨?_, ?_⟩
  · repeat' apply And.intro
    all_goals first
      | exact beq_eq_false_iff_ne.2 h1
      | trivial
      | rfl
      | omega
      | ((try dsimp only [rowL, rowN]); simp only [beq_iff_eq, beq_eq_false_iff_ne, bne_iff_ne, bne_eq_false_iff_eq, decide_eq_true_eq, decide_eq_false_iff_not, ne_eq, Bool.not_eq_true', Bool.not_eq_false', Bool.not_eq_eq_eq_not, Bool.not_true, Bool.not_false, Option.some.injEq, Option.getD_some, Option.getD_none]; omega)
      | (simp; done)
      | (simp; omega)
  refine SG.good (fun _ _ => .inLoop) ?_
  refine SG.walk tab_ok mx 400 [true, false] [] ?_
  conv => whnf
  try dsimp only [rowL, rowN, growOk, hiN, fromL, tightN, maxOk]
  try simp (disch := omega) only [wI, wU64, wU32, wU8, Int.toNat_natCast, toNat_succ, toNat_pred, Int.reduceToNat, Option.getD_some, Option.getD_none, Nat.sub_zero, Nat.zero_add]
  refine ⟨?_, ?_⟩
  · repeat' apply And.intro
    all_goals first
      | exact beq_eq_false_iff_ne.2 h2
      | trivial
      | rfl
      | omega
      | ((try dsimp only [rowL, rowN]); simp only [beq_iff_eq, beq_eq_false_iff_ne, bne_iff_ne, bne_eq_false_iff_eq, decide_eq_true_eq, decide_eq_false_iff_not, ne_eq, Bool.not_eq_true', Bool.not_eq_false', Bool.not_eq_eq_eq_not, Bool.not_true, Bool.not_false, Option.some.injEq, Option.getD_some, Option.getD_none]; omega)
      | (simp; done)
      | (simp; omega)
  refine SG.good (fun _ _ => .inLoop) ?_
  refine SG.walk tab_ok mx 400 [true, false] [] ?_
  conv => whnf
  try dsimp only [rowL, rowN, growOk, hiN, fromL, tightN, maxOk]
  try simp (disch := omega) only [wI, wU64, wU32, wU8, Int.toNat_natCast, toNat_succ, toNat_pred, Int.reduceToNat, Option.getD_some, Option.getD_none, Nat.sub_zero, Nat.zero_add]
  refine ⟨?_, ?_⟩
  · repeat' apply And.intro
    all_goals first
      | exact beq_eq_false_iff_ne.2 h3
      | trivial
      | rfl
      | omega
      | ((try dsimp only [rowL, rowN]); simp only [beq_iff_eq, beq_eq_false_iff_ne, bne_iff_ne, bne_eq_false_iff_eq, decide_eq_true_eq, decide_eq_false_iff_not, ne_eq, Bool.not_eq_true', Bool.not_eq_false', Bool.not_eq_eq_eq_not, Bool.not_true, Bool.not_false, Option.some.injEq, Option.getD_some, Option.getD_none]; omega)
      | (simp; done)
      | (simp; omega)
  refine SG.good (fun _ _ => .inLoop) ?_
  refine SG.walk tab_ok mx 400 [false] [] ?_
  conv => whnf
  try dsimp only [rowL, rowN, growOk, hiN, fromL, tightN, maxOk]
  try simp (disch := omega) only [wI, wU64, wU32, wU8, Int.toNat_natCast, toNat_succ, toNat_pred, Int.reduceToNat, Option.getD_some, Option.getD_none, Nat.sub_zero, Nat.zero_add]
  refine ⟨?_, ?_⟩
  · repeat' apply And.intro
    all_goals first
      | trivial
      | rfl
      | omega
      | ((try dsimp only [rowL, rowN]); simp only [beq_iff_eq, beq_eq_false_iff_ne, bne_iff_ne, bne_eq_false_iff_eq, decide_eq_true_eq, decide_eq_false_iff_not, ne_eq, Bool.not_eq_true', Bool.not_eq_false', Bool.not_eq_eq_eq_not, Bool.not_true, Bool.not_false, Option.some.injEq, Option.getD_some, Option.getD_none]; omega)
      | (simp; done)
      | (simp; omega)
  refine SG.ret tab_ok Try.func20 rfl ?_
  intro ρ w' v hm hv
  exact Post.mk hm (.tup [.agg [.v (.int .i64 p0), .v (.bool w0), .v (.int .i64 p1), .v (.bool w1), .v (.int .i64 p2), .v (.bool w2), .v (.int .i64 p3), .v (.bool w3)], .one (.v (.int .i64 0)), .one (.v (.int .i64 5))]) [] none [] hv rfl rows0 rfl (by simp)
end
theorem set_ex (p0 p1 p2 p3 p : Int) (w0 w1 w2 w3 u : Bool) : ∃ (q0 q1 q2 q3 n e : Int) (x0 x1 x2 x3 : Bool), (∀ {W : Base} {B : List (Option (List At))} {Rs : List (Option Row)}, CallOk Try.prog W B Rs 19 [.cv (.agg [.v (.int .i64 p0), .v (.bool w0), .v (.int .i64 p1), .v (.bool w1), .v (.int .i64 p2), .v (.bool w2), .v (.int .i64 p3), .v (.bool w3)]), .cv (.agg [.v (.int .i64 p), .v (.bool u)])] (mkHd (.tup [.agg [.v (.int .i64 q0), .v (.bool x0), .v (.int .i64 q1), .v (.bool x1), .v (.int .i64 q2), .v (.bool x2), .v (.int .i64 q3), .v (.bool x3)], .one (.v (.int .i64 n)), .one (.v (.int .i64 e))]) [])) ∧ (∀ {W : Base} {B : List (Option (List At))} {Rs : List (Option Row)}, CallOk Try.prog W B Rs 20 [.cv (.agg [.v (.int .i64 p0), .v (.bool w0), .v (.int .i64 p1), .v (.bool w1), .v (.int .i64 p2), .v (.bool w2), .v (.int .i64 p3), .v (.bool w3)]), .cv (.agg [.v (.int .i64 p), .v (.bool u)])] (mkHd (.tup [.agg [.v (.int .i64 q0), .v (.bool x0), .v (.int .i64 q1), .v (.bool x1), .v (.int .i64 q2), .v (.bool x2), .v (.int .i64 q3), .v (.bool x3)], .one (.v (.int .i64 n)), .one (.v (.int .i64 e))]) [])) ∧ (e = 0 ∨ e = 5) ∧ 0 ≤ n ∧ n ≤ 3 := by
  by_cases h0 : p0 = 0
  · exact ⟨_, _, _, _, _, _, _, _, _, _, fun {W B Rs} => set0 h0, fun {W B Rs} => rset0 h0, by decide, by decide, by decide⟩
  by_cases h1 : p1 = 0
  · exact ⟨_, _, _, _, _, _, _, _, _, _, fun {W B Rs} => set1 h0 h1, fun {W B Rs} => rset1 h0 h1, by decide, by decide, by decide⟩
  by_cases h2 : p2 = 0
  · exact ⟨_, _, _, _, _, _, _, _, _, _, fun {W B Rs} => set2 h0 h1 h2, fun {W B Rs} => rset2 h0 h1 h2, by decide, by decide, by decide⟩
  by_cases h3 : p3 = 0
  · exact ⟨_, _, _, _, _, _, _, _, _, _, fun {W B Rs} => set3 h0 h1 h2 h3, fun {W B Rs} => rset3 h0 h1 h2 h3, by decide, by decide, by decide⟩
  · exact ⟨_, _, _, _, _, _, _, _, _, _, fun {W B Rs} => set4 h0 h1 h2 h3, fun {W B Rs} => rset4 h0 h1 h2 h3, by decide, by decide, by decide⟩
end Go.Proofs.Ytlhjlomfpgmdmaa
