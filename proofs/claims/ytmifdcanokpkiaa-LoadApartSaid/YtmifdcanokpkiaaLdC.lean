/- What is shown. -/
import Derived.Test.YtmifdcanokpkiaaLdB
namespace Go.Proofs.Ytmifdcanokpkiaa
open Go.Sx Go.RowKit
set_option linter.unusedVariables false
set_option linter.unusedSimpArgs false
section
variable {W : Base} {B : List (Option (List At))} {Rs : List (Option Row)}
set_option maxRecDepth 100000 in
theorem shownC : CallOk Try.prog W B Rs 4 [] (hdV true) := by
  refine CallOk.enter Try.func4 (by kernel_rfl) rfl [] [] [] rfl (fun _ _ _ h => by simp at h) (fun r h => by cases h) rfl rfl ?_
  intro w blk hblk
  refine SG.walk tab_ok mx 400 [] [] ?_
  conv => whnf
  try dsimp only [rowL, rowN, growOk, hiN, fromL, tightN, maxOk]
  refine ⟨?_, ?_⟩
  · repeat' apply And.intro
    all_goals first
      | trivial
      | rfl
      | omega
      | ((try dsimp only [rowL, rowN]); simp only [beq_iff_eq, beq_eq_false_iff_ne, bne_iff_ne, bne_eq_false_iff_eq, decide_eq_true_eq, decide_eq_false_iff_not, ne_eq, Bool.not_eq_true', Bool.not_eq_false', Bool.not_eq_eq_eq_not, Bool.not_true, Bool.not_false, Option.some.injEq, Option.getD_some, Option.getD_none]; omega)
      | (simp; done)
      | (simp; omega)
  refine SG.inline rfl rfl rfl Try.func5 (by kernel_rfl) rfl ?_
  intro Wi Ri hbi
  refine SG.norm ?_
  conv => whnf
  refine SG.walk tab_ok mx 400 [false] [] ?_
  conv => whnf
  try dsimp only [rowL, rowN, growOk, hiN, fromL, tightN, maxOk]
  refine ⟨?_, ?_⟩
  · repeat' apply And.intro
    all_goals first
      | trivial
      | rfl
      | omega
      | ((try dsimp only [rowL, rowN]); simp only [beq_iff_eq, beq_eq_false_iff_ne, bne_iff_ne, bne_eq_false_iff_eq, decide_eq_true_eq, decide_eq_false_iff_not, ne_eq, Bool.not_eq_true', Bool.not_eq_false', Bool.not_eq_eq_eq_not, Bool.not_true, Bool.not_false, Option.some.injEq, Option.getD_some, Option.getD_none]; omega)
      | (simp; done)
      | (simp; omega)
  refine SG.good (fun _ _ => .loop) ?_
  refine SG.walk tab_ok mx 400 [true, false] [] ?_
  conv => whnf
  try dsimp only [rowL, rowN, growOk, hiN, fromL, tightN, maxOk]
  refine ⟨?_, ?_⟩
  · repeat' apply And.intro
    all_goals first
      | trivial
      | rfl
      | omega
      | ((try dsimp only [rowL, rowN]); simp only [beq_iff_eq, beq_eq_false_iff_ne, bne_iff_ne, bne_eq_false_iff_eq, decide_eq_true_eq, decide_eq_false_iff_not, ne_eq, Bool.not_eq_true', Bool.not_eq_false', Bool.not_eq_eq_eq_not, Bool.not_true, Bool.not_false, Option.some.injEq, Option.getD_some, Option.getD_none]; omega)
      | (simp; done)
      | (simp; omega)
  refine SG.good (fun _ _ => .loop) ?_
  refine SG.walk tab_ok mx 400 [true, false] [] ?_
  conv => whnf
  try dsimp only [rowL, rowN, growOk, hiN, fromL, tightN, maxOk]
  refine ⟨?_, ?_⟩
  · repeat' apply And.intro
    all_goals first
      | trivial
      | rfl
      | omega
      | ((try dsimp only [rowL, rowN]); simp only [beq_iff_eq, beq_eq_false_iff_ne, bne_iff_ne, bne_eq_false_iff_eq, decide_eq_true_eq, decide_eq_false_iff_not, ne_eq, Bool.not_eq_true', Bool.not_eq_false', Bool.not_eq_eq_eq_not, Bool.not_true, Bool.not_false, Option.some.injEq, Option.getD_some, Option.getD_none]; omega)
      | (simp; done)
      | (simp; omega)
  refine SG.appStr tab_ok (str := ⟨#[97, 98]⟩) rfl rfl rfl rfl rfl rfl rfl rfl rfl rfl rfl rfl rfl rfl rfl rfl ?_ ?_ ?_
  · exact Nat.succ_pos _
  · decide
  refine SG.norm ?_
  conv => whnf
  refine SG.walk tab_ok mx 400 [] [] ?_
  conv => whnf
  try dsimp only [rowL, rowN, growOk, hiN, fromL, tightN, maxOk]
  refine ⟨?_, ?_⟩
  · repeat' apply And.intro
    all_goals first
      | trivial
      | rfl
      | omega
      | ((try dsimp only [rowL, rowN]); simp only [beq_iff_eq, beq_eq_false_iff_ne, bne_iff_ne, bne_eq_false_iff_eq, decide_eq_true_eq, decide_eq_false_iff_not, ne_eq, Bool.not_eq_true', Bool.not_eq_false', Bool.not_eq_eq_eq_not, Bool.not_true, Bool.not_false, Option.some.injEq, Option.getD_some, Option.getD_none]; omega)
      | (simp; done)
      | (simp; omega)
  refine SG.good (fun _ _ => .inLoop) ?_
  refine SG.walk tab_ok mx 400 [false] [] ?_
  conv => whnf
  try dsimp only [rowL, rowN, growOk, hiN, fromL, tightN, maxOk]
  refine ⟨?_, ?_⟩
  · repeat' apply And.intro
    all_goals first
      | trivial
      | rfl
      | omega
      | ((try dsimp only [rowL, rowN]); simp only [beq_iff_eq, beq_eq_false_iff_ne, bne_iff_ne, bne_eq_false_iff_eq, decide_eq_true_eq, decide_eq_false_iff_not, ne_eq, Bool.not_eq_true', Bool.not_eq_false', Bool.not_eq_eq_eq_not, Bool.not_true, Bool.not_false, Option.some.injEq, Option.getD_some, Option.getD_none]; omega)
      | (simp; done)
      | (simp; omega)
  refine SG.good (fun _ _ => .inLoop) ?_
  refine SG.walk tab_ok mx 400 [false] [] ?_
  conv => whnf
  try dsimp only [rowL, rowN, growOk, hiN, fromL, tightN, maxOk]
  refine ⟨?_, ?_⟩
  · repeat' apply And.intro
    all_goals first
      | trivial
      | rfl
      | omega
      | ((try dsimp only [rowL, rowN]); simp only [beq_iff_eq, beq_eq_false_iff_ne, bne_iff_ne, bne_eq_false_iff_eq, decide_eq_true_eq, decide_eq_false_iff_not, ne_eq, Bool.not_eq_true', Bool.not_eq_false', Bool.not_eq_eq_eq_not, Bool.not_true, Bool.not_false, Option.some.injEq, Option.getD_some, Option.getD_none]; omega)
      | (simp; done)
      | (simp; omega)
  refine SG.convBytes tab_ok [1, 1, 2, 97, 98] (r := 7) rfl rfl rfl rfl rfl rfl rfl rfl rfl rfl rfl rfl rfl (fun j hj => ?_) ?_
  · have hj5 : j < 5 := hj
    have hjc : j = 0 ∨ j = 1 ∨ j = 2 ∨ j = 3 ∨ j = 4 := by omega
    rcases hjc with rfl | rfl | rfl | rfl | rfl <;> rfl
  refine SG.norm ?_
  conv => whnf
  refine SG.walk tab_ok mx 400 [] [] ?_
  conv => whnf
  try dsimp only [rowL, rowN, growOk, hiN, fromL, tightN, maxOk]
  refine ⟨?_, ?_⟩
  · repeat' apply And.intro
    all_goals first
      | trivial
      | rfl
      | omega
      | ((try dsimp only [rowL, rowN]); simp only [beq_iff_eq, beq_eq_false_iff_ne, bne_iff_ne, bne_eq_false_iff_eq, decide_eq_true_eq, decide_eq_false_iff_not, ne_eq, Bool.not_eq_true', Bool.not_eq_false', Bool.not_eq_eq_eq_not, Bool.not_true, Bool.not_false, Option.some.injEq, Option.getD_some, Option.getD_none]; omega)
      | (simp; done)
      | (simp; omega)
  refine SG.back hbi tab_ok Try.func5 rfl (Nat.le_of_ble_eq_true rfl) ?_
  refine SG.norm ?_
  conv => whnf
  refine SG.walk tab_ok mx 400 [true, true] [] ?_
  conv => whnf
  try dsimp only [rowL, rowN, growOk, hiN, fromL, tightN, maxOk]
  refine ⟨?_, ?_⟩
  · repeat' apply And.intro
    all_goals first
      | exact (beq_self_eq_true _)
      | trivial
      | rfl
      | omega
      | ((try dsimp only [rowL, rowN]); simp only [beq_iff_eq, beq_eq_false_iff_ne, bne_iff_ne, bne_eq_false_iff_eq, decide_eq_true_eq, decide_eq_false_iff_not, ne_eq, Bool.not_eq_true', Bool.not_eq_false', Bool.not_eq_eq_eq_not, Bool.not_true, Bool.not_false, Option.some.injEq, Option.getD_some, Option.getD_none]; omega)
      | (simp; done)
      | (simp; omega)
  refine SG.ret tab_ok Try.func4 rfl ?_
  intro ρ w' v hm hv
  exact Post.mk hm (.cv (.one (.v (.bool true)))) [] none [] hv rfl rows0 rfl (by simp)
end
end Go.Proofs.Ytmifdcanokpkiaa
