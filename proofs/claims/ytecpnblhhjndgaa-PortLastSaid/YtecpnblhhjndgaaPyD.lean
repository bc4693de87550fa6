/- Channels and boxes: the example. -/
import Derived.Test.YtecpnblhhjndgaaPyB
import Derived.Test.YtecpnblhhjndgaaSxR
namespace Go.Proofs.Ytecpnblhhjndgaa
open Go.Sx Go.RowKit
set_option linter.unusedVariables false
set_option linter.unusedSimpArgs false
section
variable {W : Base} {B : List (Option (List At))} {Rs : List (Option Row)}
set_option maxRecDepth 100000 in
theorem shownP : CallOk Try.prog W B Rs 10 [] (hdB true) := by
  refine CallOk.enter Try.func10 (by kernel_rfl) rfl [] [] [] rfl rows0 (fun r h => by cases h) rfl rfl ?_
  intro w blk hblk
  refine SG.walk tab_ok mx 400 [] [] ?_
  conv => whnf
  try dsimp only [rowL, rowN, growOk, hiN, fromL, tightN, maxOk]
  try simp (disch := omega) only [wI, wU64, wU32, wU8, Int.toNat_natCast, toNat_succ, toNat_pred, Int.reduceToNat, Option.getD_some, Option.getD_none, Nat.sub_zero, Nat.zero_add]
  refine ⟨?_, ?_⟩
  · trivial
  refine SG.nilSlotAt 19 0 37 2 rfl rfl ?_
  refine SG.norm ?_
  conv => whnf
  refine SG.walk tab_ok mx 400 [] [mkHd (sentV 0 0) [newM [(1, ⟨#[97]⟩)]], mkHd (sentV 1 0) [newM [(1, ⟨#[97]⟩)]], mkHd (tookV 1 0 (1, ⟨#[97]⟩)) [newM []]] ?_
  conv => whnf
  try dsimp only [rowL, rowN, growOk, hiN, fromL, tightN, maxOk]
  try simp (disch := omega) only [wI, wU64, wU32, wU8, Int.toNat_natCast, toNat_succ, toNat_pred, Int.reduceToNat, Option.getD_some, Option.getD_none, Nat.sub_zero, Nat.zero_add]
  refine ⟨?_, ?_⟩
  · repeat' apply And.intro
    all_goals first
      | exact sendRoom (r := 0) (L := []) rfl (.of rfl rfl (fun i hi => absurd hi (Nat.not_lt_zero i))) (by simp) (by decide) (by decide) (by decide)
      | exact sendFull (r := 1) (L := [(1, ⟨#[97]⟩)]) (l := 0) rfl (.of rfl rfl (fun _ _ => rfl)) (by simp) (by decide) (by decide) (by decide)
      | exact takeSome (r := 2) (x := (1, ⟨#[97]⟩)) (L := []) rfl (.of rfl rfl (fun _ _ => rfl)) (by simp) (by decide)
      | trivial
      | rfl
      | omega
      | ((try dsimp only [rowL, rowN]); simp only [beq_iff_eq, beq_eq_false_iff_ne, bne_iff_ne, bne_eq_false_iff_eq, decide_eq_true_eq, decide_eq_false_iff_not, ne_eq, Bool.not_eq_true', Bool.not_eq_false', Bool.not_eq_eq_eq_not, Bool.not_true, Bool.not_false, Option.some.injEq, Option.getD_some, Option.getD_none]; omega)
      | (simp; done)
      | (simp; omega)
  refine SG.nilSlotAt 38 0 37 2 rfl rfl ?_
  refine SG.norm ?_
  conv => whnf
  refine SG.walk tab_ok mx 400 [true, true, true, true, true, true, true, true, true, true] [mkHd (sentV 0 0) [newM [(1, ⟨#[97]⟩)]], mkHd (sentV 0 0) [newM [(2, ⟨#[98]⟩)]], mkHd (tookV 0 0 (2, ⟨#[98]⟩)) [newM [(2, ⟨#[98]⟩)]], mkHd (tookV 0 0 (2, ⟨#[98]⟩)) [newM [(2, ⟨#[98]⟩)]], mkHd (intV 0) []] ?_
  conv => whnf
  try dsimp only [rowL, rowN, growOk, hiN, fromL, tightN, maxOk]
  try simp (disch := omega) only [wI, wU64, wU32, wU8, Int.toNat_natCast, toNat_succ, toNat_pred, Int.reduceToNat, Option.getD_some, Option.getD_none, Nat.sub_zero, Nat.zero_add]
  refine ⟨?_, ?_⟩
  · repeat' apply And.intro
    all_goals first
      | exact sendSample (r := 4) (L := []) rfl (.of rfl rfl (fun i hi => absurd hi (Nat.not_lt_zero i))) (by simp) (by decide)
      | exact sendSample (r := 5) (L := [(1, ⟨#[97]⟩)]) rfl (.of rfl rfl (fun _ _ => rfl)) (by simp) (by decide)
      | exact takeSample (r := 6) (L := [(2, ⟨#[98]⟩)]) rfl (.of rfl rfl (fun _ _ => rfl)) (by simp) (by simp)
      | exact takeSample (r := 7) (L := [(2, ⟨#[98]⟩)]) rfl (.of rfl rfl (fun _ _ => rfl)) (by simp) (by simp)
      | exact waitsB (r := 3) (L := []) rfl (.of rfl rfl (fun _ _ => rfl))
      | exact decide
      | trivial
      | rfl
      | omega
      | ((try dsimp only [rowL, rowN]); simp only [beq_iff_eq, beq_eq_false_iff_ne, bne_iff_ne, bne_eq_false_iff_eq, decide_eq_true_eq, decide_eq_false_iff_not, ne_eq, Bool.not_eq_true', Bool.not_eq_false', Bool.not_eq_eq_eq_not, Bool.not_true, Bool.not_false, Option.some.injEq, Option.getD_some, Option.getD_none]; omega)
      | (simp; done)
      | (simp; omega)
  refine SG.ret tab_ok Try.func10 rfl ?_
  intro ρ w' v hm hv
  exact Post.mk hm (.cv (.one (.lb true))) [] none [] hv rfl rows0 rfl (by simp)
end
end Go.Proofs.Ytecpnblhhjndgaa
