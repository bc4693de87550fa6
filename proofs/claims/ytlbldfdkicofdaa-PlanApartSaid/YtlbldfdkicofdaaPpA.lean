/- Plans: the laws. -/
import Derived.Test.YtlbldfdkicofdaaPlP
namespace Go.Proofs.Ytlbldfdkicofdaa
open Go.Sx Go.RowKit
set_option linter.unusedVariables false
set_option linter.unusedSimpArgs false
section
variable {W : Base} {B : List (Option (List At))} {Rs : List (Option Row)}
set_option maxHeartbeats 4000000 in
set_option maxRecDepth 100000 in
theorem shownC : CallOk Try.prog W B Rs 7 [] (hdB true) := by
  refine hdB_of ?_ (b := true) rfl
  refine CallOk.enter Try.func7 (by kernel_rfl) rfl [] [] [] rfl rows0 (fun r h => by cases h) rfl rfl ?_
  intro w blk hblk
  refine SG.walk tab_ok mx 15 [] [] ?_
  conv => whnf
  try dsimp only [rowL, rowN, growOk, hiN, fromL, tightN, maxOk]
  try simp (disch := omega) only [wI, wU64, wU32, wU8, Int.toNat_natCast, toNat_succ, toNat_pred, Int.reduceToNat, Option.getD_some, Option.getD_none, Nat.sub_zero, Nat.zero_add]
  refine ⟨?_, ?_⟩
  · trivial
  refine SG.nilBoxAt 0 3 38 5 rfl rfl ?_
  refine SG.norm ?_
  conv => whnf
  refine SG.walk tab_ok mx 400 [true, true] [hdInt 0, hdInt 9] ?_
  conv => whnf
  try dsimp only [rowL, rowN, growOk, hiN, fromL, tightN, maxOk]
  refine ⟨?_, ?_⟩
  · have o : ∀ w ∈ ([⟨0, 0, 10⟩, ⟨0, 0, 6⟩, ⟨0, 5, 5⟩] : List Wn), okWn w := fun w hw => by
      simp at hw
      unfold okWn
      rcases hw with rfl | rfl | rfl <;> dsimp only <;> omega
    have o1 : ∀ w ∈ ([⟨0, 0, 10⟩] : List Wn), okWn w := fun w hw => o w (by simp at hw; subst hw; simp)
    have o2 : ∀ w ∈ ([⟨0, 0, 6⟩, ⟨0, 5, 5⟩] : List Wn), okWn w := fun w hw => o w (by simp at hw; rcases hw with rfl | rfl <;> simp)
    repeat' apply And.intro
    all_goals first
      | exact exCheck (a := 0) (k := 1) (b := 2) (c := 3) (P := [⟨64, 1, 2, 3⟩]) (L := [⟨0, 0, 10⟩]) ⟨⟨_, rfl, ⟨rfl, rfl, .inl rfl, (fun h => by cases h), (fun h => by cases h), fun i hi => by match i, hi with | 0, _ => rfl⟩⟩, ⟨_, rfl, ⟨rfl, rfl, .inl rfl, (fun h => by cases h), (fun h => by cases h), fun i hi => by match i, hi with | 0, _ => rfl⟩⟩, ⟨_, rfl, ⟨rfl, rfl, .inl rfl, (fun h => by cases h), (fun h => by cases h), fun i hi => by match i, hi with | 0, _ => rfl⟩⟩, ⟨_, rfl, ⟨rfl, rfl, .inl rfl, (fun h => by cases h), (fun h => by cases h), fun i hi => absurd hi (Nat.not_lt_zero i)⟩⟩⟩ o1 (fun _ => rfl)
      | exact exCheck (a := 0) (k := 4) (b := 5) (c := 3) (P := [⟨64, 1, 2, 3⟩]) (L := [⟨0, 0, 6⟩, ⟨0, 5, 5⟩]) ⟨⟨_, rfl, ⟨rfl, rfl, .inl rfl, (fun h => by cases h), (fun h => by cases h), fun i hi => by match i, hi with | 0, _ => rfl⟩⟩, ⟨_, rfl, ⟨rfl, rfl, .inl rfl, (fun h => by cases h), (fun h => by cases h), fun i hi => by match i, hi with | 0, _ => rfl | 1, _ => rfl⟩⟩, ⟨_, rfl, ⟨rfl, rfl, .inl rfl, (fun h => by cases h), (fun h => by cases h), fun i hi => by match i, hi with | 0, _ => rfl⟩⟩, ⟨_, rfl, ⟨rfl, rfl, .inl rfl, (fun h => by cases h), (fun h => by cases h), fun i hi => absurd hi (Nat.not_lt_zero i)⟩⟩⟩ o2 (fun _ => rfl)
      | trivial
      | rfl
      | omega
      | ((try dsimp only [rowL, rowN]); simp only [beq_iff_eq, beq_eq_false_iff_ne, bne_iff_ne, bne_eq_false_iff_eq, decide_eq_true_eq, decide_eq_false_iff_not, ne_eq, Bool.not_eq_true', Bool.not_eq_false', Bool.not_eq_eq_eq_not, Bool.not_true, Bool.not_false, Option.some.injEq, Option.getD_some, Option.getD_none]; omega)
      | (simp; done)
      | (simp; omega)
  refine SG.ret tab_ok Try.func7 rfl ?_
  intro ρ w' v hm hv
  exact Post.mk hm (.cv (.one (.v (.bool true)))) [] none [] hv rfl rows0 rfl (by simp)
end
end Go.Proofs.Ytlbldfdkicofdaa
