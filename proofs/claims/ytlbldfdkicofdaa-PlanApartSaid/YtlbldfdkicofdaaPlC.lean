/- Plans: which may be, as the program says. -/
import Derived.Test.YtlbldfdkicofdaaPlB
namespace Go.Proofs.Ytlbldfdkicofdaa
open Go.Sx Go.RowKit
set_option linter.unusedVariables false
set_option linter.unusedSimpArgs false
section
variable {W : Base} {B : List (Option (List At))} {Rs : List (Option Row)}
theorem containsCh4 {a b r : Nat} {P : List Pa} {S : List RW} {C : List Ch} {F : Int} {q : Nat} {Q : Row} (hq : Rs[q]? = some (some Q)) (hQ : RowLe Q (boxR a F b r)) (h : PlanAt Rs a b r P S C) (hl : C.length ≤ 6) :
    CallOk Try.prog W B Rs 15 [rsV r, .cv (.one (.clo 16 [.rp q 0 4 0]))] (hdV (C.any (badCh P.length))) := by
  refine CallOk.args (containsCh hq hQ h hl) (fun ρ vs h => ?_)
  match vs, h with
  | [v, u], ⟨h1, h2, h3⟩ =>
    refine ⟨h1, ?_, h3⟩
    simp only [SV.rep, Cv.den, At.den, ptDens, rp_zero (a := 4) (b := 0)] at h2 ⊢
    exact h2
end
section
variable {W : Base} {B : List (Option (List At))} {Rs : List (Option Row)}
set_option maxRecDepth 100000 in
theorem tooManyC {a b c : Nat} {P : List Pa} {S : List RW} {C : List Ch} {F : Int} (h : PlanAt Rs a b c P S C) : CallOk Try.prog W B Rs 11 [planV a F b c] (hdV (tooB P S C)) := by
  by_cases h1 : (P.length : Int) > 4
  · rw [show tooB P S C = true from by simp [tooB, h1]]
    refine CallOk.enter Try.func11 (by kernel_rfl) rfl [a, b, c] [rowPa P, rowWs S, rowCh C] [planV 0 F 1 2] rfl h.rows (fun r h => by cases h) rfl rfl ?_
    intro w blk hblk
    refine SG.walk tab_ok mx 400 [true] [] ?_
    conv => whnf
    try dsimp only [rowL, rowN, growOk, hiN, fromL, tightN, maxOk]
    try simp (disch := omega) only [wI, wU64, wU32, wU8, Int.toNat_natCast, toNat_succ, toNat_pred, Int.reduceToNat, Option.getD_some, Option.getD_none, Nat.sub_zero, Nat.zero_add]
    refine ⟨?_, ?_⟩
    · repeat' apply And.intro
      all_goals first
        | trivial
        | rfl
        | omega
        | ((try dsimp only [rowL, rowN]); simp only [beq_iff_eq, beq_eq_false_iff_ne, bne_iff_ne, bne_eq_false_iff_eq, decide_eq_true_eq, decide_eq_false_iff_not, ne_eq, Bool.not_eq_true', Bool.not_eq_false', Bool.not_eq_eq_eq_not, Bool.not_true, Bool.not_false, Option.some.injEq, Option.getD_some, Option.getD_none]; omega)
        | (simp; done)
        | (simp; omega)
    refine SG.ret tab_ok Try.func11 rfl ?_
    intro ρ w' v hm hv
    exact Post.mk hm (.cv (.one (.lb true))) [] none [] hv rfl rows0 rfl (by simp)
  by_cases h2 : (S.length : Int) > 3
  · rw [show tooB P S C = true from by simp [tooB, h2]]
    refine CallOk.enter Try.func11 (by kernel_rfl) rfl [a, b, c] [rowPa P, rowWs S, rowCh C] [planV 0 F 1 2] rfl h.rows (fun r h => by cases h) rfl rfl ?_
    intro w blk hblk
    refine SG.walk tab_ok mx 400 [false, true] [] ?_
    conv => whnf
    try dsimp only [rowL, rowN, growOk, hiN, fromL, tightN, maxOk]
    try simp (disch := omega) only [wI, wU64, wU32, wU8, Int.toNat_natCast, toNat_succ, toNat_pred, Int.reduceToNat, Option.getD_some, Option.getD_none, Nat.sub_zero, Nat.zero_add]
    refine ⟨?_, ?_⟩
    · repeat' apply And.intro
      all_goals first
        | trivial
        | rfl
        | omega
        | ((try dsimp only [rowL, rowN]); simp only [beq_iff_eq, beq_eq_false_iff_ne, bne_iff_ne, bne_eq_false_iff_eq, decide_eq_true_eq, decide_eq_false_iff_not, ne_eq, Bool.not_eq_true', Bool.not_eq_false', Bool.not_eq_eq_eq_not, Bool.not_true, Bool.not_false, Option.some.injEq, Option.getD_some, Option.getD_none]; omega)
        | (simp; done)
        | (simp; omega)
    refine SG.ret tab_ok Try.func11 rfl ?_
    intro ρ w' v hm hv
    exact Post.mk hm (.cv (.one (.lb true))) [] none [] hv rfl rows0 rfl (by simp)
  by_cases h3 : (C.length : Int) > 6
  · rw [show tooB P S C = true from by simp [tooB, h3]]
    refine CallOk.enter Try.func11 (by kernel_rfl) rfl [a, b, c] [rowPa P, rowWs S, rowCh C] [planV 0 F 1 2] rfl h.rows (fun r h => by cases h) rfl rfl ?_
    intro w blk hblk
    refine SG.walk tab_ok mx 400 [false, false, true] [] ?_
    conv => whnf
    try dsimp only [rowL, rowN, growOk, hiN, fromL, tightN, maxOk]
    try simp (disch := omega) only [wI, wU64, wU32, wU8, Int.toNat_natCast, toNat_succ, toNat_pred, Int.reduceToNat, Option.getD_some, Option.getD_none, Nat.sub_zero, Nat.zero_add]
    refine ⟨?_, ?_⟩
    · repeat' apply And.intro
      all_goals first
        | trivial
        | rfl
        | omega
        | ((try dsimp only [rowL, rowN]); simp only [beq_iff_eq, beq_eq_false_iff_ne, bne_iff_ne, bne_eq_false_iff_eq, decide_eq_true_eq, decide_eq_false_iff_not, ne_eq, Bool.not_eq_true', Bool.not_eq_false', Bool.not_eq_eq_eq_not, Bool.not_true, Bool.not_false, Option.some.injEq, Option.getD_some, Option.getD_none]; omega)
        | (simp; done)
        | (simp; omega)
    refine SG.ret tab_ok Try.func11 rfl ?_
    intro ρ w' v hm hv
    exact Post.mk hm (.cv (.one (.lb true))) [] none [] hv rfl rows0 rfl (by simp)
  · rw [show tooB P S C = S.any (fun r : RW => decide ((r.L.length : Int) > 8)) from by simp only [tooB, decide_eq_false h1, decide_eq_false h2, decide_eq_false h3, Bool.false_or]]
    refine CallOk.enter Try.func11 (by kernel_rfl) rfl [a, b, c] [rowPa P, rowWs S, rowCh C] [planV 0 F 1 2] rfl h.rows (fun r h => by cases h) rfl rfl ?_
    intro w blk hblk
    refine SG.walk tab_ok mx 400 [false, false, false] [hdV (S.any (fun r : RW => decide ((r.L.length : Int) > 8)))] ?_
    conv => whnf
    try dsimp only [rowL, rowN, growOk, hiN, fromL, tightN, maxOk]
    try simp (disch := omega) only [wI, wU64, wU32, wU8, Int.toNat_natCast, toNat_succ, toNat_pred, Int.reduceToNat, Option.getD_some, Option.getD_none, Nat.sub_zero, Nat.zero_add]
    refine ⟨?_, ?_⟩
    · repeat' apply And.intro
      all_goals first
        | exact containsWs rfl (.of rfl rfl (fun _ _ => rfl)) (by omega)
        | trivial
        | rfl
        | omega
        | ((try dsimp only [rowL, rowN]); simp only [beq_iff_eq, beq_eq_false_iff_ne, bne_iff_ne, bne_eq_false_iff_eq, decide_eq_true_eq, decide_eq_false_iff_not, ne_eq, Bool.not_eq_true', Bool.not_eq_false', Bool.not_eq_eq_eq_not, Bool.not_true, Bool.not_false, Option.some.injEq, Option.getD_some, Option.getD_none]; omega)
        | (simp; done)
        | (simp; omega)
    refine SG.ret tab_ok Try.func11 rfl ?_
    intro ρ w' v hm hv
    exact Post.mk hm (.cv (.one (.v (.bool (S.any (fun r : RW => decide ((r.L.length : Int) > 8))))))) [] none [] hv rfl rows0 rfl (by simp)
theorem thereP {a b c : Nat} {P : List Pa} {S : List RW} {C : List Ch} {Rs : List (Option Row)} (ha : Rs[a]? = some (some (rowPa P))) (hb : Rs[b]? = some (some (rowWs S))) (hc : Rs[c]? = some (some (rowCh C))) : PlanAt Rs a b c P S C :=
  ⟨⟨_, ha, .of rfl rfl (fun _ _ => rfl)⟩, ⟨_, hb, .of rfl rfl (fun _ _ => rfl)⟩, ⟨_, hc, .of rfl rfl (fun _ _ => rfl)⟩⟩
set_option maxRecDepth 100000 in
theorem windowC {a b c : Nat} {P : List Pa} {S : List RW} {C : List Ch} {F e : Int} {x : Wn} (h : PlanAt Rs a b c P S C) (hF : 1 ≤ F ∧ F ≤ 4096) (hw : okWn x) : CallOk Try.prog W B Rs 27 [planV a F b c, wnV x, intV e] (hdInt (winE P.length F x e)) := by
  unfold okWn at hw
  by_cases h1 : x.p < 0 ∨ x.p ≥ P.length
  · rw [show winE P.length F x e = 1 from by unfold winE; rw [if_pos (by omega)]]
    refine CallOk.enter Try.func27 (by kernel_rfl) rfl [a, b, c] [rowPa P, rowWs S, rowCh C] [planV 0 F 1 2, wnV x, intV e] rfl h.rows (fun r h => by cases h) rfl rfl ?_
    intro w blk hblk
    refine SG.walk tab_ok mx 400 [true] [hdV (decide (x.p ≥ 0) && decide (x.p < (P.length : Int)))] ?_
    conv => whnf
    try dsimp only [rowL, rowN, growOk, hiN, fromL, tightN, maxOk]
    try simp (disch := omega) only [wI, wU64, wU32, wU8, Int.toNat_natCast, toNat_succ, toNat_pred, Int.reduceToNat, Option.getD_some, Option.getD_none, Nat.sub_zero, Nat.zero_add]
    refine ⟨?_, ?_⟩
    · repeat' apply And.intro
      all_goals first
        | exact thereF (thereP rfl rfl rfl)
        | exact by simp; omega
        | trivial
        | rfl
        | omega
        | ((try dsimp only [rowL, rowN]); simp only [beq_iff_eq, beq_eq_false_iff_ne, bne_iff_ne, bne_eq_false_iff_eq, decide_eq_true_eq, decide_eq_false_iff_not, ne_eq, Bool.not_eq_true', Bool.not_eq_false', Bool.not_eq_eq_eq_not, Bool.not_true, Bool.not_false, Option.some.injEq, Option.getD_some, Option.getD_none]; omega)
        | (simp; done)
        | (simp; omega)
    refine SG.ret tab_ok Try.func27 rfl ?_
    intro ρ w' v hm hv
    exact Post.mk hm (intV 1) [] none [] hv rfl rows0 rfl (by simp)
  by_cases h2 : x.f < 0
  · rw [show winE P.length F x e = 1 from by unfold winE; rw [if_pos (by omega)]]
    refine CallOk.enter Try.func27 (by kernel_rfl) rfl [a, b, c] [rowPa P, rowWs S, rowCh C] [planV 0 F 1 2, wnV x, intV e] rfl h.rows (fun r h => by cases h) rfl rfl ?_
    intro w blk hblk
    refine SG.walk tab_ok mx 400 [false, true] [hdV (decide (x.p ≥ 0) && decide (x.p < (P.length : Int)))] ?_
    conv => whnf
    try dsimp only [rowL, rowN, growOk, hiN, fromL, tightN, maxOk]
    try simp (disch := omega) only [wI, wU64, wU32, wU8, Int.toNat_natCast, toNat_succ, toNat_pred, Int.reduceToNat, Option.getD_some, Option.getD_none, Nat.sub_zero, Nat.zero_add]
    refine ⟨?_, ?_⟩
    · repeat' apply And.intro
      all_goals first
        | exact thereF (thereP rfl rfl rfl)
        | exact by simp; omega
        | trivial
        | rfl
        | omega
        | ((try dsimp only [rowL, rowN]); simp only [beq_iff_eq, beq_eq_false_iff_ne, bne_iff_ne, bne_eq_false_iff_eq, decide_eq_true_eq, decide_eq_false_iff_not, ne_eq, Bool.not_eq_true', Bool.not_eq_false', Bool.not_eq_eq_eq_not, Bool.not_true, Bool.not_false, Option.some.injEq, Option.getD_some, Option.getD_none]; omega)
        | (simp; done)
        | (simp; omega)
    refine SG.ret tab_ok Try.func27 rfl ?_
    intro ρ w' v hm hv
    exact Post.mk hm (intV 1) [] none [] hv rfl rows0 rfl (by simp)
  by_cases h3 : x.l ≤ 2
  · rw [show winE P.length F x e = 1 from by unfold winE; rw [if_pos (by omega)]]
    refine CallOk.enter Try.func27 (by kernel_rfl) rfl [a, b, c] [rowPa P, rowWs S, rowCh C] [planV 0 F 1 2, wnV x, intV e] rfl h.rows (fun r h => by cases h) rfl rfl ?_
    intro w blk hblk
    refine SG.walk tab_ok mx 400 [false, false, true] [hdV (decide (x.p ≥ 0) && decide (x.p < (P.length : Int)))] ?_
    conv => whnf
    try dsimp only [rowL, rowN, growOk, hiN, fromL, tightN, maxOk]
    try simp (disch := omega) only [wI, wU64, wU32, wU8, Int.toNat_natCast, toNat_succ, toNat_pred, Int.reduceToNat, Option.getD_some, Option.getD_none, Nat.sub_zero, Nat.zero_add]
    refine ⟨?_, ?_⟩
    · repeat' apply And.intro
      all_goals first
        | exact thereF (thereP rfl rfl rfl)
        | exact by simp; omega
        | trivial
        | rfl
        | omega
        | ((try dsimp only [rowL, rowN]); simp only [beq_iff_eq, beq_eq_false_iff_ne, bne_iff_ne, bne_eq_false_iff_eq, decide_eq_true_eq, decide_eq_false_iff_not, ne_eq, Bool.not_eq_true', Bool.not_eq_false', Bool.not_eq_eq_eq_not, Bool.not_true, Bool.not_false, Option.some.injEq, Option.getD_some, Option.getD_none]; omega)
        | (simp; done)
        | (simp; omega)
    refine SG.ret tab_ok Try.func27 rfl ?_
    intro ρ w' v hm hv
    exact Post.mk hm (intV 1) [] none [] hv rfl rows0 rfl (by simp)
  have hwr : IntKind.i64.wrap (F - x.f) = F - x.f := wI (by omega) (by omega)
  by_cases h4 : x.l > F - x.f
  · rw [show winE P.length F x e = 1 from by unfold winE; rw [if_pos (by omega)]]
    refine CallOk.enter Try.func27 (by kernel_rfl) rfl [a, b, c] [rowPa P, rowWs S, rowCh C] [planV 0 F 1 2, wnV x, intV e] rfl h.rows (fun r h => by cases h) rfl rfl ?_
    intro w blk hblk
    refine SG.walk tab_ok mx 400 [false, false, false, true] [hdV (decide (x.p ≥ 0) && decide (x.p < (P.length : Int)))] ?_
    conv => whnf
    try dsimp only [rowL, rowN, growOk, hiN, fromL, tightN, maxOk]
    try simp (disch := omega) only [wI, wU64, wU32, wU8, Int.toNat_natCast, toNat_succ, toNat_pred, Int.reduceToNat, Option.getD_some, Option.getD_none, Nat.sub_zero, Nat.zero_add]
    refine ⟨?_, ?_⟩
    · repeat' apply And.intro
      all_goals first
        | exact thereF (thereP rfl rfl rfl)
        | exact by simp; omega
        | trivial
        | rfl
        | omega
        | ((try dsimp only [rowL, rowN]); simp only [beq_iff_eq, beq_eq_false_iff_ne, bne_iff_ne, bne_eq_false_iff_eq, decide_eq_true_eq, decide_eq_false_iff_not, ne_eq, Bool.not_eq_true', Bool.not_eq_false', Bool.not_eq_eq_eq_not, Bool.not_true, Bool.not_false, Option.some.injEq, Option.getD_some, Option.getD_none]; omega)
        | (simp; done)
        | (simp; omega)
    refine SG.ret tab_ok Try.func27 rfl ?_
    intro ρ w' v hm hv
    exact Post.mk hm (intV 1) [] none [] hv rfl rows0 rfl (by simp)
  by_cases h5 : x.f < e
  · rw [show winE P.length F x e = 9 from by unfold winE; rw [if_neg (by omega), if_pos h5]]
    refine CallOk.enter Try.func27 (by kernel_rfl) rfl [a, b, c] [rowPa P, rowWs S, rowCh C] [planV 0 F 1 2, wnV x, intV e] rfl h.rows (fun r h => by cases h) rfl rfl ?_
    intro w blk hblk
    refine SG.walk tab_ok mx 400 [false, false, false, false, true] [hdV (decide (x.p ≥ 0) && decide (x.p < (P.length : Int)))] ?_
    conv => whnf
    try dsimp only [rowL, rowN, growOk, hiN, fromL, tightN, maxOk]
    try simp (disch := omega) only [wI, wU64, wU32, wU8, Int.toNat_natCast, toNat_succ, toNat_pred, Int.reduceToNat, Option.getD_some, Option.getD_none, Nat.sub_zero, Nat.zero_add]
    refine ⟨?_, ?_⟩
    · repeat' apply And.intro
      all_goals first
        | exact thereF (thereP rfl rfl rfl)
        | exact by simp; omega
        | trivial
        | rfl
        | omega
        | ((try dsimp only [rowL, rowN]); simp only [beq_iff_eq, beq_eq_false_iff_ne, bne_iff_ne, bne_eq_false_iff_eq, decide_eq_true_eq, decide_eq_false_iff_not, ne_eq, Bool.not_eq_true', Bool.not_eq_false', Bool.not_eq_eq_eq_not, Bool.not_true, Bool.not_false, Option.some.injEq, Option.getD_some, Option.getD_none]; omega)
        | (simp; done)
        | (simp; omega)
    refine SG.ret tab_ok Try.func27 rfl ?_
    intro ρ w' v hm hv
    exact Post.mk hm (intV 9) [] none [] hv rfl rows0 rfl (by simp)
  · rw [show winE P.length F x e = 0 from by unfold winE; rw [if_neg (by omega), if_neg h5]]
    refine CallOk.enter Try.func27 (by kernel_rfl) rfl [a, b, c] [rowPa P, rowWs S, rowCh C] [planV 0 F 1 2, wnV x, intV e] rfl h.rows (fun r h => by cases h) rfl rfl ?_
    intro w blk hblk
    refine SG.walk tab_ok mx 400 [false, false, false, false, false] [hdV (decide (x.p ≥ 0) && decide (x.p < (P.length : Int)))] ?_
    conv => whnf
    try dsimp only [rowL, rowN, growOk, hiN, fromL, tightN, maxOk]
    try simp (disch := omega) only [wI, wU64, wU32, wU8, Int.toNat_natCast, toNat_succ, toNat_pred, Int.reduceToNat, Option.getD_some, Option.getD_none, Nat.sub_zero, Nat.zero_add]
    refine ⟨?_, ?_⟩
    · repeat' apply And.intro
      all_goals first
        | exact thereF (thereP rfl rfl rfl)
        | exact by simp; omega
        | trivial
        | rfl
        | omega
        | ((try dsimp only [rowL, rowN]); simp only [beq_iff_eq, beq_eq_false_iff_ne, bne_iff_ne, bne_eq_false_iff_eq, decide_eq_true_eq, decide_eq_false_iff_not, ne_eq, Bool.not_eq_true', Bool.not_eq_false', Bool.not_eq_eq_eq_not, Bool.not_true, Bool.not_false, Option.some.injEq, Option.getD_some, Option.getD_none]; omega)
        | (simp; done)
        | (simp; omega)
    refine SG.ret tab_ok Try.func27 rfl ?_
    intro ρ w' v hm hv
    exact Post.mk hm (intV 0) [] none [] hv rfl rows0 rfl (by simp)
set_option maxRecDepth 100000 in
theorem scheduleC {a b c : Nat} {P : List Pa} {S : List RW} {C : List Ch} {F : Int} {r : RW} (h : PlanAt Rs a b c P S C) (hF : 1 ≤ F ∧ F ≤ 4096) (hr : ∀ w ∈ r.L, okWn w) (hl : r.L.length ≤ 8) : CallOk Try.prog W B Rs 14 [planV a F b c, rwV r] (hdInt (scanW P.length F 0 r.L)) := by
  refine CallOk.enter Try.func14 (by kernel_rfl) rfl [a, b, c] [rowPa P, rowWs S, rowCh C] [planV 0 F 1 2, rwV r] rfl h.rows (fun r h => by cases h) rfl rfl ?_
  intro w blk hblk
  refine SG.walk tab_ok mx 400 [] [] ?_
  conv => whnf
  try dsimp only [rowL, rowN, growOk, hiN, fromL, tightN, maxOk]
  try simp (disch := omega) only [wI, wU64, wU32, wU8, Int.toNat_natCast, toNat_succ, toNat_pred, Int.reduceToNat, Option.getD_some, Option.getD_none, Nat.sub_zero, Nat.zero_add]
  refine ⟨?_, ?_⟩
  · trivial
  refine SG.loop (fun ke : Nat × Int => ⟨puts (List.replicate (Try.f14).ntmps .any) [(0, planV 0 F 1 2), (2, bpV 0), (5, intV ke.2), (9, rwV r), (10, intV r.L.length), (11, intV ke.1)], [some [.rs 0, aI F, .rs 1, .rs 2]], [some (rowPa P), some (rowWs S), some (rowCh C)], []⟩) (fun ke => ke.1 ≤ r.L.length ∧ scanW P.length F 0 r.L = scanW P.length F ke.2 (r.L.drop ke.1)) (fun ke => r.L.length - ke.1) ((0, 0)) (⟨Nat.zero_le _, rfl⟩) (fun h => SG.sub [0] [0, 1, 2] ⟨?_, ?_, ?_, by decide, rfl, rfl, rfl, ?_⟩ h) ?_
  · repeat' (first | exact trivial | exact rfl | refine And.intro ?_ ?_)
  · repeat' (first | exact trivial | exact rfl | refine And.intro ?_ ?_)
  · repeat' (first | exact trivial | refine ⟨⟨_, rfl, ⟨rfl, rfl, .inl rfl, (fun h => by first | exact h | cases h), (fun h => by first | exact h | cases h), fun _ _ => rfl⟩, fun _ _ => rfl⟩, ?_⟩ | refine ⟨⟨_, rfl, ⟨rfl, rfl, .inr rfl, (fun h => by first | exact h | cases h), (fun h => by first | exact h | cases h), fun _ _ => rfl⟩, fun _ _ => rfl⟩, ?_⟩ | refine ⟨⟨_, rfl, ⟨rfl, rfl, .inr rfl, (fun h => by first | exact h | cases h), (fun h => by first | exact h | cases h), fun i hi => absurd hi (Nat.not_lt_zero i)⟩, fun i hi => absurd hi (Nat.not_lt_zero i)⟩, ?_⟩ | refine ⟨⟨_, rfl, ⟨rfl, rfl, .inl rfl, (fun h => by first | exact h | cases h), (fun h => by first | exact h | cases h), fun i hi => ren_closed (hQc i hi)⟩, fun i hi => inn_closed (hQc i hi)⟩, ?_⟩)
  · repeat' (first | exact trivial | exact rfl | refine And.intro ?_ ?_)
  rintro ⟨k, e⟩ ⟨hk, hs⟩ next
  dsimp only at hk hs next ⊢
  by_cases hlt : k < r.L.length
  · have hw := hr _ (getD_mem' (d := wn0) hlt)
    rw [drop_getD (d := wn0) hlt, scanW] at hs
    by_cases h0 : winE P.length F (r.L.getD k wn0) e = 0
    · rw [if_pos h0] at hs
      refine SG.walk tab_ok mx 400 [true, false] [hdInt (winE P.length F (r.L.getD k wn0) e)] ?_
      conv => whnf
      try dsimp only [rowL, rowN, growOk, hiN, fromL, tightN, maxOk]
      try simp (disch := omega) only [wI, wU64, wU32, wU8, Int.toNat_natCast, toNat_succ, toNat_pred, Int.reduceToNat, Option.getD_some, Option.getD_none, Nat.sub_zero, Nat.zero_add]
      refine ⟨?_, ?_⟩
      · repeat' apply And.intro
        all_goals first
          | exact windowC (thereP rfl rfl rfl) hF hw
          | trivial
          | rfl
          | omega
          | ((try dsimp only [rowL, rowN]); simp only [beq_iff_eq, beq_eq_false_iff_ne, bne_iff_ne, bne_eq_false_iff_eq, decide_eq_true_eq, decide_eq_false_iff_not, ne_eq, Bool.not_eq_true', Bool.not_eq_false', Bool.not_eq_eq_eq_not, Bool.not_true, Bool.not_false, Option.some.injEq, Option.getD_some, Option.getD_none]; omega)
          | (simp; done)
          | (simp; omega)
      have hz := winE_zero h0
      rw [wI (x := (r.L.getD k wn0).f + (r.L.getD k wn0).l) (by omega) (by omega)]
      refine SG.sub [0] [0, 1, 2] ⟨?_, ?_, ?_, by decide, rfl, rfl, rfl, ?_⟩ (next (k + 1, (r.L.getD k wn0).f + (r.L.getD k wn0).l) ⟨hlt, hs⟩ (by dsimp only; omega))
      · repeat' (first | exact trivial | exact rfl | refine And.intro ?_ ?_)
      · repeat' (first | exact trivial | exact rfl | refine And.intro ?_ ?_)
      · repeat' (first | exact trivial | refine ⟨⟨_, rfl, ⟨rfl, rfl, .inl rfl, (fun h => by first | exact h | cases h), (fun h => by first | exact h | cases h), fun _ _ => rfl⟩, fun _ _ => rfl⟩, ?_⟩ | refine ⟨⟨_, rfl, ⟨rfl, rfl, .inr rfl, (fun h => by first | exact h | cases h), (fun h => by first | exact h | cases h), fun _ _ => rfl⟩, fun _ _ => rfl⟩, ?_⟩ | refine ⟨⟨_, rfl, ⟨rfl, rfl, .inr rfl, (fun h => by first | exact h | cases h), (fun h => by first | exact h | cases h), fun i hi => absurd hi (Nat.not_lt_zero i)⟩, fun i hi => absurd hi (Nat.not_lt_zero i)⟩, ?_⟩ | refine ⟨⟨_, rfl, ⟨rfl, rfl, .inl rfl, (fun h => by first | exact h | cases h), (fun h => by first | exact h | cases h), fun i hi => ren_closed (hQc i hi)⟩, fun i hi => inn_closed (hQc i hi)⟩, ?_⟩)
      · repeat' (first | exact trivial | exact rfl | refine And.intro ?_ ?_)
    · rw [if_neg h0] at hs
      rw [hs]
      refine SG.walk tab_ok mx 400 [true, true] [hdInt (winE P.length F (r.L.getD k wn0) e)] ?_
      conv => whnf
      try dsimp only [rowL, rowN, growOk, hiN, fromL, tightN, maxOk]
      try simp (disch := omega) only [wI, wU64, wU32, wU8, Int.toNat_natCast, toNat_succ, toNat_pred, Int.reduceToNat, Option.getD_some, Option.getD_none, Nat.sub_zero, Nat.zero_add]
      refine ⟨?_, ?_⟩
      · repeat' apply And.intro
        all_goals first
          | exact windowC (thereP rfl rfl rfl) hF hw
          | trivial
          | rfl
          | omega
          | ((try dsimp only [rowL, rowN]); simp only [beq_iff_eq, beq_eq_false_iff_ne, bne_iff_ne, bne_eq_false_iff_eq, decide_eq_true_eq, decide_eq_false_iff_not, ne_eq, Bool.not_eq_true', Bool.not_eq_false', Bool.not_eq_eq_eq_not, Bool.not_true, Bool.not_false, Option.some.injEq, Option.getD_some, Option.getD_none]; omega)
          | (simp; done)
          | (simp; omega)
      refine SG.ret tab_ok Try.func14 rfl ?_
      intro ρ w' v hm hv
      exact Post.mk hm (intV (winE P.length F (r.L.getD k wn0) e)) [] none [] hv rfl rows0 rfl (by simp)
  · rw [List.drop_eq_nil_of_le (by omega)] at hs
    rw [hs]
    refine SG.walk tab_ok mx 400 [false] [] ?_
    conv => whnf
    try dsimp only [rowL, rowN, growOk, hiN, fromL, tightN, maxOk]
    try simp (disch := omega) only [wI, wU64, wU32, wU8, Int.toNat_natCast, toNat_succ, toNat_pred, Int.reduceToNat, Option.getD_some, Option.getD_none, Nat.sub_zero, Nat.zero_add]
    refine ⟨?_, ?_⟩
    · simpa using hlt
    refine SG.ret tab_ok Try.func14 rfl ?_
    intro ρ w' v hm hv
    exact Post.mk hm (intV 0) [] none [] hv rfl rows0 rfl (by simp)
set_option maxRecDepth 100000 in
theorem checkC {a b c : Nat} {P : List Pa} {S : List RW} {C : List Ch} {F : Int} (h : PlanAt Rs a b c P S C) (hS : okS S) : CallOk Try.prog W B Rs 8 [planV a F b c] (hdInt (chk P F S C)) := by
  by_cases h1 : tooB P S C = true
  · rw [show chk P F S C = 4 from by unfold chk; rw [if_pos h1]]
    refine CallOk.enter Try.func8 (by kernel_rfl) rfl [a, b, c] [rowPa P, rowWs S, rowCh C] [planV 0 F 1 2] rfl h.rows (fun r h => by cases h) rfl rfl ?_
    intro w blk hblk
    refine SG.walk tab_ok mx 400 [true] [hdV (tooB P S C)] ?_
    conv => whnf
    try dsimp only [rowL, rowN, growOk, hiN, fromL, tightN, maxOk]
    try simp (disch := omega) only [wI, wU64, wU32, wU8, Int.toNat_natCast, toNat_succ, toNat_pred, Int.reduceToNat, Option.getD_some, Option.getD_none, Nat.sub_zero, Nat.zero_add]
    refine ⟨?_, ?_⟩
    · repeat' apply And.intro
      all_goals first
        | exact tooManyC (thereP rfl rfl rfl)
        | exact h1
        | trivial
        | rfl
        | omega
        | ((try dsimp only [rowL, rowN]); simp only [beq_iff_eq, beq_eq_false_iff_ne, bne_iff_ne, bne_eq_false_iff_eq, decide_eq_true_eq, decide_eq_false_iff_not, ne_eq, Bool.not_eq_true', Bool.not_eq_false', Bool.not_eq_eq_eq_not, Bool.not_true, Bool.not_false, Option.some.injEq, Option.getD_some, Option.getD_none]; omega)
        | (simp; done)
        | (simp; omega)
    refine SG.ret tab_ok Try.func8 rfl ?_
    intro ρ w' v hm hv
    exact Post.mk hm (intV 4) [] none [] hv rfl rows0 rfl (by simp)
  have h1' : tooB P S C = false := by simpa using h1
  obtain ⟨hlP, hlS, hlC, hlW⟩ := too_le h1'
  by_cases h2 : P.length = 0
  · rw [show chk P F S C = 1 from by unfold chk; rw [if_neg h1, if_pos (.inl h2)]]
    refine CallOk.enter Try.func8 (by kernel_rfl) rfl [a, b, c] [rowPa P, rowWs S, rowCh C] [planV 0 F 1 2] rfl h.rows (fun r h => by cases h) rfl rfl ?_
    intro w blk hblk
    refine SG.walk tab_ok mx 400 [false, true] [hdV (tooB P S C)] ?_
    conv => whnf
    try dsimp only [rowL, rowN, growOk, hiN, fromL, tightN, maxOk]
    try simp (disch := omega) only [wI, wU64, wU32, wU8, Int.toNat_natCast, toNat_succ, toNat_pred, Int.reduceToNat, Option.getD_some, Option.getD_none, Nat.sub_zero, Nat.zero_add]
    refine ⟨?_, ?_⟩
    · repeat' apply And.intro
      all_goals first
        | exact tooManyC (thereP rfl rfl rfl)
        | exact h1'
        | trivial
        | rfl
        | omega
        | ((try dsimp only [rowL, rowN]); simp only [beq_iff_eq, beq_eq_false_iff_ne, bne_iff_ne, bne_eq_false_iff_eq, decide_eq_true_eq, decide_eq_false_iff_not, ne_eq, Bool.not_eq_true', Bool.not_eq_false', Bool.not_eq_eq_eq_not, Bool.not_true, Bool.not_false, Option.some.injEq, Option.getD_some, Option.getD_none]; omega)
        | (simp; done)
        | (simp; omega)
    refine SG.ret tab_ok Try.func8 rfl ?_
    intro ρ w' v hm hv
    exact Post.mk hm (intV 1) [] none [] hv rfl rows0 rfl (by simp)
  by_cases h3 : S.length = 0
  · rw [show chk P F S C = 1 from by unfold chk; rw [if_neg h1, if_pos (.inr h3)]]
    refine CallOk.enter Try.func8 (by kernel_rfl) rfl [a, b, c] [rowPa P, rowWs S, rowCh C] [planV 0 F 1 2] rfl h.rows (fun r h => by cases h) rfl rfl ?_
    intro w blk hblk
    refine SG.walk tab_ok mx 400 [false, false, true] [hdV (tooB P S C)] ?_
    conv => whnf
    try dsimp only [rowL, rowN, growOk, hiN, fromL, tightN, maxOk]
    try simp (disch := omega) only [wI, wU64, wU32, wU8, Int.toNat_natCast, toNat_succ, toNat_pred, Int.reduceToNat, Option.getD_some, Option.getD_none, Nat.sub_zero, Nat.zero_add]
    refine ⟨?_, ?_⟩
    · repeat' apply And.intro
      all_goals first
        | exact tooManyC (thereP rfl rfl rfl)
        | exact h1'
        | trivial
        | rfl
        | omega
        | ((try dsimp only [rowL, rowN]); simp only [beq_iff_eq, beq_eq_false_iff_ne, bne_iff_ne, bne_eq_false_iff_eq, decide_eq_true_eq, decide_eq_false_iff_not, ne_eq, Bool.not_eq_true', Bool.not_eq_false', Bool.not_eq_eq_eq_not, Bool.not_true, Bool.not_false, Option.some.injEq, Option.getD_some, Option.getD_none]; omega)
        | (simp; done)
        | (simp; omega)
    refine SG.ret tab_ok Try.func8 rfl ?_
    intro ρ w' v hm hv
    exact Post.mk hm (intV 1) [] none [] hv rfl rows0 rfl (by simp)
  have h23 : ¬ (P.length = 0 ∨ S.length = 0) := by omega
  by_cases h4 : P.any badPa = true
  · rw [show chk P F S C = 1 from by unfold chk; rw [if_neg h1, if_neg h23, if_pos h4]]
    refine CallOk.enter Try.func8 (by kernel_rfl) rfl [a, b, c] [rowPa P, rowWs S, rowCh C] [planV 0 F 1 2] rfl h.rows (fun r h => by cases h) rfl rfl ?_
    intro w blk hblk
    refine SG.walk tab_ok mx 400 [false, false, false, true] [hdV (tooB P S C), hdV (P.any badPa)] ?_
    conv => whnf
    try dsimp only [rowL, rowN, growOk, hiN, fromL, tightN, maxOk]
    try simp (disch := omega) only [wI, wU64, wU32, wU8, Int.toNat_natCast, toNat_succ, toNat_pred, Int.reduceToNat, Option.getD_some, Option.getD_none, Nat.sub_zero, Nat.zero_add]
    refine ⟨?_, ?_⟩
    · repeat' apply And.intro
      all_goals first
        | exact tooManyC (thereP rfl rfl rfl)
        | exact h1'
        | exact containsPa rfl (.of rfl rfl (fun _ _ => rfl)) (by omega)
        | exact h4
        | trivial
        | rfl
        | omega
        | ((try dsimp only [rowL, rowN]); simp only [beq_iff_eq, beq_eq_false_iff_ne, bne_iff_ne, bne_eq_false_iff_eq, decide_eq_true_eq, decide_eq_false_iff_not, ne_eq, Bool.not_eq_true', Bool.not_eq_false', Bool.not_eq_eq_eq_not, Bool.not_true, Bool.not_false, Option.some.injEq, Option.getD_some, Option.getD_none]; omega)
        | (simp; done)
        | (simp; omega)
    refine SG.ret tab_ok Try.func8 rfl ?_
    intro ρ w' v hm hv
    exact Post.mk hm (intV 1) [] none [] hv rfl rows0 rfl (by simp)
  have h4' : P.any badPa = false := by simpa using h4
  by_cases h5 : F < 1
  · rw [show chk P F S C = 1 from by unfold chk; rw [if_neg h1, if_neg h23, if_neg h4, if_pos (.inl h5)]]
    refine CallOk.enter Try.func8 (by kernel_rfl) rfl [a, b, c] [rowPa P, rowWs S, rowCh C] [planV 0 F 1 2] rfl h.rows (fun r h => by cases h) rfl rfl ?_
    intro w blk hblk
    refine SG.walk tab_ok mx 400 [false, false, false, false, true] [hdV (tooB P S C), hdV (P.any badPa)] ?_
    conv => whnf
    try dsimp only [rowL, rowN, growOk, hiN, fromL, tightN, maxOk]
    try simp (disch := omega) only [wI, wU64, wU32, wU8, Int.toNat_natCast, toNat_succ, toNat_pred, Int.reduceToNat, Option.getD_some, Option.getD_none, Nat.sub_zero, Nat.zero_add]
    refine ⟨?_, ?_⟩
    · repeat' apply And.intro
      all_goals first
        | exact tooManyC (thereP rfl rfl rfl)
        | exact h1'
        | exact containsPa rfl (.of rfl rfl (fun _ _ => rfl)) (by omega)
        | exact h4'
        | trivial
        | rfl
        | omega
        | ((try dsimp only [rowL, rowN]); simp only [beq_iff_eq, beq_eq_false_iff_ne, bne_iff_ne, bne_eq_false_iff_eq, decide_eq_true_eq, decide_eq_false_iff_not, ne_eq, Bool.not_eq_true', Bool.not_eq_false', Bool.not_eq_eq_eq_not, Bool.not_true, Bool.not_false, Option.some.injEq, Option.getD_some, Option.getD_none]; omega)
        | (simp; done)
        | (simp; omega)
    refine SG.ret tab_ok Try.func8 rfl ?_
    intro ρ w' v hm hv
    exact Post.mk hm (intV 1) [] none [] hv rfl rows0 rfl (by simp)
  by_cases h6 : F > 4096
  · rw [show chk P F S C = 1 from by unfold chk; rw [if_neg h1, if_neg h23, if_neg h4, if_pos (.inr h6)]]
    refine CallOk.enter Try.func8 (by kernel_rfl) rfl [a, b, c] [rowPa P, rowWs S, rowCh C] [planV 0 F 1 2] rfl h.rows (fun r h => by cases h) rfl rfl ?_
    intro w blk hblk
    refine SG.walk tab_ok mx 400 [false, false, false, false, false, true] [hdV (tooB P S C), hdV (P.any badPa)] ?_
    conv => whnf
    try dsimp only [rowL, rowN, growOk, hiN, fromL, tightN, maxOk]
    try simp (disch := omega) only [wI, wU64, wU32, wU8, Int.toNat_natCast, toNat_succ, toNat_pred, Int.reduceToNat, Option.getD_some, Option.getD_none, Nat.sub_zero, Nat.zero_add]
    refine ⟨?_, ?_⟩
    · repeat' apply And.intro
      all_goals first
        | exact tooManyC (thereP rfl rfl rfl)
        | exact h1'
        | exact containsPa rfl (.of rfl rfl (fun _ _ => rfl)) (by omega)
        | exact h4'
        | trivial
        | rfl
        | omega
        | ((try dsimp only [rowL, rowN]); simp only [beq_iff_eq, beq_eq_false_iff_ne, bne_iff_ne, bne_eq_false_iff_eq, decide_eq_true_eq, decide_eq_false_iff_not, ne_eq, Bool.not_eq_true', Bool.not_eq_false', Bool.not_eq_eq_eq_not, Bool.not_true, Bool.not_false, Option.some.injEq, Option.getD_some, Option.getD_none]; omega)
        | (simp; done)
        | (simp; omega)
    refine SG.ret tab_ok Try.func8 rfl ?_
    intro ρ w' v hm hv
    exact Post.mk hm (intV 1) [] none [] hv rfl rows0 rfl (by simp)
  have hc : chk P F S C = if scanS P.length F S = 0 then (if C.any (badCh P.length) = true then 1 else 0) else scanS P.length F S := by unfold chk; rw [if_neg h1, if_neg h23, if_neg h4, if_neg (by omega)]
  rw [hc]
  refine CallOk.enter Try.func8 (by kernel_rfl) rfl [a, b, c] [rowPa P, rowWs S, rowCh C] [planV 0 F 1 2] rfl h.rows (fun r h => by cases h) rfl rfl ?_
  intro w blk hblk
  refine SG.walk tab_ok mx 400 [false, false, false, false, false, false] [hdV (tooB P S C), hdV (P.any badPa)] ?_
  conv => whnf
  try dsimp only [rowL, rowN, growOk, hiN, fromL, tightN, maxOk]
  try simp (disch := omega) only [wI, wU64, wU32, wU8, Int.toNat_natCast, toNat_succ, toNat_pred, Int.reduceToNat, Option.getD_some, Option.getD_none, Nat.sub_zero, Nat.zero_add]
  refine ⟨?_, ?_⟩
  · repeat' apply And.intro
    all_goals first
      | exact tooManyC (thereP rfl rfl rfl)
      | exact h1'
      | exact containsPa rfl (.of rfl rfl (fun _ _ => rfl)) (by omega)
      | exact h4'
      | trivial
      | rfl
      | omega
      | ((try dsimp only [rowL, rowN]); simp only [beq_iff_eq, beq_eq_false_iff_ne, bne_iff_ne, bne_eq_false_iff_eq, decide_eq_true_eq, decide_eq_false_iff_not, ne_eq, Bool.not_eq_true', Bool.not_eq_false', Bool.not_eq_eq_eq_not, Bool.not_true, Bool.not_false, Option.some.injEq, Option.getD_some, Option.getD_none]; omega)
      | (simp; done)
      | (simp; omega)
  refine SG.loop (fun k : Nat => ⟨puts (List.replicate (Try.f8).ntmps .any) [(0, planV 0 F 1 2), (1, bpV 0), (34, rsV 1), (35, intV S.length), (36, intV k)], [some [.rs 0, aI F, .rs 1, .rs 2]], [some (rowPa P), some (rowWs S), some (rowCh C)], []⟩) (fun k => k ≤ S.length ∧ scanS P.length F S = scanS P.length F (S.drop k)) (fun k => S.length - k) (0) (⟨Nat.zero_le _, rfl⟩) (fun h => SG.sub [0] [0, 1, 2] ⟨?_, ?_, ?_, by decide, rfl, rfl, rfl, ?_⟩ h) ?_
  · repeat' (first | exact trivial | exact rfl | refine And.intro ?_ ?_)
  · repeat' (first | exact trivial | exact rfl | refine And.intro ?_ ?_)
  · repeat' (first | exact trivial | refine ⟨⟨_, rfl, ⟨rfl, rfl, .inl rfl, (fun h => by first | exact h | cases h), (fun h => by first | exact h | cases h), fun _ _ => rfl⟩, fun _ _ => rfl⟩, ?_⟩ | refine ⟨⟨_, rfl, ⟨rfl, rfl, .inr rfl, (fun h => by first | exact h | cases h), (fun h => by first | exact h | cases h), fun _ _ => rfl⟩, fun _ _ => rfl⟩, ?_⟩ | refine ⟨⟨_, rfl, ⟨rfl, rfl, .inr rfl, (fun h => by first | exact h | cases h), (fun h => by first | exact h | cases h), fun i hi => absurd hi (Nat.not_lt_zero i)⟩, fun i hi => absurd hi (Nat.not_lt_zero i)⟩, ?_⟩ | refine ⟨⟨_, rfl, ⟨rfl, rfl, .inl rfl, (fun h => by first | exact h | cases h), (fun h => by first | exact h | cases h), fun i hi => ren_closed (hQc i hi)⟩, fun i hi => inn_closed (hQc i hi)⟩, ?_⟩)
  · repeat' (first | exact trivial | exact rfl | refine And.intro ?_ ?_)
  rintro k ⟨hk, hs⟩ next
  by_cases hlt : k < S.length
  · have hm := getD_mem' (d := rw0) hlt
    have hw := hS _ hm
    have hwl := hlW _ hm
    rw [drop_getD (d := rw0) hlt, scanS] at hs
    by_cases h0 : scanW P.length F 0 (S.getD k rw0).L = 0
    · rw [if_pos h0] at hs
      refine SG.walk tab_ok mx 400 [true, false] [hdInt (scanW P.length F 0 (S.getD k rw0).L)] ?_
      conv => whnf
      try dsimp only [rowL, rowN, growOk, hiN, fromL, tightN, maxOk]
      try simp (disch := omega) only [wI, wU64, wU32, wU8, Int.toNat_natCast, toNat_succ, toNat_pred, Int.reduceToNat, Option.getD_some, Option.getD_none, Nat.sub_zero, Nat.zero_add]
      refine ⟨?_, ?_⟩
      · repeat' apply And.intro
        all_goals first
          | exact scheduleC (thereP rfl rfl rfl) (by omega) hw hwl
          | trivial
          | rfl
          | omega
          | ((try dsimp only [rowL, rowN]); simp only [beq_iff_eq, beq_eq_false_iff_ne, bne_iff_ne, bne_eq_false_iff_eq, decide_eq_true_eq, decide_eq_false_iff_not, ne_eq, Bool.not_eq_true', Bool.not_eq_false', Bool.not_eq_eq_eq_not, Bool.not_true, Bool.not_false, Option.some.injEq, Option.getD_some, Option.getD_none]; omega)
          | (simp; done)
          | (simp; omega)
      refine SG.sub [0] [0, 1, 2] ⟨?_, ?_, ?_, by decide, rfl, rfl, rfl, ?_⟩ (next (k + 1) ⟨hlt, hs⟩ (by omega))
      · repeat' (first | exact trivial | exact rfl | refine And.intro ?_ ?_)
      · repeat' (first | exact trivial | exact rfl | refine And.intro ?_ ?_)
      · repeat' (first | exact trivial | refine ⟨⟨_, rfl, ⟨rfl, rfl, .inl rfl, (fun h => by first | exact h | cases h), (fun h => by first | exact h | cases h), fun _ _ => rfl⟩, fun _ _ => rfl⟩, ?_⟩ | refine ⟨⟨_, rfl, ⟨rfl, rfl, .inr rfl, (fun h => by first | exact h | cases h), (fun h => by first | exact h | cases h), fun _ _ => rfl⟩, fun _ _ => rfl⟩, ?_⟩ | refine ⟨⟨_, rfl, ⟨rfl, rfl, .inr rfl, (fun h => by first | exact h | cases h), (fun h => by first | exact h | cases h), fun i hi => absurd hi (Nat.not_lt_zero i)⟩, fun i hi => absurd hi (Nat.not_lt_zero i)⟩, ?_⟩ | refine ⟨⟨_, rfl, ⟨rfl, rfl, .inl rfl, (fun h => by first | exact h | cases h), (fun h => by first | exact h | cases h), fun i hi => ren_closed (hQc i hi)⟩, fun i hi => inn_closed (hQc i hi)⟩, ?_⟩)
      · repeat' (first | exact trivial | exact rfl | refine And.intro ?_ ?_)
    · rw [if_neg h0] at hs
      rw [hs, if_neg h0]
      refine SG.walk tab_ok mx 400 [true, true] [hdInt (scanW P.length F 0 (S.getD k rw0).L)] ?_
      conv => whnf
      try dsimp only [rowL, rowN, growOk, hiN, fromL, tightN, maxOk]
      try simp (disch := omega) only [wI, wU64, wU32, wU8, Int.toNat_natCast, toNat_succ, toNat_pred, Int.reduceToNat, Option.getD_some, Option.getD_none, Nat.sub_zero, Nat.zero_add]
      refine ⟨?_, ?_⟩
      · repeat' apply And.intro
        all_goals first
          | exact scheduleC (thereP rfl rfl rfl) (by omega) hw hwl
          | trivial
          | rfl
          | omega
          | ((try dsimp only [rowL, rowN]); simp only [beq_iff_eq, beq_eq_false_iff_ne, bne_iff_ne, bne_eq_false_iff_eq, decide_eq_true_eq, decide_eq_false_iff_not, ne_eq, Bool.not_eq_true', Bool.not_eq_false', Bool.not_eq_eq_eq_not, Bool.not_true, Bool.not_false, Option.some.injEq, Option.getD_some, Option.getD_none]; omega)
          | (simp; done)
          | (simp; omega)
      refine SG.ret tab_ok Try.func8 rfl ?_
      intro ρ w' v hm hv
      exact Post.mk hm (intV (scanW P.length F 0 (S.getD k rw0).L)) [] none [] hv rfl rows0 rfl (by simp)
  · rw [List.drop_eq_nil_of_le (by omega), scanS] at hs
    rw [hs, if_pos rfl]
    refine SG.walk tab_ok mx 400 [false] [] ?_
    conv => whnf
    try dsimp only [rowL, rowN, growOk, hiN, fromL, tightN, maxOk]
    try simp (disch := omega) only [wI, wU64, wU32, wU8, Int.toNat_natCast, toNat_succ, toNat_pred, Int.reduceToNat, Option.getD_some, Option.getD_none, Nat.sub_zero, Nat.zero_add]
    refine ⟨?_, ?_⟩
    · simpa using hlt
    refine SG.boxRow 0 rfl ?_
    refine SG.norm ?_
    conv => whnf
    by_cases h7 : C.any (badCh P.length) = true
    · rw [if_pos h7]
      refine SG.walk tab_ok mx 400 [true] [hdV (C.any (badCh P.length))] ?_
      conv => whnf
      try dsimp only [rowL, rowN, growOk, hiN, fromL, tightN, maxOk]
      try simp (disch := omega) only [wI, wU64, wU32, wU8, Int.toNat_natCast, toNat_succ, toNat_pred, Int.reduceToNat, Option.getD_some, Option.getD_none, Nat.sub_zero, Nat.zero_add]
      refine ⟨?_, ?_⟩
      · repeat' apply And.intro
        all_goals first
          | exact containsCh4 (F := F) rfl (.of rfl rfl (fun _ _ => rfl)) (thereP rfl rfl rfl) (by omega)
          | exact h7
          | trivial
          | rfl
          | omega
          | ((try dsimp only [rowL, rowN]); simp only [beq_iff_eq, beq_eq_false_iff_ne, bne_iff_ne, bne_eq_false_iff_eq, decide_eq_true_eq, decide_eq_false_iff_not, ne_eq, Bool.not_eq_true', Bool.not_eq_false', Bool.not_eq_eq_eq_not, Bool.not_true, Bool.not_false, Option.some.injEq, Option.getD_some, Option.getD_none]; omega)
          | (simp; done)
          | (simp; omega)
      refine SG.ret tab_ok Try.func8 rfl ?_
      intro ρ w' v hm hv
      exact Post.mk hm (intV 1) [] none [] hv rfl rows0 rfl (by simp)
    · rw [if_neg h7]
      refine SG.walk tab_ok mx 400 [false] [hdV (C.any (badCh P.length))] ?_
      conv => whnf
      try dsimp only [rowL, rowN, growOk, hiN, fromL, tightN, maxOk]
      try simp (disch := omega) only [wI, wU64, wU32, wU8, Int.toNat_natCast, toNat_succ, toNat_pred, Int.reduceToNat, Option.getD_some, Option.getD_none, Nat.sub_zero, Nat.zero_add]
      refine ⟨?_, ?_⟩
      · repeat' apply And.intro
        all_goals first
          | exact containsCh4 (F := F) rfl (.of rfl rfl (fun _ _ => rfl)) (thereP rfl rfl rfl) (by omega)
          | exact (Bool.eq_false_iff.2 h7)
          | trivial
          | rfl
          | omega
          | ((try dsimp only [rowL, rowN]); simp only [beq_iff_eq, beq_eq_false_iff_ne, bne_iff_ne, bne_eq_false_iff_eq, decide_eq_true_eq, decide_eq_false_iff_not, ne_eq, Bool.not_eq_true', Bool.not_eq_false', Bool.not_eq_eq_eq_not, Bool.not_true, Bool.not_false, Option.some.injEq, Option.getD_some, Option.getD_none]; omega)
          | (simp; done)
          | (simp; omega)
      refine SG.ret tab_ok Try.func8 rfl ?_
      intro ρ w' v hm hv
      exact Post.mk hm (intV 0) [] none [] hv rfl rows0 rfl (by simp)
end
end Go.Proofs.Ytlbldfdkicofdaa
