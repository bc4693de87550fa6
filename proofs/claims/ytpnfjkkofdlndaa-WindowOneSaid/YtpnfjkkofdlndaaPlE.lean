/- Windows: whose a cycle is. -/
import Derived.Test.YtpnfjkkofdlndaaPlT
namespace Go.Proofs.Ytpnfjkkofdlndaa
open Go.Sx Go.RowKit
set_option linter.unusedVariables false
set_option linter.unusedSimpArgs false
section
variable {W : Base} {B : List (Option (List At))} {Rs : List (Option Row)}
set_option maxHeartbeats 4000000 in
set_option maxRecDepth 100000 in
theorem mayC {a b c : Nat} {P : List Pa} {S : List RW} {C : List Ch} {F i : Int} (h : PlanAt Rs a b c P S C) (hS : okS S) : CallOk Try.prog W B Rs 30 [planV a F b c, intV i] (hdB (thereB P F S C i)) := by
  by_cases h1 : chk P F S C ≠ 0
  · rw [show thereB P F S C i = false from by simp [thereB, h1]]
    refine CallOk.enter Try.func30 (by kernel_rfl) rfl [a, b, c] [rowPa P, rowWs S, rowCh C] [planV 0 F 1 2, intV i] rfl h.rows (fun r h => by cases h) rfl rfl ?_
    intro w blk hblk
    refine SG.walk tab_ok mx 400 [true] [hdInt (chk P F S C)] ?_
    conv => whnf
    try dsimp only [rowL, rowN, growOk, hiN, fromL, tightN, maxOk]
    try simp (disch := omega) only [wI, wU64, wU32, wU8, Int.toNat_natCast, toNat_succ, toNat_pred, Int.reduceToNat, Option.getD_some, Option.getD_none, Nat.sub_zero, Nat.zero_add]
    refine ⟨?_, ?_⟩
    · repeat' apply And.intro
      all_goals first
        | exact checkC (thereP rfl rfl rfl) hS
        | trivial
        | rfl
        | omega
        | ((try dsimp only [rowL, rowN]); simp only [beq_iff_eq, beq_eq_false_iff_ne, bne_iff_ne, bne_eq_false_iff_eq, decide_eq_true_eq, decide_eq_false_iff_not, ne_eq, Bool.not_eq_true', Bool.not_eq_false', Bool.not_eq_eq_eq_not, Bool.not_true, Bool.not_false, Option.some.injEq, Option.getD_some, Option.getD_none]; omega)
        | (simp; done)
        | (simp; omega)
    refine SG.ret tab_ok Try.func30 rfl ?_
    intro ρ w' v hm hv
    exact Post.mk hm (.cv (.one (.lb false))) [] none [] hv rfl rows0 rfl (by simp)
  have h1' : chk P F S C = 0 := by omega
  by_cases h2 : i < 0
  · rw [show thereB P F S C i = false from by simp [thereB]; intro _ h; omega]
    refine CallOk.enter Try.func30 (by kernel_rfl) rfl [a, b, c] [rowPa P, rowWs S, rowCh C] [planV 0 F 1 2, intV i] rfl h.rows (fun r h => by cases h) rfl rfl ?_
    intro w blk hblk
    refine SG.walk tab_ok mx 400 [false, true] [hdInt (chk P F S C)] ?_
    conv => whnf
    try dsimp only [rowL, rowN, growOk, hiN, fromL, tightN, maxOk]
    try simp (disch := omega) only [wI, wU64, wU32, wU8, Int.toNat_natCast, toNat_succ, toNat_pred, Int.reduceToNat, Option.getD_some, Option.getD_none, Nat.sub_zero, Nat.zero_add]
    refine ⟨?_, ?_⟩
    · repeat' apply And.intro
      all_goals first
        | exact checkC (thereP rfl rfl rfl) hS
        | trivial
        | rfl
        | omega
        | ((try dsimp only [rowL, rowN]); simp only [beq_iff_eq, beq_eq_false_iff_ne, bne_iff_ne, bne_eq_false_iff_eq, decide_eq_true_eq, decide_eq_false_iff_not, ne_eq, Bool.not_eq_true', Bool.not_eq_false', Bool.not_eq_eq_eq_not, Bool.not_true, Bool.not_false, Option.some.injEq, Option.getD_some, Option.getD_none]; omega)
        | (simp; done)
        | (simp; omega)
    refine SG.ret tab_ok Try.func30 rfl ?_
    intro ρ w' v hm hv
    exact Post.mk hm (.cv (.one (.lb false))) [] none [] hv rfl rows0 rfl (by simp)
  by_cases h3 : i ≥ S.length
  · rw [show thereB P F S C i = false from by simp [thereB]; intro _ _; omega]
    refine CallOk.enter Try.func30 (by kernel_rfl) rfl [a, b, c] [rowPa P, rowWs S, rowCh C] [planV 0 F 1 2, intV i] rfl h.rows (fun r h => by cases h) rfl rfl ?_
    intro w blk hblk
    refine SG.walk tab_ok mx 400 [false, false, true] [hdInt (chk P F S C)] ?_
    conv => whnf
    try dsimp only [rowL, rowN, growOk, hiN, fromL, tightN, maxOk]
    try simp (disch := omega) only [wI, wU64, wU32, wU8, Int.toNat_natCast, toNat_succ, toNat_pred, Int.reduceToNat, Option.getD_some, Option.getD_none, Nat.sub_zero, Nat.zero_add]
    refine ⟨?_, ?_⟩
    · repeat' apply And.intro
      all_goals first
        | exact checkC (thereP rfl rfl rfl) hS
        | trivial
        | rfl
        | omega
        | ((try dsimp only [rowL, rowN]); simp only [beq_iff_eq, beq_eq_false_iff_ne, bne_iff_ne, bne_eq_false_iff_eq, decide_eq_true_eq, decide_eq_false_iff_not, ne_eq, Bool.not_eq_true', Bool.not_eq_false', Bool.not_eq_eq_eq_not, Bool.not_true, Bool.not_false, Option.some.injEq, Option.getD_some, Option.getD_none]; omega)
        | (simp; done)
        | (simp; omega)
    refine SG.ret tab_ok Try.func30 rfl ?_
    intro ρ w' v hm hv
    exact Post.mk hm (.cv (.one (.lb false))) [] none [] hv rfl rows0 rfl (by simp)
  · rw [show thereB P F S C i = true from by simp [thereB, h1']; omega]
    refine CallOk.enter Try.func30 (by kernel_rfl) rfl [a, b, c] [rowPa P, rowWs S, rowCh C] [planV 0 F 1 2, intV i] rfl h.rows (fun r h => by cases h) rfl rfl ?_
    intro w blk hblk
    refine SG.walk tab_ok mx 400 [false, false, false] [hdInt (chk P F S C)] ?_
    conv => whnf
    try dsimp only [rowL, rowN, growOk, hiN, fromL, tightN, maxOk]
    try simp (disch := omega) only [wI, wU64, wU32, wU8, Int.toNat_natCast, toNat_succ, toNat_pred, Int.reduceToNat, Option.getD_some, Option.getD_none, Nat.sub_zero, Nat.zero_add]
    refine ⟨?_, ?_⟩
    · repeat' apply And.intro
      all_goals first
        | exact checkC (thereP rfl rfl rfl) hS
        | trivial
        | rfl
        | omega
        | ((try dsimp only [rowL, rowN]); simp only [beq_iff_eq, beq_eq_false_iff_ne, bne_iff_ne, bne_eq_false_iff_eq, decide_eq_true_eq, decide_eq_false_iff_not, ne_eq, Bool.not_eq_true', Bool.not_eq_false', Bool.not_eq_eq_eq_not, Bool.not_true, Bool.not_false, Option.some.injEq, Option.getD_some, Option.getD_none]; omega)
        | (simp; done)
        | (simp; omega)
    refine SG.ret tab_ok Try.func30 rfl ?_
    intro ρ w' v hm hv
    exact Post.mk hm (.cv (.one (.lb true))) [] none [] hv rfl rows0 rfl (by simp)
theorem mayOk {a b c : Nat} {P : List Pa} {S : List RW} {C : List Ch} {F i : Int} (h : PlanAt Rs a b c P S C) (hS : okS S) (hb : thereB P F S C i = true) : CallOk Try.prog W B Rs 30 [planV a F b c, intV i] (hdB true) := by
  have := mayC (W := W) (B := B) (F := F) (i := i) h hS
  rw [hb] at this
  exact this
set_option maxHeartbeats 4000000 in
set_option maxRecDepth 100000 in
theorem cycleC {a b c : Nat} {P : List Pa} {S : List RW} {C : List Ch} {F t : Int} (h : PlanAt Rs a b c P S C) (hF : 1 ≤ F ∧ F ≤ 4096) (ht : 0 ≤ t ∧ t ≤ 18446744073709551615) : CallOk Try.prog W B Rs 21 [planV a F b c, u64V t] (hdInt (cyN F t)) := by
  obtain ⟨c1, c2, c3, c4⟩ := cyN_ok hF ht
  refine CallOk.enter Try.func21 (by kernel_rfl) rfl [a, b, c] [rowPa P, rowWs S, rowCh C] [planV 0 F 1 2, u64V t] rfl h.rows (fun r h => by cases h) rfl rfl ?_
  intro w blk hblk
  refine SG.walk tab_ok mx 400 [] [] ?_
  conv => whnf
  try dsimp only [rowL, rowN, growOk, hiN, fromL, tightN, maxOk]
  try simp (disch := omega) only [wI, wU64, wU32, wU8, Int.toNat_natCast, toNat_succ, toNat_pred, Int.reduceToNat, Option.getD_some, Option.getD_none, Nat.sub_zero, Nat.zero_add]
  refine ⟨?_, ?_⟩
  · repeat' apply And.intro
    all_goals first
      | trivial
      | rfl
      | omega
      | ((try dsimp only [rowL, rowN]); simp only [beq_iff_eq, beq_eq_false_iff_ne, bne_iff_ne, bne_eq_false_iff_eq, decide_eq_true_eq, decide_eq_false_iff_not, ne_eq, Bool.not_eq_true', Bool.not_eq_false', Bool.not_eq_eq_eq_not, Bool.not_true, Bool.not_false, Option.some.injEq, Option.getD_some, Option.getD_none]; omega)
      | (simp; done)
      | (simp; omega)
  rw [show t.tmod F = cyN F t from rfl, c4]
  refine SG.ret tab_ok Try.func21 rfl ?_
  intro ρ w' v hm hv
  exact Post.mk hm (intV (cyN F t)) [] none [] hv rfl rows0 rfl (by simp)
set_option maxHeartbeats 4000000 in
set_option maxRecDepth 100000 in
theorem atC {a b c : Nat} {P : List Pa} {S : List RW} {C : List Ch} {F i t : Int} (h : PlanAt Rs a b c P S C) (hS : okS S) (ht : 0 ≤ t ∧ t ≤ 18446744073709551615) :
    CallOk Try.prog W B Rs 11 [planV a F b c, intV i, u64V t] (mkHd (.tup [.one (aI (cycS P F S C i (cyN F t)).1), .one (aI (cycS P F S C i (cyN F t)).2)]) []) := by
  refine CallOk.enter Try.func11 (by kernel_rfl) rfl [a, b, c] [rowPa P, rowWs S, rowCh C] [planV 0 F 1 2, intV i, u64V t] rfl h.rows (fun r h => by cases h) rfl rfl ?_
  intro w blk hblk
  refine SG.walk tab_ok mx 400 [] [] ?_
  conv => whnf
  try dsimp only [rowL, rowN, growOk, hiN, fromL, tightN, maxOk]
  refine ⟨?_, ?_⟩
  · trivial
  refine SG.inline rfl rfl rfl Try.func20 (by kernel_rfl) rfl ?_
  intro Wg Rg hbg
  refine SG.norm ?_
  conv => whnf
  refine SG.walk tab_ok mx 400 [] [] ?_
  conv => whnf
  try dsimp only [rowL, rowN, growOk, hiN, fromL, tightN, maxOk]
  refine ⟨?_, ?_⟩
  · trivial
  refine SG.back hbg tab_ok Try.func20 rfl (Nat.le_of_ble_eq_true rfl) ?_
  refine SG.norm ?_
  conv => whnf
  refine SG.walk tab_ok mx 400 [] [] ?_
  conv => whnf
  try dsimp only [rowL, rowN, growOk, hiN, fromL, tightN, maxOk]
  refine ⟨?_, ?_⟩
  · trivial
  refine SG.range rfl rfl Try.func29 (by kernel_rfl) rfl ?_
  intro Dq lq Lq Rq hlq
  refine SG.norm ?_
  conv => whnf
  by_cases hb : thereB P F S C i = true
  · have T := There.of hb
    have t0 := T.i0
    have t1 := T.i1
    have t2 := T.i2
    have t3 := T.s3
    have hF : 1 ≤ F ∧ F ≤ 4096 := ⟨T.F1, T.F2⟩
    have t8 := T.l8
    obtain ⟨c1, c2, c3, c4⟩ := cyN_ok hF ht
    have ec : cycS P F S C i (cyN F t) = cyc (cyN F t) (S.getD i.toNat rw0).L := by unfold cycS; rw [if_pos hb]; rfl
    refine SG.walk tab_ok mx 400 [true] [hdB true] ?_
    conv => whnf
    try dsimp only [rowL, rowN, growOk, hiN, fromL, tightN, maxOk]
    refine ⟨?_, ?_⟩
    · exact ⟨⟨by omega, by omega⟩, ⟨by omega, by omega⟩, mayOk (thereP rfl rfl rfl) hS hb⟩
    refine SG.loop (fun k : Nat => ⟨puts (List.replicate (Try.f29).ntmps .any) [(0, yieldOf lq), (14, rwV (S.getD i.toNat rw0)), (15, intV (S.getD i.toNat rw0).L.length), (16, intV k)], [some [.rs 0, aI F, .rs 1, .rs 2], some [.v (.int .u64 t)], some [aI 0], some [aI 0]], [some (rowPa P), some (rowWs S), some (rowCh C)], puts (List.replicate (Try.f11).ntmps .any) [(3, bpV 0), (5, bpV 1), (6, bpV 2), (7, bpV 3)]⟩) (fun k => k ≤ (S.getD i.toNat rw0).L.length ∧ cyc (cyN F t) (S.getD i.toNat rw0).L = cyc (cyN F t) ((S.getD i.toNat rw0).L.drop k)) (fun k => (S.getD i.toNat rw0).L.length - k) (0) (⟨Nat.zero_le _, rfl⟩) (fun h => SG.sub [0, 1, 2, 3] [0, 1, 2] ⟨?_, ?_, ?_, by decide, rfl, rfl, rfl, ?_⟩ h) ?_
    · repeat' (first | exact trivial | exact rfl | refine And.intro ?_ ?_)
    · repeat' (first | exact trivial | exact rfl | refine And.intro ?_ ?_)
    · repeat' (first | exact trivial | refine ⟨⟨_, rfl, ⟨rfl, rfl, .inl rfl, (fun h => by first | exact h | cases h), (fun h => by first | exact h | cases h), fun _ _ => rfl⟩, fun _ _ => rfl⟩, ?_⟩ | refine ⟨⟨_, rfl, ⟨rfl, rfl, .inr rfl, (fun h => by first | exact h | cases h), (fun h => by first | exact h | cases h), fun _ _ => rfl⟩, fun _ _ => rfl⟩, ?_⟩ | refine ⟨⟨_, rfl, ⟨rfl, rfl, .inr rfl, (fun h => by first | exact h | cases h), (fun h => by first | exact h | cases h), fun i hi => absurd hi (Nat.not_lt_zero i)⟩, fun i hi => absurd hi (Nat.not_lt_zero i)⟩, ?_⟩ | refine ⟨⟨_, rfl, ⟨rfl, rfl, .inl rfl, (fun h => by first | exact h | cases h), (fun h => by first | exact h | cases h), fun i hi => ren_closed (hQc i hi)⟩, fun i hi => inn_closed (hQc i hi)⟩, ?_⟩)
    · repeat' (first | exact trivial | exact rfl | refine And.intro ?_ ?_)
    rintro k ⟨hk, hc⟩ next
    by_cases hlt : k < (S.getD i.toNat rw0).L.length
    · obtain ⟨v1, v2, v3, v4, v5⟩ := T.ws _ (getD_mem' (d := wn0) hlt)
      rw [drop_getD (d := wn0) hlt, cyc] at hc
      refine SG.walk tab_ok mx 400 [true] [] ?_
      conv => whnf
      try dsimp only [rowL, rowN, growOk, hiN, fromL, tightN, maxOk]
      refine ⟨?_, ?_⟩
      · repeat' apply And.intro
        all_goals first
          | trivial
          | rfl
          | omega
          | ((try dsimp only [rowL, rowN]); simp only [beq_iff_eq, beq_eq_false_iff_ne, bne_iff_ne, bne_eq_false_iff_eq, decide_eq_true_eq, decide_eq_false_iff_not, ne_eq, Bool.not_eq_true', Bool.not_eq_false', Bool.not_eq_eq_eq_not, Bool.not_true, Bool.not_false, Option.some.injEq, Option.getD_some, Option.getD_none]; omega)
          | (simp; done)
          | (simp; omega)
      refine SG.round hlq rfl rfl rfl rfl rfl rfl rfl ?_
      intro Ty Ry hyy
      refine SG.norm ?_
      conv => whnf
      refine SG.walk tab_ok mx 400 [] [] ?_
      conv => whnf
      try dsimp only [rowL, rowN, growOk, hiN, fromL, tightN, maxOk]
      refine ⟨?_, ?_⟩
      · trivial
      refine SG.begin_ hlq rfl rfl ?_
      have hwr : IntKind.i64.wrap (cyN F t - ((S.getD i.toNat rw0).L.getD k wn0).f) = cyN F t - ((S.getD i.toNat rw0).L.getD k wn0).f := wI (by omega) (by omega)
      by_cases g1 : cyN F t < ((S.getD i.toNat rw0).L.getD k wn0).f
      · rw [if_neg (by omega)] at hc
        refine SG.walk tab_ok mx 400 [true] [hdInt (cyN F t)] ?_
        conv => whnf
        try dsimp only [rowL, rowN, growOk, hiN, fromL, tightN, maxOk]
        refine ⟨?_, ?_⟩
        · simp only [Int.toNat_natCast, hwr]
          repeat' apply And.intro
          all_goals first
            | exact cycleC (thereP rfl rfl rfl) hF ht
            | trivial
            | rfl
            | omega
            | ((try dsimp only [rowL, rowN]); simp only [beq_iff_eq, beq_eq_false_iff_ne, bne_iff_ne, bne_eq_false_iff_eq, decide_eq_true_eq, decide_eq_false_iff_not, ne_eq, Bool.not_eq_true', Bool.not_eq_false', Bool.not_eq_eq_eq_not, Bool.not_true, Bool.not_false, Option.some.injEq, Option.getD_some, Option.getD_none]; omega)
            | (simp; done)
            | (simp; omega)
        refine SG.rend hlq hyy rfl rfl (Nat.le_of_ble_eq_true rfl) ?_
        refine SG.norm ?_
        conv => whnf
        refine SG.walk tab_ok mx 400 [] [] ?_
        conv => whnf
        try dsimp only [rowL, rowN, growOk, hiN, fromL, tightN, maxOk]
        refine ⟨?_, ?_⟩
        · trivial
        rw [show IntKind.i64.wrap ((k : Int) + 1) = ((k + 1 : Nat) : Int) from by rw [wI (by omega) (by omega)]; simp]
        refine SG.sub [0, 1, 2, 3] [0, 1, 2] ⟨?_, ?_, ?_, by decide, rfl, rfl, rfl, ?_⟩ (next (k + 1) ⟨hlt, hc⟩ (by omega))
        · repeat' (first | exact trivial | exact rfl | refine And.intro ?_ ?_)
        · repeat' (first | exact trivial | exact rfl | refine And.intro ?_ ?_)
        · repeat' (first | exact trivial | refine ⟨⟨_, rfl, ⟨rfl, rfl, .inl rfl, (fun h => by first | exact h | cases h), (fun h => by first | exact h | cases h), fun _ _ => rfl⟩, fun _ _ => rfl⟩, ?_⟩ | refine ⟨⟨_, rfl, ⟨rfl, rfl, .inr rfl, (fun h => by first | exact h | cases h), (fun h => by first | exact h | cases h), fun _ _ => rfl⟩, fun _ _ => rfl⟩, ?_⟩ | refine ⟨⟨_, rfl, ⟨rfl, rfl, .inr rfl, (fun h => by first | exact h | cases h), (fun h => by first | exact h | cases h), fun i hi => absurd hi (Nat.not_lt_zero i)⟩, fun i hi => absurd hi (Nat.not_lt_zero i)⟩, ?_⟩ | refine ⟨⟨_, rfl, ⟨rfl, rfl, .inl rfl, (fun h => by first | exact h | cases h), (fun h => by first | exact h | cases h), fun i hi => ren_closed (hQc i hi)⟩, fun i hi => inn_closed (hQc i hi)⟩, ?_⟩)
        · repeat' (first | exact trivial | exact rfl | refine And.intro ?_ ?_)
      by_cases g2 : cyN F t ≥ ((S.getD i.toNat rw0).L.getD k wn0).f + ((S.getD i.toNat rw0).L.getD k wn0).l
      · rw [if_neg (by omega)] at hc
        refine SG.walk tab_ok mx 400 [false, true] [hdInt (cyN F t)] ?_
        conv => whnf
        try dsimp only [rowL, rowN, growOk, hiN, fromL, tightN, maxOk]
        refine ⟨?_, ?_⟩
        · simp only [Int.toNat_natCast, hwr]
          repeat' apply And.intro
          all_goals first
            | exact cycleC (thereP rfl rfl rfl) hF ht
            | trivial
            | rfl
            | omega
            | ((try dsimp only [rowL, rowN]); simp only [beq_iff_eq, beq_eq_false_iff_ne, bne_iff_ne, bne_eq_false_iff_eq, decide_eq_true_eq, decide_eq_false_iff_not, ne_eq, Bool.not_eq_true', Bool.not_eq_false', Bool.not_eq_eq_eq_not, Bool.not_true, Bool.not_false, Option.some.injEq, Option.getD_some, Option.getD_none]; omega)
            | (simp; done)
            | (simp; omega)
        refine SG.rend hlq hyy rfl rfl (Nat.le_of_ble_eq_true rfl) ?_
        refine SG.norm ?_
        conv => whnf
        refine SG.walk tab_ok mx 400 [] [] ?_
        conv => whnf
        try dsimp only [rowL, rowN, growOk, hiN, fromL, tightN, maxOk]
        refine ⟨?_, ?_⟩
        · trivial
        rw [show IntKind.i64.wrap ((k : Int) + 1) = ((k + 1 : Nat) : Int) from by rw [wI (by omega) (by omega)]; simp]
        refine SG.sub [0, 1, 2, 3] [0, 1, 2] ⟨?_, ?_, ?_, by decide, rfl, rfl, rfl, ?_⟩ (next (k + 1) ⟨hlt, hc⟩ (by omega))
        · repeat' (first | exact trivial | exact rfl | refine And.intro ?_ ?_)
        · repeat' (first | exact trivial | exact rfl | refine And.intro ?_ ?_)
        · repeat' (first | exact trivial | refine ⟨⟨_, rfl, ⟨rfl, rfl, .inl rfl, (fun h => by first | exact h | cases h), (fun h => by first | exact h | cases h), fun _ _ => rfl⟩, fun _ _ => rfl⟩, ?_⟩ | refine ⟨⟨_, rfl, ⟨rfl, rfl, .inr rfl, (fun h => by first | exact h | cases h), (fun h => by first | exact h | cases h), fun _ _ => rfl⟩, fun _ _ => rfl⟩, ?_⟩ | refine ⟨⟨_, rfl, ⟨rfl, rfl, .inr rfl, (fun h => by first | exact h | cases h), (fun h => by first | exact h | cases h), fun i hi => absurd hi (Nat.not_lt_zero i)⟩, fun i hi => absurd hi (Nat.not_lt_zero i)⟩, ?_⟩ | refine ⟨⟨_, rfl, ⟨rfl, rfl, .inl rfl, (fun h => by first | exact h | cases h), (fun h => by first | exact h | cases h), fun i hi => ren_closed (hQc i hi)⟩, fun i hi => inn_closed (hQc i hi)⟩, ?_⟩)
        · repeat' (first | exact trivial | exact rfl | refine And.intro ?_ ?_)
      rw [if_pos (by omega)] at hc
      by_cases g3 : cyN F t < ((S.getD i.toNat rw0).L.getD k wn0).f + 2
      · rw [if_pos g3] at hc
        refine SG.walk tab_ok mx 400 [false, false, true] [hdInt (cyN F t)] ?_
        conv => whnf
        try dsimp only [rowL, rowN, growOk, hiN, fromL, tightN, maxOk]
        refine ⟨?_, ?_⟩
        · simp only [Int.toNat_natCast, hwr]
          repeat' apply And.intro
          all_goals first
            | exact cycleC (thereP rfl rfl rfl) hF ht
            | trivial
            | rfl
            | omega
            | ((try dsimp only [rowL, rowN]); simp only [beq_iff_eq, beq_eq_false_iff_ne, bne_iff_ne, bne_eq_false_iff_eq, decide_eq_true_eq, decide_eq_false_iff_not, ne_eq, Bool.not_eq_true', Bool.not_eq_false', Bool.not_eq_eq_eq_not, Bool.not_true, Bool.not_false, Option.some.injEq, Option.getD_some, Option.getD_none]; omega)
            | (simp; done)
            | (simp; omega)
        simp only [Int.toNat_natCast]
        refine SG.rret hlq hyy rfl rfl (Nat.le_of_ble_eq_true rfl) ?_
        refine SG.norm ?_
        conv => whnf
        refine SG.walk tab_ok mx 400 [] [] ?_
        conv => whnf
        try dsimp only [rowL, rowN, growOk, hiN, fromL, tightN, maxOk]
        refine ⟨?_, ?_⟩
        · trivial
        refine SG.rover hlq tab_ok Try.func29 rfl rfl (Nat.le_of_ble_eq_true rfl) ?_
        refine SG.norm ?_
        conv => whnf
        refine SG.walk tab_ok mx 400 [] [] ?_
        conv => whnf
        try dsimp only [rowL, rowN, growOk, hiN, fromL, tightN, maxOk]
        refine ⟨?_, ?_⟩
        · trivial
        rw [ec, hc]
        refine SG.ret tab_ok Try.func11 rfl ?_
        intro ρ w' v hm hv
        exact Post.mk hm (.tup [.one (aI ((S.getD i.toNat rw0).L.getD k wn0).p), .one (aI 1)]) [] none [] hv rfl rows0 rfl (by simp)
      · rw [if_neg g3] at hc
        refine SG.walk tab_ok mx 400 [false, false, false] [hdInt (cyN F t)] ?_
        conv => whnf
        try dsimp only [rowL, rowN, growOk, hiN, fromL, tightN, maxOk]
        refine ⟨?_, ?_⟩
        · simp only [Int.toNat_natCast, hwr]
          repeat' apply And.intro
          all_goals first
            | exact cycleC (thereP rfl rfl rfl) hF ht
            | trivial
            | rfl
            | omega
            | ((try dsimp only [rowL, rowN]); simp only [beq_iff_eq, beq_eq_false_iff_ne, bne_iff_ne, bne_eq_false_iff_eq, decide_eq_true_eq, decide_eq_false_iff_not, ne_eq, Bool.not_eq_true', Bool.not_eq_false', Bool.not_eq_eq_eq_not, Bool.not_true, Bool.not_false, Option.some.injEq, Option.getD_some, Option.getD_none]; omega)
            | (simp; done)
            | (simp; omega)
        simp only [Int.toNat_natCast]
        refine SG.rret hlq hyy rfl rfl (Nat.le_of_ble_eq_true rfl) ?_
        refine SG.norm ?_
        conv => whnf
        refine SG.walk tab_ok mx 400 [] [] ?_
        conv => whnf
        try dsimp only [rowL, rowN, growOk, hiN, fromL, tightN, maxOk]
        refine ⟨?_, ?_⟩
        · trivial
        refine SG.rover hlq tab_ok Try.func29 rfl rfl (Nat.le_of_ble_eq_true rfl) ?_
        refine SG.norm ?_
        conv => whnf
        refine SG.walk tab_ok mx 400 [] [] ?_
        conv => whnf
        try dsimp only [rowL, rowN, growOk, hiN, fromL, tightN, maxOk]
        refine ⟨?_, ?_⟩
        · trivial
        rw [ec, hc]
        refine SG.ret tab_ok Try.func11 rfl ?_
        intro ρ w' v hm hv
        exact Post.mk hm (.tup [.one (aI ((S.getD i.toNat rw0).L.getD k wn0).p), .one (aI 2)]) [] none [] hv rfl rows0 rfl (by simp)
    · rw [List.drop_eq_nil_of_le (by omega), cyc] at hc
      refine SG.walk tab_ok mx 400 [false] [] ?_
      conv => whnf
      try dsimp only [rowL, rowN, growOk, hiN, fromL, tightN, maxOk]
      refine ⟨?_, ?_⟩
      · repeat' apply And.intro
        all_goals first
          | trivial
          | rfl
          | omega
          | ((try dsimp only [rowL, rowN]); simp only [beq_iff_eq, beq_eq_false_iff_ne, bne_iff_ne, bne_eq_false_iff_eq, decide_eq_true_eq, decide_eq_false_iff_not, ne_eq, Bool.not_eq_true', Bool.not_eq_false', Bool.not_eq_eq_eq_not, Bool.not_true, Bool.not_false, Option.some.injEq, Option.getD_some, Option.getD_none]; omega)
          | (simp; done)
          | (simp; omega)
      refine SG.routEnd hlq tab_ok Try.func29 rfl rfl (Nat.le_of_ble_eq_true rfl) ?_
      refine SG.norm ?_
      conv => whnf
      refine SG.walk tab_ok mx 400 [] [] ?_
      conv => whnf
      try dsimp only [rowL, rowN, growOk, hiN, fromL, tightN, maxOk]
      refine ⟨?_, ?_⟩
      · trivial
      rw [ec, hc]
      refine SG.ret tab_ok Try.func11 rfl ?_
      intro ρ w' v hm hv
      exact Post.mk hm (.tup [.one (aI (-1)), .one (aI 0)]) [] none [] hv rfl rows0 rfl (by simp)
  · have ec : cycS P F S C i (cyN F t) = (-1, 0) := by unfold cycS; rw [if_neg hb]
    have hm : ∀ {W : Base} {B : List (Option (List At))} {Rs : List (Option Row)} {a b c : Nat}, PlanAt Rs a b c P S C → CallOk Try.prog W B Rs 30 [planV a F b c, intV i] (hdB false) := fun h => by
      have := mayC (F := F) (i := i) h hS (W := ‹_›) (B := ‹_›)
      rw [Bool.eq_false_iff.2 hb] at this
      exact this
    refine SG.walk tab_ok mx 400 [] [hdB false] ?_
    conv => whnf
    try dsimp only [rowL, rowN, growOk, hiN, fromL, tightN, maxOk]
    refine ⟨?_, ?_⟩
    · repeat' apply And.intro
      all_goals first
        | exact hm (thereP rfl rfl rfl)
        | trivial
        | rfl
        | omega
        | ((try dsimp only [rowL, rowN]); simp only [beq_iff_eq, beq_eq_false_iff_ne, bne_iff_ne, bne_eq_false_iff_eq, decide_eq_true_eq, decide_eq_false_iff_not, ne_eq, Bool.not_eq_true', Bool.not_eq_false', Bool.not_eq_eq_eq_not, Bool.not_true, Bool.not_false, Option.some.injEq, Option.getD_some, Option.getD_none]; omega)
        | (simp; done)
        | (simp; omega)
    refine SG.rout hlq tab_ok Try.func29 rfl rfl (Nat.le_of_ble_eq_true rfl) ?_
    refine SG.norm ?_
    conv => whnf
    refine SG.walk tab_ok mx 400 [] [] ?_
    conv => whnf
    try dsimp only [rowL, rowN, growOk, hiN, fromL, tightN, maxOk]
    refine ⟨?_, ?_⟩
    · trivial
    rw [ec]
    refine SG.ret tab_ok Try.func11 rfl ?_
    intro ρ w' v hm hv
    exact Post.mk hm (.tup [.one (aI (-1)), .one (aI 0)]) [] none [] hv rfl rows0 rfl (by simp)
end
end Go.Proofs.Ytpnfjkkofdlndaa
