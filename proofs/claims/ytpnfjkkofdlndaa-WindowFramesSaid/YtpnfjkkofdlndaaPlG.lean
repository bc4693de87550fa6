/- Windows: whose a cycle is, as the document says: on. -/
import Derived.Test.YtpnfjkkofdlndaaPlF
namespace Go.Proofs.Ytpnfjkkofdlndaa
open Go.Sx Go.RowKit
set_option linter.unusedVariables false
set_option linter.unusedSimpArgs false
section
variable {W : Base} {B : List (Option (List At))} {Rs : List (Option Row)}
set_option maxHeartbeats 4000000 in
set_option maxRecDepth 100000 in
theorem rAtC {a b c : Nat} {P : List Pa} {S : List RW} {C : List Ch} {F i t : Int} (h : PlanAt Rs a b c P S C) (hS : okS S) (hSl : S.length ≤ 9223372036854775807) (ht : 0 ≤ t ∧ t ≤ 18446744073709551615) : CallOk Try.prog W B Rs 12 [planV a F b c, intV i, u64V t] (mkHd (.tup [.one (aI (cycS P F S C i (cyN F t)).1), .one (aI (cycS P F S C i (cyN F t)).2)]) []) := by
  by_cases hb : thereB P F S C i = true
  · have hb' : (!thereB P F S C i) = false := by simp [hb]
    have T := There.of hb
    have hF : 1 ≤ F ∧ F ≤ 4096 := ⟨T.F1, T.F2⟩
    obtain ⟨c1, c2, c3, c4⟩ := cyN_ok hF ht
    refine CallOk.enter Try.func12 (by kernel_rfl) rfl [a, b, c] [rowPa P, rowWs S, rowCh C] [planV 0 F 1 2, intV i, u64V t] rfl h.rows (fun r h => by cases h) rfl rfl ?_
    intro w blk hblk
    refine SG.walk tab_ok mx 400 [false] [hdV (thereB P F S C i), mkHd (.tup [.one (aI (cycS P F S C i (cyN F t)).1), .one (aI (cycS P F S C i (cyN F t)).2)]) []] ?_
    conv => whnf
    try dsimp only [rowL, rowN, growOk, hiN, fromL, tightN, maxOk]
    refine ⟨?_, ?_⟩
    · simp only [c3, show t.tmod F = cyN F t from rfl, c4]
      repeat' apply And.intro
      all_goals first
        | exact rThereC (thereP rfl rfl rfl) hS hSl
        | exact hb'
        | exact rCycleC (thereP rfl rfl rfl) hS hSl
        | trivial
        | rfl
        | omega
        | ((try dsimp only [rowL, rowN]); simp only [beq_iff_eq, beq_eq_false_iff_ne, bne_iff_ne, bne_eq_false_iff_eq, decide_eq_true_eq, decide_eq_false_iff_not, ne_eq, Bool.not_eq_true', Bool.not_eq_false', Bool.not_eq_eq_eq_not, Bool.not_true, Bool.not_false, Option.some.injEq, Option.getD_some, Option.getD_none]; omega)
        | (simp; done)
        | (simp; omega)
    refine SG.ret tab_ok Try.func12 rfl ?_
    intro ρ w' v hm hv
    exact Post.mk hm (.tup [.one (aI (cycS P F S C i (cyN F t)).1), .one (aI (cycS P F S C i (cyN F t)).2)]) [] none [] hv rfl rows0 rfl (by simp)
  · have hb' : (!thereB P F S C i) = true := by simp [hb]
    have e : ∀ n, cycS P F S C i n = (-1, 0) := fun n => by unfold cycS; rw [if_neg hb]
    rw [e]
    refine CallOk.enter Try.func12 (by kernel_rfl) rfl [a, b, c] [rowPa P, rowWs S, rowCh C] [planV 0 F 1 2, intV i, u64V t] rfl h.rows (fun r h => by cases h) rfl rfl ?_
    intro w blk hblk
    refine SG.walk tab_ok mx 400 [true] [hdV (thereB P F S C i)] ?_
    conv => whnf
    try dsimp only [rowL, rowN, growOk, hiN, fromL, tightN, maxOk]
    try simp (disch := omega) only [wI, wU64, wU32, wU8, Int.toNat_natCast, toNat_succ, toNat_pred, Int.reduceToNat, Option.getD_some, Option.getD_none, Nat.sub_zero, Nat.zero_add]
    refine ⟨?_, ?_⟩
    · repeat' apply And.intro
      all_goals first
        | exact rThereC (thereP rfl rfl rfl) hS hSl
        | exact hb'
        | trivial
        | rfl
        | omega
        | ((try dsimp only [rowL, rowN]); simp only [beq_iff_eq, beq_eq_false_iff_ne, bne_iff_ne, bne_eq_false_iff_eq, decide_eq_true_eq, decide_eq_false_iff_not, ne_eq, Bool.not_eq_true', Bool.not_eq_false', Bool.not_eq_eq_eq_not, Bool.not_true, Bool.not_false, Option.some.injEq, Option.getD_some, Option.getD_none]; omega)
        | (simp; done)
        | (simp; omega)
    refine SG.ret tab_ok Try.func12 rfl ?_
    intro ρ w' v hm hv
    exact Post.mk hm (.tup [.one (aI (-1)), .one (aI 0)]) [] none [] hv rfl rows0 rfl (by simp)
set_option maxHeartbeats 4000000 in
set_option maxRecDepth 100000 in
theorem rStartsC {a b c : Nat} {P : List Pa} {S : List RW} {C : List Ch} {F i t : Int} (h : PlanAt Rs a b c P S C) (hS : okS S) (hSl : S.length ≤ 9223372036854775807) (ht : 0 ≤ t ∧ t ≤ 18446744073709551615) : CallOk Try.prog W B Rs 14 [planV a F b c, intV i, u64V t] (hdB (stS P F S C i t)) := by
  by_cases hb : thereB P F S C i = true
  · have hb' : (!thereB P F S C i) = false := by simp [hb]
    have T := There.of hb
    have hF : 1 ≤ F ∧ F ≤ 4096 := ⟨T.F1, T.F2⟩
    obtain ⟨c1, c2, c3, c4⟩ := cyN_ok hF ht
    unfold stS winsOf
    rw [hb, Bool.true_and]
    refine CallOk.enter Try.func14 (by kernel_rfl) rfl [a, b, c] [rowPa P, rowWs S, rowCh C] [planV 0 F 1 2, intV i, u64V t] rfl h.rows (fun r h => by cases h) rfl rfl ?_
    intro w blk hblk
    refine SG.walk tab_ok mx 400 [false] [hdV (thereB P F S C i)] ?_
    conv => whnf
    try dsimp only [rowL, rowN, growOk, hiN, fromL, tightN, maxOk]
    refine ⟨?_, ?_⟩
    · simp only [c3, show t.tmod F = cyN F t from rfl, c4]
      repeat' apply And.intro
      all_goals first
        | exact rThereC (thereP rfl rfl rfl) hS hSl
        | exact hb'
        | trivial
        | rfl
        | omega
        | ((try dsimp only [rowL, rowN]); simp only [beq_iff_eq, beq_eq_false_iff_ne, bne_iff_ne, bne_eq_false_iff_eq, decide_eq_true_eq, decide_eq_false_iff_not, ne_eq, Bool.not_eq_true', Bool.not_eq_false', Bool.not_eq_eq_eq_not, Bool.not_true, Bool.not_false, Option.some.injEq, Option.getD_some, Option.getD_none]; omega)
        | (simp; done)
        | (simp; omega)
    simp only [c3, show t.tmod F = cyN F t from rfl, c4]
    refine SG.loop (fun k : Nat => ⟨puts (List.replicate (Try.f14).ntmps .any) [(0, planV 0 F 1 2), (1, intV i), (3, bpV 0), (8, intV (cyN F t)), (9, intV k)], [some [.rs 0, aI F, .rs 1, .rs 2]], [some (rowPa P), some (rowWs S), some (rowCh C)], []⟩) (fun k => k ≤ (S.getD i.toNat rw0).L.length ∧ starts (cyN F t) (S.getD i.toNat rw0).L = starts (cyN F t) ((S.getD i.toNat rw0).L.drop k)) (fun k => (S.getD i.toNat rw0).L.length - k) (0) (⟨Nat.zero_le _, rfl⟩) (fun h => SG.sub [0] [0, 1, 2] ⟨?_, ?_, ?_, by decide, rfl, rfl, rfl, ?_⟩ h) ?_
    · repeat' (first | exact trivial | exact rfl | refine And.intro ?_ ?_)
    · repeat' (first | exact trivial | exact rfl | refine And.intro ?_ ?_)
    · repeat' (first | exact trivial | refine ⟨⟨_, rfl, ⟨rfl, rfl, .inl rfl, (fun h => by first | exact h | cases h), (fun h => by first | exact h | cases h), fun _ _ => rfl⟩, fun _ _ => rfl⟩, ?_⟩ | refine ⟨⟨_, rfl, ⟨rfl, rfl, .inr rfl, (fun h => by first | exact h | cases h), (fun h => by first | exact h | cases h), fun _ _ => rfl⟩, fun _ _ => rfl⟩, ?_⟩ | refine ⟨⟨_, rfl, ⟨rfl, rfl, .inr rfl, (fun h => by first | exact h | cases h), (fun h => by first | exact h | cases h), fun i hi => absurd hi (Nat.not_lt_zero i)⟩, fun i hi => absurd hi (Nat.not_lt_zero i)⟩, ?_⟩ | refine ⟨⟨_, rfl, ⟨rfl, rfl, .inl rfl, (fun h => by first | exact h | cases h), (fun h => by first | exact h | cases h), fun i hi => ren_closed (hQc i hi)⟩, fun i hi => inn_closed (hQc i hi)⟩, ?_⟩)
    · repeat' (first | exact trivial | exact rfl | refine And.intro ?_ ?_)
    have t0 := T.i0
    have t1 := T.i1
    have t2 := T.i2
    rintro k ⟨hk, hc⟩ next
    have t8 := T.l8
    have tF := T.F2
    by_cases hlt : k < (S.getD i.toNat rw0).L.length
    · have hw := T.ws _ (getD_mem' (d := wn0) hlt)
      rw [drop_getD (d := wn0) hlt] at hc
      by_cases g1 : cyN F t = ((S.getD i.toNat rw0).L.getD k wn0).f
      · rw [hc, show starts (cyN F t) ((S.getD i.toNat rw0).L.getD k wn0 :: List.drop (k + 1) (S.getD i.toNat rw0).L) = true from by simp only [starts, List.any_cons, g1, beq_self_eq_true, Bool.true_or]]
        refine SG.walk tab_ok mx 400 [true, true] [] ?_
        conv => whnf
        try dsimp only [rowL, rowN, growOk, hiN, fromL, tightN, maxOk]
        try simp (disch := omega) only [wI, wU64, wU32, wU8, Int.toNat_natCast, toNat_succ, toNat_pred, Int.reduceToNat, Option.getD_some, Option.getD_none, Nat.sub_zero, Nat.zero_add]
        refine ⟨?_, ?_⟩
        · repeat' apply And.intro
          all_goals first
            | trivial
            | rfl
            | omega
            | ((try dsimp only [rowL, rowN]); simp only [beq_iff_eq, beq_eq_false_iff_ne, bne_iff_ne, bne_eq_false_iff_eq, decide_eq_true_eq, decide_eq_false_iff_not, ne_eq, Bool.not_eq_true', Bool.not_eq_false', Bool.not_eq_eq_eq_not, Bool.not_true, Bool.not_false, Option.some.injEq, Option.getD_some, Option.getD_none]; omega)
            | (simp; done)
            | (simp; omega)
        refine SG.ret tab_ok Try.func14 rfl ?_
        intro ρ w' v hm hv
        exact Post.mk hm (.cv (.one (.lb true))) [] none [] hv rfl rows0 rfl (by simp)
      · rw [show starts (cyN F t) ((S.getD i.toNat rw0).L.getD k wn0 :: List.drop (k + 1) (S.getD i.toNat rw0).L) = starts (cyN F t) (List.drop (k + 1) (S.getD i.toNat rw0).L) from by simp only [starts, List.any_cons, beq_eq_false_iff_ne.2 g1, Bool.false_or]] at hc
        refine SG.walk tab_ok mx 400 [true, false] [] ?_
        conv => whnf
        try dsimp only [rowL, rowN, growOk, hiN, fromL, tightN, maxOk]
        try simp (disch := omega) only [wI, wU64, wU32, wU8, Int.toNat_natCast, toNat_succ, toNat_pred, Int.reduceToNat, Option.getD_some, Option.getD_none, Nat.sub_zero, Nat.zero_add]
        refine ⟨?_, ?_⟩
        · repeat' apply And.intro
          all_goals first
            | trivial
            | rfl
            | omega
            | ((try dsimp only [rowL, rowN]); simp only [beq_iff_eq, beq_eq_false_iff_ne, bne_iff_ne, bne_eq_false_iff_eq, decide_eq_true_eq, decide_eq_false_iff_not, ne_eq, Bool.not_eq_true', Bool.not_eq_false', Bool.not_eq_eq_eq_not, Bool.not_true, Bool.not_false, Option.some.injEq, Option.getD_some, Option.getD_none]; omega)
            | (simp; done)
            | (simp; omega)
        refine SG.sub [0] [0, 1, 2] ⟨?_, ?_, ?_, by decide, rfl, rfl, rfl, ?_⟩ (next (k + 1) ⟨hlt, hc⟩ (by omega))
        · repeat' (first | exact trivial | exact rfl | refine And.intro ?_ ?_)
        · repeat' (first | exact trivial | exact rfl | refine And.intro ?_ ?_)
        · repeat' (first | exact trivial | refine ⟨⟨_, rfl, ⟨rfl, rfl, .inl rfl, (fun h => by first | exact h | cases h), (fun h => by first | exact h | cases h), fun _ _ => rfl⟩, fun _ _ => rfl⟩, ?_⟩ | refine ⟨⟨_, rfl, ⟨rfl, rfl, .inr rfl, (fun h => by first | exact h | cases h), (fun h => by first | exact h | cases h), fun _ _ => rfl⟩, fun _ _ => rfl⟩, ?_⟩ | refine ⟨⟨_, rfl, ⟨rfl, rfl, .inr rfl, (fun h => by first | exact h | cases h), (fun h => by first | exact h | cases h), fun i hi => absurd hi (Nat.not_lt_zero i)⟩, fun i hi => absurd hi (Nat.not_lt_zero i)⟩, ?_⟩ | refine ⟨⟨_, rfl, ⟨rfl, rfl, .inl rfl, (fun h => by first | exact h | cases h), (fun h => by first | exact h | cases h), fun i hi => ren_closed (hQc i hi)⟩, fun i hi => inn_closed (hQc i hi)⟩, ?_⟩)
        · repeat' (first | exact trivial | exact rfl | refine And.intro ?_ ?_)
    · rw [List.drop_eq_nil_of_le (by omega)] at hc
      rw [hc]
      refine SG.walk tab_ok mx 400 [false] [] ?_
      conv => whnf
      try dsimp only [rowL, rowN, growOk, hiN, fromL, tightN, maxOk]
      try simp (disch := omega) only [wI, wU64, wU32, wU8, Int.toNat_natCast, toNat_succ, toNat_pred, Int.reduceToNat, Option.getD_some, Option.getD_none, Nat.sub_zero, Nat.zero_add]
      refine ⟨?_, ?_⟩
      · repeat' apply And.intro
        all_goals first
          | trivial
          | rfl
          | omega
          | ((try dsimp only [rowL, rowN]); simp only [beq_iff_eq, beq_eq_false_iff_ne, bne_iff_ne, bne_eq_false_iff_eq, decide_eq_true_eq, decide_eq_false_iff_not, ne_eq, Bool.not_eq_true', Bool.not_eq_false', Bool.not_eq_eq_eq_not, Bool.not_true, Bool.not_false, Option.some.injEq, Option.getD_some, Option.getD_none]; omega)
          | (simp; done)
          | (simp; omega)
      refine SG.ret tab_ok Try.func14 rfl ?_
      intro ρ w' v hm hv
      exact Post.mk hm (.cv (.one (.lb false))) [] none [] hv rfl rows0 rfl (by simp)
  · have hb' : (!thereB P F S C i) = true := by simp [hb]
    have e : stS P F S C i t = false := by unfold stS; rw [Bool.eq_false_iff.2 hb]; rfl
    rw [e]
    refine CallOk.enter Try.func14 (by kernel_rfl) rfl [a, b, c] [rowPa P, rowWs S, rowCh C] [planV 0 F 1 2, intV i, u64V t] rfl h.rows (fun r h => by cases h) rfl rfl ?_
    intro w blk hblk
    refine SG.walk tab_ok mx 400 [true] [hdV (thereB P F S C i)] ?_
    conv => whnf
    try dsimp only [rowL, rowN, growOk, hiN, fromL, tightN, maxOk]
    try simp (disch := omega) only [wI, wU64, wU32, wU8, Int.toNat_natCast, toNat_succ, toNat_pred, Int.reduceToNat, Option.getD_some, Option.getD_none, Nat.sub_zero, Nat.zero_add]
    refine ⟨?_, ?_⟩
    · repeat' apply And.intro
      all_goals first
        | exact rThereC (thereP rfl rfl rfl) hS hSl
        | exact hb'
        | trivial
        | rfl
        | omega
        | ((try dsimp only [rowL, rowN]); simp only [beq_iff_eq, beq_eq_false_iff_ne, bne_iff_ne, bne_eq_false_iff_eq, decide_eq_true_eq, decide_eq_false_iff_not, ne_eq, Bool.not_eq_true', Bool.not_eq_false', Bool.not_eq_eq_eq_not, Bool.not_true, Bool.not_false, Option.some.injEq, Option.getD_some, Option.getD_none]; omega)
        | (simp; done)
        | (simp; omega)
    refine SG.ret tab_ok Try.func14 rfl ?_
    intro ρ w' v hm hv
    exact Post.mk hm (.cv (.one (.lb false))) [] none [] hv rfl rows0 rfl (by simp)
set_option maxHeartbeats 4000000 in
set_option maxRecDepth 100000 in
theorem rFrameC {a b c : Nat} {P : List Pa} {S : List RW} {C : List Ch} {F i part n : Int} (h : PlanAt Rs a b c P S C) (hS : okS S) (hSl : S.length ≤ 9223372036854775807) : CallOk Try.prog W B Rs 16 [planV a F b c, intV i, intV part, intV n] (hdInt (frS P F S C i part n)) := by
  by_cases hb : thereB P F S C i = true
  · have hb' : (!thereB P F S C i) = false := by simp [hb]
    have T := There.of hb
    have hF : 1 ≤ F ∧ F ≤ 4096 := ⟨T.F1, T.F2⟩
    unfold frS
    rw [if_pos hb]
    have hz : sumI part ((0 : Nat) : Int) (winsOf S i) = 0 := sumI_zero (fun w hw => (T.ws w hw).2.2.1) (by simp)
    refine CallOk.enter Try.func16 (by kernel_rfl) rfl [a, b, c] [rowPa P, rowWs S, rowCh C] [planV 0 F 1 2, intV i, intV part, intV n] rfl h.rows (fun r h => by cases h) rfl rfl ?_
    intro w blk hblk
    refine SG.walk tab_ok mx 400 [false] [hdV (thereB P F S C i)] ?_
    conv => whnf
    try dsimp only [rowL, rowN, growOk, hiN, fromL, tightN, maxOk]
    try simp (disch := omega) only [wI, wU64, wU32, wU8, Int.toNat_natCast, toNat_succ, toNat_pred, Int.reduceToNat, Option.getD_some, Option.getD_none, Nat.sub_zero, Nat.zero_add]
    refine ⟨?_, ?_⟩
    · repeat' apply And.intro
      all_goals first
        | exact rThereC (thereP rfl rfl rfl) hS hSl
        | exact hb'
        | trivial
        | rfl
        | omega
        | ((try dsimp only [rowL, rowN]); simp only [beq_iff_eq, beq_eq_false_iff_ne, bne_iff_ne, bne_eq_false_iff_eq, decide_eq_true_eq, decide_eq_false_iff_not, ne_eq, Bool.not_eq_true', Bool.not_eq_false', Bool.not_eq_eq_eq_not, Bool.not_true, Bool.not_false, Option.some.injEq, Option.getD_some, Option.getD_none]; omega)
        | (simp; done)
        | (simp; omega)
    refine SG.loop (fun km : Nat × Int => ⟨puts (List.replicate (Try.f16).ntmps .any) [(0, planV 0 F 1 2), (1, intV i), (2, intV part), (3, intV n), (4, bpV 0), (10, intV km.2), (11, intV km.1)], [some [.rs 0, aI F, .rs 1, .rs 2]], [some (rowPa P), some (rowWs S), some (rowCh C)], []⟩) (fun km => km.2 = sumI part km.1 (winsOf S i) ∧ (km.1 : Int) ≤ F ∧ (km.1 = 0 ∨ (km.1 : Int) ≤ n)) (fun km => F.toNat - km.1) ((0, 0)) (⟨hz.symm, by simp; omega, .inl rfl⟩) (fun h => SG.sub [0] [0, 1, 2] ⟨?_, ?_, ?_, by decide, rfl, rfl, rfl, ?_⟩ h) ?_
    · repeat' (first | exact trivial | exact rfl | refine And.intro ?_ ?_)
    · repeat' (first | exact trivial | exact rfl | refine And.intro ?_ ?_)
    · repeat' (first | exact trivial | refine ⟨⟨_, rfl, ⟨rfl, rfl, .inl rfl, (fun h => by first | exact h | cases h), (fun h => by first | exact h | cases h), fun _ _ => rfl⟩, fun _ _ => rfl⟩, ?_⟩ | refine ⟨⟨_, rfl, ⟨rfl, rfl, .inr rfl, (fun h => by first | exact h | cases h), (fun h => by first | exact h | cases h), fun _ _ => rfl⟩, fun _ _ => rfl⟩, ?_⟩ | refine ⟨⟨_, rfl, ⟨rfl, rfl, .inr rfl, (fun h => by first | exact h | cases h), (fun h => by first | exact h | cases h), fun i hi => absurd hi (Nat.not_lt_zero i)⟩, fun i hi => absurd hi (Nat.not_lt_zero i)⟩, ?_⟩ | refine ⟨⟨_, rfl, ⟨rfl, rfl, .inl rfl, (fun h => by first | exact h | cases h), (fun h => by first | exact h | cases h), fun i hi => ren_closed (hQc i hi)⟩, fun i hi => inn_closed (hQc i hi)⟩, ?_⟩)
    · repeat' (first | exact trivial | exact rfl | refine And.intro ?_ ?_)
    rintro ⟨k, m⟩ ⟨hm, hkF, hkn⟩ next
    dsimp only at hm hkF hkn next ⊢
    have hm1 := sumI_le (part := part) (n := (k : Int)) T.sc (Int.le_refl 0) (by omega)
    have hm0 := sumI_nn (part := part) (n := (k : Int)) (L := (S.getD i.toNat rw0).L) (fun w hw => (T.ws w hw).2.2.2.1)
    have hstep := sumI_step (part := part) (n := (k : Int)) (by omega) T.sc
    have hcs : cycS P F S C i k = cyc k (winsOf S i) := by unfold cycS; rw [if_pos hb]
    unfold winsOf at hm hcs
    rw [← hcs] at hstep
    by_cases g1 : (k : Int) < n
    · by_cases g2 : (k : Int) < F
      · by_cases g3 : (cycS P F S C i k).1 = part
        · by_cases g4 : (cycS P F S C i k).2 = 2
          · have hs' : m + 1 = sumI part ((k : Int) + 1) (S.getD i.toNat rw0).L := by rw [hstep, ownB, if_pos ⟨g3, g4⟩, hm]
            refine SG.walk tab_ok mx 400 [true, true, true, true] [mkHd (.tup [.one (aI (cycS P F S C i k).1), .one (aI (cycS P F S C i k).2)]) []] ?_
            conv => whnf
            try dsimp only [rowL, rowN, growOk, hiN, fromL, tightN, maxOk]
            try simp (disch := omega) only [wI, wU64, wU32, wU8, Int.toNat_natCast, toNat_succ, toNat_pred, Int.reduceToNat, Option.getD_some, Option.getD_none, Nat.sub_zero, Nat.zero_add]
            refine ⟨?_, ?_⟩
            · repeat' apply And.intro
              all_goals first
                | exact rCycleC (thereP rfl rfl rfl) hS hSl
                | trivial
                | rfl
                | omega
                | ((try dsimp only [rowL, rowN]); simp only [beq_iff_eq, beq_eq_false_iff_ne, bne_iff_ne, bne_eq_false_iff_eq, decide_eq_true_eq, decide_eq_false_iff_not, ne_eq, Bool.not_eq_true', Bool.not_eq_false', Bool.not_eq_eq_eq_not, Bool.not_true, Bool.not_false, Option.some.injEq, Option.getD_some, Option.getD_none]; omega)
                | (simp; done)
                | (simp; omega)
            refine SG.sub [0] [0, 1, 2] ⟨?_, ?_, ?_, by decide, rfl, rfl, rfl, ?_⟩ (next (k + 1, m + 1) ⟨hs', by simp; omega, .inr (by simp; omega)⟩ (by dsimp only; omega))
            · repeat' (first | exact trivial | exact rfl | refine And.intro ?_ ?_)
            · repeat' (first | exact trivial | exact rfl | refine And.intro ?_ ?_)
            · repeat' (first | exact trivial | refine ⟨⟨_, rfl, ⟨rfl, rfl, .inl rfl, (fun h => by first | exact h | cases h), (fun h => by first | exact h | cases h), fun _ _ => rfl⟩, fun _ _ => rfl⟩, ?_⟩ | refine ⟨⟨_, rfl, ⟨rfl, rfl, .inr rfl, (fun h => by first | exact h | cases h), (fun h => by first | exact h | cases h), fun _ _ => rfl⟩, fun _ _ => rfl⟩, ?_⟩ | refine ⟨⟨_, rfl, ⟨rfl, rfl, .inr rfl, (fun h => by first | exact h | cases h), (fun h => by first | exact h | cases h), fun i hi => absurd hi (Nat.not_lt_zero i)⟩, fun i hi => absurd hi (Nat.not_lt_zero i)⟩, ?_⟩ | refine ⟨⟨_, rfl, ⟨rfl, rfl, .inl rfl, (fun h => by first | exact h | cases h), (fun h => by first | exact h | cases h), fun i hi => ren_closed (hQc i hi)⟩, fun i hi => inn_closed (hQc i hi)⟩, ?_⟩)
            · repeat' (first | exact trivial | exact rfl | refine And.intro ?_ ?_)
          · have hs' : m = sumI part ((k : Int) + 1) (S.getD i.toNat rw0).L := by rw [hstep, ownB, if_neg (fun h => g4 h.2), hm]; simp
            refine SG.walk tab_ok mx 400 [true, true, true, false] [mkHd (.tup [.one (aI (cycS P F S C i k).1), .one (aI (cycS P F S C i k).2)]) []] ?_
            conv => whnf
            try dsimp only [rowL, rowN, growOk, hiN, fromL, tightN, maxOk]
            try simp (disch := omega) only [wI, wU64, wU32, wU8, Int.toNat_natCast, toNat_succ, toNat_pred, Int.reduceToNat, Option.getD_some, Option.getD_none, Nat.sub_zero, Nat.zero_add]
            refine ⟨?_, ?_⟩
            · repeat' apply And.intro
              all_goals first
                | exact rCycleC (thereP rfl rfl rfl) hS hSl
                | trivial
                | rfl
                | omega
                | ((try dsimp only [rowL, rowN]); simp only [beq_iff_eq, beq_eq_false_iff_ne, bne_iff_ne, bne_eq_false_iff_eq, decide_eq_true_eq, decide_eq_false_iff_not, ne_eq, Bool.not_eq_true', Bool.not_eq_false', Bool.not_eq_eq_eq_not, Bool.not_true, Bool.not_false, Option.some.injEq, Option.getD_some, Option.getD_none]; omega)
                | (simp; done)
                | (simp; omega)
            refine SG.sub [0] [0, 1, 2] ⟨?_, ?_, ?_, by decide, rfl, rfl, rfl, ?_⟩ (next (k + 1, m) ⟨hs', by simp; omega, .inr (by simp; omega)⟩ (by dsimp only; omega))
            · repeat' (first | exact trivial | exact rfl | refine And.intro ?_ ?_)
            · repeat' (first | exact trivial | exact rfl | refine And.intro ?_ ?_)
            · repeat' (first | exact trivial | refine ⟨⟨_, rfl, ⟨rfl, rfl, .inl rfl, (fun h => by first | exact h | cases h), (fun h => by first | exact h | cases h), fun _ _ => rfl⟩, fun _ _ => rfl⟩, ?_⟩ | refine ⟨⟨_, rfl, ⟨rfl, rfl, .inr rfl, (fun h => by first | exact h | cases h), (fun h => by first | exact h | cases h), fun _ _ => rfl⟩, fun _ _ => rfl⟩, ?_⟩ | refine ⟨⟨_, rfl, ⟨rfl, rfl, .inr rfl, (fun h => by first | exact h | cases h), (fun h => by first | exact h | cases h), fun i hi => absurd hi (Nat.not_lt_zero i)⟩, fun i hi => absurd hi (Nat.not_lt_zero i)⟩, ?_⟩ | refine ⟨⟨_, rfl, ⟨rfl, rfl, .inl rfl, (fun h => by first | exact h | cases h), (fun h => by first | exact h | cases h), fun i hi => ren_closed (hQc i hi)⟩, fun i hi => inn_closed (hQc i hi)⟩, ?_⟩)
            · repeat' (first | exact trivial | exact rfl | refine And.intro ?_ ?_)
        · have hs' : m = sumI part ((k : Int) + 1) (S.getD i.toNat rw0).L := by rw [hstep, ownB, if_neg (fun h => g3 h.1), hm]; simp
          refine SG.walk tab_ok mx 400 [true, true, false] [mkHd (.tup [.one (aI (cycS P F S C i k).1), .one (aI (cycS P F S C i k).2)]) []] ?_
          conv => whnf
          try dsimp only [rowL, rowN, growOk, hiN, fromL, tightN, maxOk]
          try simp (disch := omega) only [wI, wU64, wU32, wU8, Int.toNat_natCast, toNat_succ, toNat_pred, Int.reduceToNat, Option.getD_some, Option.getD_none, Nat.sub_zero, Nat.zero_add]
          refine ⟨?_, ?_⟩
          · repeat' apply And.intro
            all_goals first
              | exact rCycleC (thereP rfl rfl rfl) hS hSl
              | trivial
              | rfl
              | omega
              | ((try dsimp only [rowL, rowN]); simp only [beq_iff_eq, beq_eq_false_iff_ne, bne_iff_ne, bne_eq_false_iff_eq, decide_eq_true_eq, decide_eq_false_iff_not, ne_eq, Bool.not_eq_true', Bool.not_eq_false', Bool.not_eq_eq_eq_not, Bool.not_true, Bool.not_false, Option.some.injEq, Option.getD_some, Option.getD_none]; omega)
              | (simp; done)
              | (simp; omega)
          refine SG.sub [0] [0, 1, 2] ⟨?_, ?_, ?_, by decide, rfl, rfl, rfl, ?_⟩ (next (k + 1, m) ⟨hs', by simp; omega, .inr (by simp; omega)⟩ (by dsimp only; omega))
          · repeat' (first | exact trivial | exact rfl | refine And.intro ?_ ?_)
          · repeat' (first | exact trivial | exact rfl | refine And.intro ?_ ?_)
          · repeat' (first | exact trivial | refine ⟨⟨_, rfl, ⟨rfl, rfl, .inl rfl, (fun h => by first | exact h | cases h), (fun h => by first | exact h | cases h), fun _ _ => rfl⟩, fun _ _ => rfl⟩, ?_⟩ | refine ⟨⟨_, rfl, ⟨rfl, rfl, .inr rfl, (fun h => by first | exact h | cases h), (fun h => by first | exact h | cases h), fun _ _ => rfl⟩, fun _ _ => rfl⟩, ?_⟩ | refine ⟨⟨_, rfl, ⟨rfl, rfl, .inr rfl, (fun h => by first | exact h | cases h), (fun h => by first | exact h | cases h), fun i hi => absurd hi (Nat.not_lt_zero i)⟩, fun i hi => absurd hi (Nat.not_lt_zero i)⟩, ?_⟩ | refine ⟨⟨_, rfl, ⟨rfl, rfl, .inl rfl, (fun h => by first | exact h | cases h), (fun h => by first | exact h | cases h), fun i hi => ren_closed (hQc i hi)⟩, fun i hi => inn_closed (hQc i hi)⟩, ?_⟩)
          · repeat' (first | exact trivial | exact rfl | refine And.intro ?_ ?_)
      · have he : sumI part n (winsOf S i) = m := by
          rw [hm, show (k : Int) = F by omega]
          exact sumI_end (fun w hw => ⟨(T.ws w hw).2.2.2.1, (T.ws w hw).2.2.2.2⟩) (by omega)
        rw [he]
        refine SG.walk tab_ok mx 400 [true, false] [] ?_
        conv => whnf
        try dsimp only [rowL, rowN, growOk, hiN, fromL, tightN, maxOk]
        try simp (disch := omega) only [wI, wU64, wU32, wU8, Int.toNat_natCast, toNat_succ, toNat_pred, Int.reduceToNat, Option.getD_some, Option.getD_none, Nat.sub_zero, Nat.zero_add]
        refine ⟨?_, ?_⟩
        · repeat' apply And.intro
          all_goals first
            | trivial
            | rfl
            | omega
            | ((try dsimp only [rowL, rowN]); simp only [beq_iff_eq, beq_eq_false_iff_ne, bne_iff_ne, bne_eq_false_iff_eq, decide_eq_true_eq, decide_eq_false_iff_not, ne_eq, Bool.not_eq_true', Bool.not_eq_false', Bool.not_eq_eq_eq_not, Bool.not_true, Bool.not_false, Option.some.injEq, Option.getD_some, Option.getD_none]; omega)
            | (simp; done)
            | (simp; omega)
        refine SG.ret tab_ok Try.func16 rfl ?_
        intro ρ w' v hm hv
        exact Post.mk hm (intV m) [] none [] hv rfl rows0 rfl (by simp)
    · have he : sumI part n (winsOf S i) = m := by
        rcases hkn with h0 | hn
        · have e1 : sumI part n (winsOf S i) = 0 := sumI_zero (fun w hw => (T.ws w hw).2.2.1) (by omega)
          have e2 : sumI part (k : Int) (S.getD i.toNat rw0).L = 0 := sumI_zero (fun w hw => (T.ws w hw).2.2.1) (by omega)
          omega
        · rw [hm, show (k : Int) = n by omega]; rfl
      rw [he]
      refine SG.walk tab_ok mx 400 [false] [] ?_
      conv => whnf
      try dsimp only [rowL, rowN, growOk, hiN, fromL, tightN, maxOk]
      try simp (disch := omega) only [wI, wU64, wU32, wU8, Int.toNat_natCast, toNat_succ, toNat_pred, Int.reduceToNat, Option.getD_some, Option.getD_none, Nat.sub_zero, Nat.zero_add]
      refine ⟨?_, ?_⟩
      · repeat' apply And.intro
        all_goals first
          | trivial
          | rfl
          | omega
          | ((try dsimp only [rowL, rowN]); simp only [beq_iff_eq, beq_eq_false_iff_ne, bne_iff_ne, bne_eq_false_iff_eq, decide_eq_true_eq, decide_eq_false_iff_not, ne_eq, Bool.not_eq_true', Bool.not_eq_false', Bool.not_eq_eq_eq_not, Bool.not_true, Bool.not_false, Option.some.injEq, Option.getD_some, Option.getD_none]; omega)
          | (simp; done)
          | (simp; omega)
      refine SG.ret tab_ok Try.func16 rfl ?_
      intro ρ w' v hm hv
      exact Post.mk hm (intV m) [] none [] hv rfl rows0 rfl (by simp)
  · have hb' : (!thereB P F S C i) = true := by simp [hb]
    have e : frS P F S C i part n = 0 := by unfold frS; rw [if_neg hb]
    rw [e]
    refine CallOk.enter Try.func16 (by kernel_rfl) rfl [a, b, c] [rowPa P, rowWs S, rowCh C] [planV 0 F 1 2, intV i, intV part, intV n] rfl h.rows (fun r h => by cases h) rfl rfl ?_
    intro w blk hblk
    refine SG.walk tab_ok mx 400 [true] [hdV (thereB P F S C i)] ?_
    conv => whnf
    try dsimp only [rowL, rowN, growOk, hiN, fromL, tightN, maxOk]
    try simp (disch := omega) only [wI, wU64, wU32, wU8, Int.toNat_natCast, toNat_succ, toNat_pred, Int.reduceToNat, Option.getD_some, Option.getD_none, Nat.sub_zero, Nat.zero_add]
    refine ⟨?_, ?_⟩
    · repeat' apply And.intro
      all_goals first
        | exact rThereC (thereP rfl rfl rfl) hS hSl
        | exact hb'
        | trivial
        | rfl
        | omega
        | ((try dsimp only [rowL, rowN]); simp only [beq_iff_eq, beq_eq_false_iff_ne, bne_iff_ne, bne_eq_false_iff_eq, decide_eq_true_eq, decide_eq_false_iff_not, ne_eq, Bool.not_eq_true', Bool.not_eq_false', Bool.not_eq_eq_eq_not, Bool.not_true, Bool.not_false, Option.some.injEq, Option.getD_some, Option.getD_none]; omega)
        | (simp; done)
        | (simp; omega)
    refine SG.ret tab_ok Try.func16 rfl ?_
    intro ρ w' v hm hv
    exact Post.mk hm (intV 0) [] none [] hv rfl rows0 rfl (by simp)
set_option maxHeartbeats 4000000 in
set_option maxRecDepth 100000 in
theorem rGrantedC {a b c : Nat} {P : List Pa} {S : List RW} {C : List Ch} {F i part t : Int} (h : PlanAt Rs a b c P S C) (hS : okS S) (hSl : S.length ≤ 9223372036854775807) (ht : 0 ≤ t ∧ t ≤ 18446744073709551615) : CallOk Try.prog W B Rs 18 [planV a F b c, intV i, intV part, u64V t] (hdU (grS P F S C i part t)) := by
  by_cases hb : thereB P F S C i = true
  · have hb' : (!thereB P F S C i) = false := by simp [hb]
    have T := There.of hb
    have hF : 1 ≤ F ∧ F ≤ 4096 := ⟨T.F1, T.F2⟩
    obtain ⟨c1, c2, c3, c4⟩ := cyN_ok hF ht
    obtain ⟨w1, w2, w3⟩ := grS_ok (part := part) T ht
    have q0 : t.tdiv F = t / F := Int.tdiv_eq_ediv_of_nonneg ht.1
    have q1 := div_ok hF ht
    have eF : frS P F S C i part F = sumI part F (winsOf S i) := by unfold frS; rw [if_pos hb]
    have ec : frS P F S C i part (cyN F t) = sumI part (cyN F t) (winsOf S i) := by unfold frS; rw [if_pos hb]
    have eg : grS P F S C i part t = t / F * sumI part F (winsOf S i) + sumI part (cyN F t) (winsOf S i) := by unfold grS; rw [if_pos hb]
    rw [eg]
    obtain ⟨x, hx⟩ : ∃ x, sumI part F (winsOf S i) = x := ⟨_, rfl⟩
    obtain ⟨y, hy⟩ : ∃ y, sumI part (cyN F t) (winsOf S i) = y := ⟨_, rfl⟩
    rw [hx] at eF w1 w3 ⊢
    rw [hy] at ec w2 w3 ⊢
    obtain ⟨z, hz⟩ : ∃ z, t / F = z := ⟨_, rfl⟩
    rw [hz] at q0 q1 w3 ⊢
    have p0 : 0 ≤ z * x := Int.mul_nonneg (by omega) (by omega)
    obtain ⟨u, hu⟩ : ∃ u, z * x = u := ⟨_, rfl⟩
    rw [hu] at p0 w3 ⊢
    have k1 : IntKind.u64.wrap x = x := wU64 (by omega) (by omega)
    have k2 : IntKind.u64.wrap y = y := wU64 (by omega) (by omega)
    have k3 : IntKind.u64.wrap u = u := wU64 (by omega) (by omega)
    have k4 : IntKind.u64.wrap z = z := wU64 (by omega) (by omega)
    have k5 : IntKind.u64.wrap (u + y) = u + y := wU64 (by omega) (by omega)
    refine CallOk.enter Try.func18 (by kernel_rfl) rfl [a, b, c] [rowPa P, rowWs S, rowCh C] [planV 0 F 1 2, intV i, intV part, u64V t] rfl h.rows (fun r h => by cases h) rfl rfl ?_
    intro w blk hblk
    refine SG.walk tab_ok mx 400 [false] [hdV (thereB P F S C i), hdInt x, hdInt y] ?_
    conv => whnf
    try dsimp only [rowL, rowN, growOk, hiN, fromL, tightN, maxOk]
    refine ⟨?_, ?_⟩
    · simp only [c3, show t.tmod F = cyN F t from rfl, c4]
      have fF : ∀ {W : Base} {B : List (Option (List At))} {Rs : List (Option Row)} {a b c : Nat}, PlanAt Rs a b c P S C → CallOk Try.prog W B Rs 16 [planV a F b c, intV i, intV part, intV F] (hdInt x) := fun h => by rw [← eF]; exact rFrameC h hS hSl
      have fc : ∀ {W : Base} {B : List (Option (List At))} {Rs : List (Option Row)} {a b c : Nat}, PlanAt Rs a b c P S C → CallOk Try.prog W B Rs 16 [planV a F b c, intV i, intV part, intV (cyN F t)] (hdInt y) := fun h => by rw [← ec]; exact rFrameC h hS hSl
      repeat' apply And.intro
      all_goals first
        | exact rThereC (thereP rfl rfl rfl) hS hSl
        | exact hb'
        | exact fF (thereP rfl rfl rfl)
        | exact fc (thereP rfl rfl rfl)
        | trivial
        | rfl
        | omega
        | ((try dsimp only [rowL, rowN]); simp only [beq_iff_eq, beq_eq_false_iff_ne, bne_iff_ne, bne_eq_false_iff_eq, decide_eq_true_eq, decide_eq_false_iff_not, ne_eq, Bool.not_eq_true', Bool.not_eq_false', Bool.not_eq_eq_eq_not, Bool.not_true, Bool.not_false, Option.some.injEq, Option.getD_some, Option.getD_none]; omega)
        | (simp; done)
        | (simp; omega)
    simp only [c3, q0, k4, k1, hu, k3, k2, k5]
    refine SG.ret tab_ok Try.func18 rfl ?_
    intro ρ w' v hm hv
    exact Post.mk hm (u64V (u + y)) [] none [] hv rfl rows0 rfl (by simp)
  · have hb' : (!thereB P F S C i) = true := by simp [hb]
    have e : grS P F S C i part t = 0 := by unfold grS; rw [if_neg hb]
    rw [e]
    refine CallOk.enter Try.func18 (by kernel_rfl) rfl [a, b, c] [rowPa P, rowWs S, rowCh C] [planV 0 F 1 2, intV i, intV part, u64V t] rfl h.rows (fun r h => by cases h) rfl rfl ?_
    intro w blk hblk
    refine SG.walk tab_ok mx 400 [true] [hdV (thereB P F S C i)] ?_
    conv => whnf
    try dsimp only [rowL, rowN, growOk, hiN, fromL, tightN, maxOk]
    try simp (disch := omega) only [wI, wU64, wU32, wU8, Int.toNat_natCast, toNat_succ, toNat_pred, Int.reduceToNat, Option.getD_some, Option.getD_none, Nat.sub_zero, Nat.zero_add]
    refine ⟨?_, ?_⟩
    · repeat' apply And.intro
      all_goals first
        | exact rThereC (thereP rfl rfl rfl) hS hSl
        | exact hb'
        | trivial
        | rfl
        | omega
        | ((try dsimp only [rowL, rowN]); simp only [beq_iff_eq, beq_eq_false_iff_ne, bne_iff_ne, bne_eq_false_iff_eq, decide_eq_true_eq, decide_eq_false_iff_not, ne_eq, Bool.not_eq_true', Bool.not_eq_false', Bool.not_eq_eq_eq_not, Bool.not_true, Bool.not_false, Option.some.injEq, Option.getD_some, Option.getD_none]; omega)
        | (simp; done)
        | (simp; omega)
    refine SG.ret tab_ok Try.func18 rfl ?_
    intro ρ w' v hm hv
    exact Post.mk hm (u64V 0) [] none [] hv rfl rows0 rfl (by simp)
end
end Go.Proofs.Ytpnfjkkofdlndaa
