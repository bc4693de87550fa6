/- Channels and boxes: statements: the last one that was sent. -/
import Derived.Test.YtecpnblhhjndgaaPyG
namespace Go.Proofs.Ytecpnblhhjndgaa
open Go.Sx Go.RowKit
set_option linter.unusedVariables false
set_option linter.unusedSimpArgs false
set_option maxHeartbeats 4000000 in
set_option maxRecDepth 100000 in
theorem last_walk (w : World) (c : Value) (L : List AA) (size : Int) (hrow : ∀ W' ρ, RowOk W' ρ w c (rowA L)) (hl : L.length ≤ 5864062014650) :
    Calls Try.prog 6 #[.int .i64 size, c] w fun e w' => e = .returned (.bool true) ∧ Below w.heap.size w w' := by
  obtain ⟨A, cap, rfl, _⟩ := (hrow ⟨w, none, [], []⟩ ⟨fun _ => none, fun _ => none⟩).form
  refine calls_top Try.func6 rfl [.slice A L.length cap] [rowA L] [intV size, rsV 0] (.cons hrow rfl .nil) ⟨rfl, rfl, trivial⟩ ?_
  clear hrow
  refine SG.walk tab_ok mx 400 [] [hdB true] ?_
  conv => whnf
  try dsimp only [rowL, rowN, growOk, hiN, fromL, tightN, maxOk]
  try simp (disch := omega) only [wI, wU64, wU32, wU8, Int.toNat_natCast, toNat_succ, toNat_pred, Int.reduceToNat, Option.getD_some, Option.getD_none, Nat.sub_zero, Nat.zero_add]
  refine ⟨?_, ?_⟩
  · repeat' apply And.intro
    all_goals first
      | exact shownP
      | trivial
      | rfl
      | omega
      | ((try dsimp only [rowL, rowN]); simp only [beq_iff_eq, beq_eq_false_iff_ne, bne_iff_ne, bne_eq_false_iff_eq, decide_eq_true_eq, decide_eq_false_iff_not, ne_eq, Bool.not_eq_true', Bool.not_eq_false', Bool.not_eq_eq_eq_not, Bool.not_true, Bool.not_false, Option.some.injEq, Option.getD_some, Option.getD_none]; omega)
      | (simp; done)
      | (simp; omega)
  refine SG.nilBoxAt 1 0 37 2 rfl rfl ?_
  refine SG.norm ?_
  conv => whnf
  refine SG.loop (fun x : Nat × Option MM => ⟨puts (List.replicate (Try.f6).ntmps .any) [(0, intV size), (1, rsV 0), (5, trueV), (6, bpV 0), (7, bpV 1), (8, bpV 2), (9, .cv (.one (.lb x.2.isSome))), (10, intV x.1)], [some [.v (.int .i64 1), .v (.int .i64 0), .v (.int .i64 1), .v (.int .i64 size), .v (.int .i64 1)], some [.rs 1, .v (.int .i64 0)], some (mmC (x.2.getD mm0))], [some (rowA L), some (newM x.2.toList)], []⟩) (fun x => x.1 ≤ L.length ∧ x.1 ≤ 300) (fun x => L.length - x.1) ((0, none)) (⟨Nat.zero_le _, Nat.zero_le _⟩) (fun h => SG.sub [0, 1, 2] [0, 1] ⟨?_, ?_, ?_, by decide, rfl, rfl, rfl, ?_⟩ h) ?_
  · repeat' (first | exact trivial | exact rfl | refine And.intro ?_ ?_)
  · repeat' (first | exact trivial | exact rfl | refine And.intro ?_ ?_)
  · repeat' (first | exact trivial | refine ⟨⟨_, rfl, ⟨rfl, rfl, .inl rfl, (fun h => by first | exact h | cases h), (fun h => by first | exact h | cases h), fun _ _ => rfl⟩, fun _ _ => rfl⟩, ?_⟩ | refine ⟨⟨_, rfl, ⟨rfl, rfl, .inr rfl, (fun h => by first | exact h | cases h), (fun h => by first | exact h | cases h), fun _ _ => rfl⟩, fun _ _ => rfl⟩, ?_⟩ | refine ⟨⟨_, rfl, ⟨rfl, rfl, .inr rfl, (fun h => by first | exact h | cases h), (fun h => by first | exact h | cases h), fun i hi => absurd hi (Nat.not_lt_zero i)⟩, fun i hi => absurd hi (Nat.not_lt_zero i)⟩, ?_⟩ | refine ⟨⟨_, rfl, ⟨rfl, rfl, .inl rfl, (fun h => by first | exact h | cases h), (fun h => by first | exact h | cases h), fun i hi => ren_closed (hQc i hi)⟩, fun i hi => inn_closed (hQc i hi)⟩, ?_⟩)
  · repeat' (first | exact trivial | exact rfl | refine And.intro ?_ ?_)
  rintro ⟨i, m⟩ ⟨b1, b2⟩ next
  dsimp only at b1 b2 next ⊢
  by_cases hlt : i < L.length
  · by_cases h300 : i < 300
    · cases hsn : (L.getD i aa0).1 with
      | false =>
        cases m with
        | none =>
          have nx := next (i + 1, none) ⟨hlt, h300⟩ (by dsimp only; omega)
          dsimp only [Option.isSome, Option.toList, Option.getD] at nx ⊢
          refine SG.walk tab_ok mx 400 [true, true, false, false, true, false] [mkHd (tookV 0 7 mm0) [newM ([] : List MM)]] ?_
          conv => whnf
          try dsimp only [rowL, rowN, growOk, hiN, fromL, tightN, maxOk]
          try simp (disch := omega) only [wI, wU64, wU32, wU8, Int.toNat_natCast, toNat_succ, toNat_pred, Int.reduceToNat, Option.getD_some, Option.getD_none, Nat.sub_zero, Nat.zero_add]
          refine ⟨?_, ?_⟩
          · repeat' apply And.intro
            all_goals first
              | exact takeNone (r := 1) rfl (.of rfl rfl (fun _ _ => rfl))
              | exact hsn
              | trivial
              | rfl
              | omega
              | ((try dsimp only [rowL, rowN]); simp only [beq_iff_eq, beq_eq_false_iff_ne, bne_iff_ne, bne_eq_false_iff_eq, decide_eq_true_eq, decide_eq_false_iff_not, ne_eq, Bool.not_eq_true', Bool.not_eq_false', Bool.not_eq_eq_eq_not, Bool.not_true, Bool.not_false, Option.some.injEq, Option.getD_some, Option.getD_none]; omega)
              | (simp; done)
              | (simp; omega)
          refine SG.sub [0, 1, 2] [0, 2] ⟨?_, ?_, ?_, by decide, rfl, rfl, rfl, ?_⟩ nx
          · repeat' (first | exact trivial | exact rfl | refine And.intro ?_ ?_)
          · repeat' (first | exact trivial | exact rfl | refine And.intro ?_ ?_)
          · repeat' (first | exact trivial | refine ⟨⟨_, rfl, ⟨rfl, rfl, .inl rfl, (fun h => by first | exact h | cases h), (fun h => by first | exact h | cases h), fun _ _ => rfl⟩, fun _ _ => rfl⟩, ?_⟩ | refine ⟨⟨_, rfl, ⟨rfl, rfl, .inr rfl, (fun h => by first | exact h | cases h), (fun h => by first | exact h | cases h), fun _ _ => rfl⟩, fun _ _ => rfl⟩, ?_⟩ | refine ⟨⟨_, rfl, ⟨rfl, rfl, .inr rfl, (fun h => by first | exact h | cases h), (fun h => by first | exact h | cases h), fun i hi => absurd hi (Nat.not_lt_zero i)⟩, fun i hi => absurd hi (Nat.not_lt_zero i)⟩, ?_⟩ | refine ⟨⟨_, rfl, ⟨rfl, rfl, .inl rfl, (fun h => by first | exact h | cases h), (fun h => by first | exact h | cases h), fun i hi => ren_closed (hQc i hi)⟩, fun i hi => inn_closed (hQc i hi)⟩, ?_⟩)
          · repeat' (first | exact trivial | exact rfl | refine And.intro ?_ ?_)
        | some x =>
          have nx := next (i + 1, some x) ⟨hlt, h300⟩ (by dsimp only; omega)
          dsimp only [Option.isSome, Option.toList, Option.getD] at nx ⊢
          refine SG.walk tab_ok mx 400 [true, true, false, false, false, false] [mkHd (tookV 0 0 x) [newM [x]]] ?_
          conv => whnf
          try dsimp only [rowL, rowN, growOk, hiN, fromL, tightN, maxOk]
          try simp (disch := omega) only [wI, wU64, wU32, wU8, Int.toNat_natCast, toNat_succ, toNat_pred, Int.reduceToNat, Option.getD_some, Option.getD_none, Nat.sub_zero, Nat.zero_add]
          refine ⟨?_, ?_⟩
          · repeat' apply And.intro
            all_goals first
              | exact takeSample (r := 1) (L := [x]) rfl (.of rfl rfl (fun _ _ => rfl)) (by simp) (by simp)
              | exact hsn
              | exact show (!eqM x x) = false by rw [eqM_refl]; rfl
              | trivial
              | rfl
              | omega
              | ((try dsimp only [rowL, rowN]); simp only [beq_iff_eq, beq_eq_false_iff_ne, bne_iff_ne, bne_eq_false_iff_eq, decide_eq_true_eq, decide_eq_false_iff_not, ne_eq, Bool.not_eq_true', Bool.not_eq_false', Bool.not_eq_eq_eq_not, Bool.not_true, Bool.not_false, Option.some.injEq, Option.getD_some, Option.getD_none]; omega)
              | (simp; done)
              | (simp; omega)
          refine SG.sub [0, 1, 2] [0, 2] ⟨?_, ?_, ?_, by decide, rfl, rfl, rfl, ?_⟩ nx
          · repeat' (first | exact trivial | exact rfl | refine And.intro ?_ ?_)
          · repeat' (first | exact trivial | exact rfl | refine And.intro ?_ ?_)
          · repeat' (first | exact trivial | refine ⟨⟨_, rfl, ⟨rfl, rfl, .inl rfl, (fun h => by first | exact h | cases h), (fun h => by first | exact h | cases h), fun _ _ => rfl⟩, fun _ _ => rfl⟩, ?_⟩ | refine ⟨⟨_, rfl, ⟨rfl, rfl, .inr rfl, (fun h => by first | exact h | cases h), (fun h => by first | exact h | cases h), fun _ _ => rfl⟩, fun _ _ => rfl⟩, ?_⟩ | refine ⟨⟨_, rfl, ⟨rfl, rfl, .inr rfl, (fun h => by first | exact h | cases h), (fun h => by first | exact h | cases h), fun i hi => absurd hi (Nat.not_lt_zero i)⟩, fun i hi => absurd hi (Nat.not_lt_zero i)⟩, ?_⟩ | refine ⟨⟨_, rfl, ⟨rfl, rfl, .inl rfl, (fun h => by first | exact h | cases h), (fun h => by first | exact h | cases h), fun i hi => ren_closed (hQc i hi)⟩, fun i hi => inn_closed (hQc i hi)⟩, ?_⟩)
          · repeat' (first | exact trivial | exact rfl | refine And.intro ?_ ?_)
      | true =>
        have hDl : m.toList.length ≤ 1 := by cases m <;> simp
        by_cases hs : size < (L.getD i aa0).2.2.size
        · have nx := next (i + 1, m) ⟨hlt, h300⟩ (by dsimp only; omega)
          dsimp only at nx
          generalize m.toList = D at *
          generalize m.getD mm0 = z at *
          generalize m.isSome = b at *
          refine SG.walk tab_ok mx 400 [true, true, true, false] [mkHd (sentV 0 4) [newM D]] ?_
          conv => whnf
          try dsimp only [rowL, rowN, growOk, hiN, fromL, tightN, maxOk]
          try simp (disch := omega) only [wI, wU64, wU32, wU8, Int.toNat_natCast, toNat_succ, toNat_pred, Int.reduceToNat, Option.getD_some, Option.getD_none, Nat.sub_zero, Nat.zero_add]
          refine ⟨?_, ?_⟩
          · repeat' apply And.intro
            all_goals first
              | exact sendBig (r := 1) rfl (.of rfl rfl (fun _ _ => rfl)) (by omega) hs
              | exact hsn
              | trivial
              | rfl
              | omega
              | ((try dsimp only [rowL, rowN]); simp only [beq_iff_eq, beq_eq_false_iff_ne, bne_iff_ne, bne_eq_false_iff_eq, decide_eq_true_eq, decide_eq_false_iff_not, ne_eq, Bool.not_eq_true', Bool.not_eq_false', Bool.not_eq_eq_eq_not, Bool.not_true, Bool.not_false, Option.some.injEq, Option.getD_some, Option.getD_none]; omega)
              | (simp; done)
              | (simp; omega)
          refine SG.sub [0, 1, 2] [0, 2] ⟨?_, ?_, ?_, by decide, rfl, rfl, rfl, ?_⟩ nx
          · repeat' (first | exact trivial | exact rfl | refine And.intro ?_ ?_)
          · repeat' (first | exact trivial | exact rfl | refine And.intro ?_ ?_)
          · repeat' (first | exact trivial | refine ⟨⟨_, rfl, ⟨rfl, rfl, .inl rfl, (fun h => by first | exact h | cases h), (fun h => by first | exact h | cases h), fun _ _ => rfl⟩, fun _ _ => rfl⟩, ?_⟩ | refine ⟨⟨_, rfl, ⟨rfl, rfl, .inr rfl, (fun h => by first | exact h | cases h), (fun h => by first | exact h | cases h), fun _ _ => rfl⟩, fun _ _ => rfl⟩, ?_⟩ | refine ⟨⟨_, rfl, ⟨rfl, rfl, .inr rfl, (fun h => by first | exact h | cases h), (fun h => by first | exact h | cases h), fun i hi => absurd hi (Nat.not_lt_zero i)⟩, fun i hi => absurd hi (Nat.not_lt_zero i)⟩, ?_⟩ | refine ⟨⟨_, rfl, ⟨rfl, rfl, .inl rfl, (fun h => by first | exact h | cases h), (fun h => by first | exact h | cases h), fun i hi => ren_closed (hQc i hi)⟩, fun i hi => inn_closed (hQc i hi)⟩, ?_⟩)
          · repeat' (first | exact trivial | exact rfl | refine And.intro ?_ ?_)
        · have hs : (L.getD i aa0).2.2.size ≤ size := by omega
          have nx := next (i + 1, some ((L.getD i aa0).2.1, (L.getD i aa0).2.2)) ⟨hlt, h300⟩ (by dsimp only; omega)
          dsimp only [Option.isSome, Option.toList, Option.getD] at nx
          generalize m.toList = D at *
          generalize m.getD mm0 = z at *
          generalize m.isSome = b at *
          refine SG.walk tab_ok mx 400 [true, true, true, true] [mkHd (sentV 0 0) [newM [((L.getD i aa0).2.1, (L.getD i aa0).2.2)]]] ?_
          conv => whnf
          try dsimp only [rowL, rowN, growOk, hiN, fromL, tightN, maxOk]
          try simp (disch := omega) only [wI, wU64, wU32, wU8, Int.toNat_natCast, toNat_succ, toNat_pred, Int.reduceToNat, Option.getD_some, Option.getD_none, Nat.sub_zero, Nat.zero_add]
          refine ⟨?_, ?_⟩
          · repeat' apply And.intro
            all_goals first
              | exact sendSample (r := 1) (L := D) rfl (.of rfl rfl (fun _ _ => rfl)) (by omega) hs
              | exact hsn
              | trivial
              | rfl
              | omega
              | ((try dsimp only [rowL, rowN]); simp only [beq_iff_eq, beq_eq_false_iff_ne, bne_iff_ne, bne_eq_false_iff_eq, decide_eq_true_eq, decide_eq_false_iff_not, ne_eq, Bool.not_eq_true', Bool.not_eq_false', Bool.not_eq_eq_eq_not, Bool.not_true, Bool.not_false, Option.some.injEq, Option.getD_some, Option.getD_none]; omega)
              | (simp; done)
              | (simp; omega)
          refine SG.sub [0, 1, 2] [0, 2] ⟨?_, ?_, ?_, by decide, rfl, rfl, rfl, ?_⟩ nx
          · repeat' (first | exact trivial | exact rfl | refine And.intro ?_ ?_)
          · repeat' (first | exact trivial | exact rfl | refine And.intro ?_ ?_)
          · repeat' (first | exact trivial | refine ⟨⟨_, rfl, ⟨rfl, rfl, .inl rfl, (fun h => by first | exact h | cases h), (fun h => by first | exact h | cases h), fun _ _ => rfl⟩, fun _ _ => rfl⟩, ?_⟩ | refine ⟨⟨_, rfl, ⟨rfl, rfl, .inr rfl, (fun h => by first | exact h | cases h), (fun h => by first | exact h | cases h), fun _ _ => rfl⟩, fun _ _ => rfl⟩, ?_⟩ | refine ⟨⟨_, rfl, ⟨rfl, rfl, .inr rfl, (fun h => by first | exact h | cases h), (fun h => by first | exact h | cases h), fun i hi => absurd hi (Nat.not_lt_zero i)⟩, fun i hi => absurd hi (Nat.not_lt_zero i)⟩, ?_⟩ | refine ⟨⟨_, rfl, ⟨rfl, rfl, .inl rfl, (fun h => by first | exact h | cases h), (fun h => by first | exact h | cases h), fun i hi => ren_closed (hQc i hi)⟩, fun i hi => inn_closed (hQc i hi)⟩, ?_⟩)
          · repeat' (first | exact trivial | exact rfl | refine And.intro ?_ ?_)
    · have hDl : m.toList.length ≤ 1 := by cases m <;> simp
      generalize m.toList = D at *
      generalize m.getD mm0 = z at *
      generalize m.isSome = b at *
      refine SG.walk tab_ok mx 400 [true, false, true] [mkHd (intV D.length) []] ?_
      conv => whnf
      try dsimp only [rowL, rowN, growOk, hiN, fromL, tightN, maxOk]
      try simp (disch := omega) only [wI, wU64, wU32, wU8, Int.toNat_natCast, toNat_succ, toNat_pred, Int.reduceToNat, Option.getD_some, Option.getD_none, Nat.sub_zero, Nat.zero_add]
      refine ⟨?_, ?_⟩
      · repeat' apply And.intro
        all_goals first
          | exact waitsB (r := 1) rfl (.of rfl rfl (fun _ _ => rfl))
          | trivial
          | rfl
          | omega
          | ((try dsimp only [rowL, rowN]); simp only [beq_iff_eq, beq_eq_false_iff_ne, bne_iff_ne, bne_eq_false_iff_eq, decide_eq_true_eq, decide_eq_false_iff_not, ne_eq, Bool.not_eq_true', Bool.not_eq_false', Bool.not_eq_eq_eq_not, Bool.not_true, Bool.not_false, Option.some.injEq, Option.getD_some, Option.getD_none]; omega)
          | (simp; done)
          | (simp; omega)
      refine SG.ret tab_ok Try.func6 rfl ?_
      intro ρ w' v hm hv
      exact top_v hm hv (by simp; omega)
  · have hDl : m.toList.length ≤ 1 := by cases m <;> simp
    generalize m.toList = D at *
    generalize m.getD mm0 = z at *
    generalize m.isSome = b at *
    refine SG.walk tab_ok mx 400 [false, true] [mkHd (intV D.length) []] ?_
    conv => whnf
    try dsimp only [rowL, rowN, growOk, hiN, fromL, tightN, maxOk]
    try simp (disch := omega) only [wI, wU64, wU32, wU8, Int.toNat_natCast, toNat_succ, toNat_pred, Int.reduceToNat, Option.getD_some, Option.getD_none, Nat.sub_zero, Nat.zero_add]
    refine ⟨?_, ?_⟩
    · repeat' apply And.intro
      all_goals first
        | exact waitsB (r := 1) rfl (.of rfl rfl (fun _ _ => rfl))
        | trivial
        | rfl
        | omega
        | ((try dsimp only [rowL, rowN]); simp only [beq_iff_eq, beq_eq_false_iff_ne, bne_iff_ne, bne_eq_false_iff_eq, decide_eq_true_eq, decide_eq_false_iff_not, ne_eq, Bool.not_eq_true', Bool.not_eq_false', Bool.not_eq_eq_eq_not, Bool.not_true, Bool.not_false, Option.some.injEq, Option.getD_some, Option.getD_none]; omega)
        | (simp; done)
        | (simp; omega)
    refine SG.ret tab_ok Try.func6 rfl ?_
    intro ρ w' v hm hv
    exact top_v hm hv (by simp; omega)
end Go.Proofs.Ytecpnblhhjndgaa
