/- Heaps: statements, on. -/
import Derived.Test.YtpbpgkkfpfenhaaHpF
import Derived.Test.YtpbpgkkfpfenhaaHpN
namespace Go.Proofs.Ytpbpgkkfpfenhaa
open Go.Sx Go.RowKit
set_option linter.unusedVariables false
set_option linter.unusedSimpArgs false
set_option maxRecDepth 100000 in
theorem first_walk (w : World) (c : Value) (L : List E) (sz n who : Int) (hs : sz ≤ 9223372036854775807) (hrow : ∀ W' ρ, RowOk W' ρ w c (rowE L)) (hl : L.length ≤ 5864062014650) :
    Calls Try.prog 6 #[.agg #[.int .i64 sz, c], .int .i64 n, .int .i64 who] w fun e w' => e = .returned (.bool true) ∧ Below w.heap.size w w' := by
  obtain ⟨A, cap, rfl, _⟩ := (hrow ⟨w, none, [], []⟩ ⟨fun _ => none, fun _ => none⟩).form
  refine calls_top Try.func6 rfl [.slice A L.length cap] [rowE L] [heapV 0 sz, intV n, intV who] (.cons hrow rfl .nil) ⟨rfl, rfl, rfl, trivial⟩ ?_
  clear hrow
  obtain ⟨b, hb⟩ := rt_b sz L
  have hln := hol_len b sz L
  by_cases hn : n < 1 ∨ ¬ Rt sz L
  · refine SG.walk tab_ok mx 400 [] [hdB true, hdTake sz 0 1 L, hdE (hol b sz L)] ?_
    conv => whnf
    try dsimp only [rowL, rowN, growOk, hiN, fromL, tightN, maxOk]
    try simp (disch := omega) only [wI, wU64, wU32, wU8, Int.toNat_natCast, toNat_succ, toNat_pred, Int.reduceToNat, Option.getD_some, Option.getD_none, Nat.sub_zero, Nat.zero_add]
    refine ⟨?_, ?_⟩
    · exact ⟨rHolesB (r := 0) rfl (.of rfl rfl (fun _ _ => rfl)) (by omega) hs hb, takeArg (r := 0) rfl (.of rfl rfl (fun _ _ => rfl)) (by omega) hs hn, shownE⟩
    refine SG.loop (fun i : Nat => ⟨puts (List.replicate (Try.f6).ntmps .any) [(0, heapV 0 sz), (1, intV n), (2, intV who), (3, bpV 0), (7, trueV), (8, bpV 1), (9, intV 0), (10, intV 1), (11, rsV 2), (12, intV i)], [some [.v (.int .i64 sz), .rs 0], some [.v (.int .i64 sz), .rs 1]], [some (rowE L), some (newE L), some (newE (hol b sz L))], []⟩) (fun i => i ≤ (hol b sz L).length) (fun i => (hol b sz L).length - i) (0) (Nat.zero_le _) (fun h => SG.sub [0, 1] [0, 1, 2] ⟨?_, ?_, ?_, by decide, rfl, rfl, rfl, ?_⟩ h) ?_
    · repeat' (first | exact trivial | exact rfl | refine And.intro ?_ ?_)
    · repeat' (first | exact trivial | exact rfl | refine And.intro ?_ ?_)
    · repeat' (first | exact trivial | refine ⟨⟨_, rfl, ⟨rfl, rfl, .inl rfl, (fun h => by first | exact h | cases h), (fun h => by first | exact h | cases h), fun _ _ => rfl⟩, fun _ _ => rfl⟩, ?_⟩ | refine ⟨⟨_, rfl, ⟨rfl, rfl, .inr rfl, (fun h => by first | exact h | cases h), (fun h => by first | exact h | cases h), fun _ _ => rfl⟩, fun _ _ => rfl⟩, ?_⟩ | refine ⟨⟨_, rfl, ⟨rfl, rfl, .inr rfl, (fun h => by first | exact h | cases h), (fun h => by first | exact h | cases h), fun i hi => absurd hi (Nat.not_lt_zero i)⟩, fun i hi => absurd hi (Nat.not_lt_zero i)⟩, ?_⟩ | refine ⟨⟨_, rfl, ⟨rfl, rfl, .inl rfl, (fun h => by first | exact h | cases h), (fun h => by first | exact h | cases h), fun i hi => ren_closed (hQc i hi)⟩, fun i hi => inn_closed (hQc i hi)⟩, ?_⟩)
    · repeat' (first | exact trivial | exact rfl | refine And.intro ?_ ?_)
    intro i hi next
    by_cases hlt : i < (hol b sz L).length
    · cases b with
      | false => exact absurd hlt (Nat.not_lt_zero _)
      | true =>
        have hn1 := hn.resolve_right (fun h => h (hb.1 rfl))
        have hp := (hole_in (hb.1 rfl) (hole_get (sz := sz) (L := L) (i := i) hlt)).2.1
        have hp' : 1 ≤ ((hol true sz L).getD i e0).2.1 := hp
        refine SG.walk tab_ok mx 400 [true, true, false] [] ?_
        conv => whnf
        try dsimp only [rowL, rowN, growOk, hiN, fromL, tightN, maxOk]
        try simp (disch := omega) only [wI, wU64, wU32, wU8, Int.toNat_natCast, toNat_succ, toNat_pred, Int.reduceToNat, Option.getD_some, Option.getD_none, Nat.sub_zero, Nat.zero_add]
        refine ⟨?_, ?_⟩
        · try simp only [beq_iff_eq, beq_eq_false_iff_ne, bne_iff_ne, bne_eq_false_iff_eq, decide_eq_true_eq, decide_eq_false_iff_not, ne_eq, Bool.not_eq_true', Bool.not_eq_false', Bool.not_eq_eq_eq_not, Bool.not_true, Bool.not_false, true_and, and_true]
          try omega
        refine SG.sub [0, 1] [0, 1, 2] ⟨?_, ?_, ?_, by decide, rfl, rfl, rfl, ?_⟩ (next (i + 1) hlt (by omega))
        · repeat' (first | exact trivial | exact rfl | refine And.intro ?_ ?_)
        · repeat' (first | exact trivial | exact rfl | refine And.intro ?_ ?_)
        · repeat' (first | exact trivial | refine ⟨⟨_, rfl, ⟨rfl, rfl, .inl rfl, (fun h => by first | exact h | cases h), (fun h => by first | exact h | cases h), fun _ _ => rfl⟩, fun _ _ => rfl⟩, ?_⟩ | refine ⟨⟨_, rfl, ⟨rfl, rfl, .inr rfl, (fun h => by first | exact h | cases h), (fun h => by first | exact h | cases h), fun _ _ => rfl⟩, fun _ _ => rfl⟩, ?_⟩ | refine ⟨⟨_, rfl, ⟨rfl, rfl, .inr rfl, (fun h => by first | exact h | cases h), (fun h => by first | exact h | cases h), fun i hi => absurd hi (Nat.not_lt_zero i)⟩, fun i hi => absurd hi (Nat.not_lt_zero i)⟩, ?_⟩ | refine ⟨⟨_, rfl, ⟨rfl, rfl, .inl rfl, (fun h => by first | exact h | cases h), (fun h => by first | exact h | cases h), fun i hi => ren_closed (hQc i hi)⟩, fun i hi => inn_closed (hQc i hi)⟩, ?_⟩)
        · repeat' (first | exact trivial | exact rfl | refine And.intro ?_ ?_)
    · by_cases hn1 : n < 1
      · refine SG.walk tab_ok mx 400 [false, false, true] [] ?_
        conv => whnf
        try dsimp only [rowL, rowN, growOk, hiN, fromL, tightN, maxOk]
        try simp (disch := omega) only [wI, wU64, wU32, wU8, Int.toNat_natCast, toNat_succ, toNat_pred, Int.reduceToNat, Option.getD_some, Option.getD_none, Nat.sub_zero, Nat.zero_add]
        refine ⟨?_, ?_⟩
        · try simp only [beq_iff_eq, beq_eq_false_iff_ne, bne_iff_ne, bne_eq_false_iff_eq, decide_eq_true_eq, decide_eq_false_iff_not, ne_eq, Bool.not_eq_true', Bool.not_eq_false', Bool.not_eq_eq_eq_not, Bool.not_true, Bool.not_false, true_and, and_true]
          try omega
        refine SG.ret tab_ok Try.func6 rfl ?_
        intro ρ w' v hm hv
        exact top_true hm hv rfl
      · refine SG.walk tab_ok mx 400 [false, true] [] ?_
        conv => whnf
        try dsimp only [rowL, rowN, growOk, hiN, fromL, tightN, maxOk]
        try simp (disch := omega) only [wI, wU64, wU32, wU8, Int.toNat_natCast, toNat_succ, toNat_pred, Int.reduceToNat, Option.getD_some, Option.getD_none, Nat.sub_zero, Nat.zero_add]
        refine ⟨?_, ?_⟩
        · try simp only [beq_iff_eq, beq_eq_false_iff_ne, bne_iff_ne, bne_eq_false_iff_eq, decide_eq_true_eq, decide_eq_false_iff_not, ne_eq, Bool.not_eq_true', Bool.not_eq_false', Bool.not_eq_eq_eq_not, Bool.not_true, Bool.not_false, true_and, and_true]
          try omega
        refine SG.ret tab_ok Try.func6 rfl ?_
        intro ρ w' v hm hv
        exact top_true hm hv rfl
  · have h1 : 1 ≤ n := by omega
    have ht : Rt sz L := Classical.byContradiction fun h => hn (.inr h)
    have hbt := hb.2 ht
    subst hbt
    cases hf : fit n sz L with
    | none =>
      refine SG.walk tab_ok mx 400 [] [hdB true, hdTake sz 0 5 L, hdE (hol true sz L)] ?_
      conv => whnf
      try dsimp only [rowL, rowN, growOk, hiN, fromL, tightN, maxOk]
      try simp (disch := omega) only [wI, wU64, wU32, wU8, Int.toNat_natCast, toNat_succ, toNat_pred, Int.reduceToNat, Option.getD_some, Option.getD_none, Nat.sub_zero, Nat.zero_add]
      refine ⟨?_, ?_⟩
      · exact ⟨rHolesB (r := 0) rfl (.of rfl rfl (fun _ _ => rfl)) (by omega) hs hb, takeFull (r := 0) rfl (.of rfl rfl (fun _ _ => rfl)) (by omega) hs h1 ht hf, shownE⟩
      refine SG.loop (fun i : Nat => ⟨puts (List.replicate (Try.f6).ntmps .any) [(0, heapV 0 sz), (1, intV n), (2, intV who), (3, bpV 0), (7, trueV), (8, bpV 1), (9, intV 0), (10, intV 5), (11, rsV 2), (12, intV i)], [some [.v (.int .i64 sz), .rs 0], some [.v (.int .i64 sz), .rs 1]], [some (rowE L), some (newE L), some (newE (hol true sz L))], []⟩) (fun i => i ≤ (hol true sz L).length) (fun i => (hol true sz L).length - i) (0) (Nat.zero_le _) (fun h => SG.sub [0, 1] [0, 1, 2] ⟨?_, ?_, ?_, by decide, rfl, rfl, rfl, ?_⟩ h) ?_
      · repeat' (first | exact trivial | exact rfl | refine And.intro ?_ ?_)
      · repeat' (first | exact trivial | exact rfl | refine And.intro ?_ ?_)
      · repeat' (first | exact trivial | refine ⟨⟨_, rfl, ⟨rfl, rfl, .inl rfl, (fun h => by first | exact h | cases h), (fun h => by first | exact h | cases h), fun _ _ => rfl⟩, fun _ _ => rfl⟩, ?_⟩ | refine ⟨⟨_, rfl, ⟨rfl, rfl, .inr rfl, (fun h => by first | exact h | cases h), (fun h => by first | exact h | cases h), fun _ _ => rfl⟩, fun _ _ => rfl⟩, ?_⟩ | refine ⟨⟨_, rfl, ⟨rfl, rfl, .inr rfl, (fun h => by first | exact h | cases h), (fun h => by first | exact h | cases h), fun i hi => absurd hi (Nat.not_lt_zero i)⟩, fun i hi => absurd hi (Nat.not_lt_zero i)⟩, ?_⟩ | refine ⟨⟨_, rfl, ⟨rfl, rfl, .inl rfl, (fun h => by first | exact h | cases h), (fun h => by first | exact h | cases h), fun i hi => ren_closed (hQc i hi)⟩, fun i hi => inn_closed (hQc i hi)⟩, ?_⟩)
      · repeat' (first | exact trivial | exact rfl | refine And.intro ?_ ?_)
      intro i hi next
      by_cases hlt : i < (hol true sz L).length
      · have hno : ¬ n ≤ ((hol true sz L).getD i e0).2.1 := fit_no hf hlt
        refine SG.walk tab_ok mx 400 [true, false] [] ?_
        conv => whnf
        try dsimp only [rowL, rowN, growOk, hiN, fromL, tightN, maxOk]
        try simp (disch := omega) only [wI, wU64, wU32, wU8, Int.toNat_natCast, toNat_succ, toNat_pred, Int.reduceToNat, Option.getD_some, Option.getD_none, Nat.sub_zero, Nat.zero_add]
        refine ⟨?_, ?_⟩
        · try simp only [beq_iff_eq, beq_eq_false_iff_ne, bne_iff_ne, bne_eq_false_iff_eq, decide_eq_true_eq, decide_eq_false_iff_not, ne_eq, Bool.not_eq_true', Bool.not_eq_false', Bool.not_eq_eq_eq_not, Bool.not_true, Bool.not_false, true_and, and_true]
          try omega
        refine SG.sub [0, 1] [0, 1, 2] ⟨?_, ?_, ?_, by decide, rfl, rfl, rfl, ?_⟩ (next (i + 1) hlt (by omega))
        · repeat' (first | exact trivial | exact rfl | refine And.intro ?_ ?_)
        · repeat' (first | exact trivial | exact rfl | refine And.intro ?_ ?_)
        · repeat' (first | exact trivial | refine ⟨⟨_, rfl, ⟨rfl, rfl, .inl rfl, (fun h => by first | exact h | cases h), (fun h => by first | exact h | cases h), fun _ _ => rfl⟩, fun _ _ => rfl⟩, ?_⟩ | refine ⟨⟨_, rfl, ⟨rfl, rfl, .inr rfl, (fun h => by first | exact h | cases h), (fun h => by first | exact h | cases h), fun _ _ => rfl⟩, fun _ _ => rfl⟩, ?_⟩ | refine ⟨⟨_, rfl, ⟨rfl, rfl, .inr rfl, (fun h => by first | exact h | cases h), (fun h => by first | exact h | cases h), fun i hi => absurd hi (Nat.not_lt_zero i)⟩, fun i hi => absurd hi (Nat.not_lt_zero i)⟩, ?_⟩ | refine ⟨⟨_, rfl, ⟨rfl, rfl, .inl rfl, (fun h => by first | exact h | cases h), (fun h => by first | exact h | cases h), fun i hi => ren_closed (hQc i hi)⟩, fun i hi => inn_closed (hQc i hi)⟩, ?_⟩)
        · repeat' (first | exact trivial | exact rfl | refine And.intro ?_ ?_)
      · refine SG.walk tab_ok mx 400 [false, true] [] ?_
        conv => whnf
        try dsimp only [rowL, rowN, growOk, hiN, fromL, tightN, maxOk]
        try simp (disch := omega) only [wI, wU64, wU32, wU8, Int.toNat_natCast, toNat_succ, toNat_pred, Int.reduceToNat, Option.getD_some, Option.getD_none, Nat.sub_zero, Nat.zero_add]
        refine ⟨?_, ?_⟩
        · try simp only [beq_iff_eq, beq_eq_false_iff_ne, bne_iff_ne, bne_eq_false_iff_eq, decide_eq_true_eq, decide_eq_false_iff_not, ne_eq, Bool.not_eq_true', Bool.not_eq_false', Bool.not_eq_eq_eq_not, Bool.not_true, Bool.not_false, true_and, and_true]
          try omega
        refine SG.ret tab_ok Try.func6 rfl ?_
        intro ρ w' v hm hv
        exact top_true hm hv rfl
    | some x =>
      refine SG.walk tab_ok mx 400 [] [hdB true, hdTake sz x.1 0 (insAt x.1 n who L), hdE (hol true sz L)] ?_
      conv => whnf
      try dsimp only [rowL, rowN, growOk, hiN, fromL, tightN, maxOk]
      try simp (disch := omega) only [wI, wU64, wU32, wU8, Int.toNat_natCast, toNat_succ, toNat_pred, Int.reduceToNat, Option.getD_some, Option.getD_none, Nat.sub_zero, Nat.zero_add]
      refine ⟨?_, ?_⟩
      · exact ⟨rHolesB (r := 0) rfl (.of rfl rfl (fun _ _ => rfl)) (by omega) hs hb, takeOk (r := 0) rfl (.of rfl rfl (fun _ _ => rfl)) (by omega) hs h1 ht hf, shownE⟩
      refine SG.loop (fun i : Nat => ⟨puts (List.replicate (Try.f6).ntmps .any) [(0, heapV 0 sz), (1, intV n), (2, intV who), (3, bpV 0), (7, trueV), (8, bpV 1), (9, intV x.1), (10, intV 0), (11, rsV 2), (12, intV i)], [some [.v (.int .i64 sz), .rs 0], some [.v (.int .i64 sz), .rs 1]], [some (rowE L), some (newE (insAt x.1 n who L)), some (newE (hol true sz L))], []⟩) (fun i => i ≤ (hol true sz L).length) (fun i => (hol true sz L).length - i) (0) (Nat.zero_le _) (fun h => SG.sub [0, 1] [0, 1, 2] ⟨?_, ?_, ?_, by decide, rfl, rfl, rfl, ?_⟩ h) ?_
      · repeat' (first | exact trivial | exact rfl | refine And.intro ?_ ?_)
      · repeat' (first | exact trivial | exact rfl | refine And.intro ?_ ?_)
      · repeat' (first | exact trivial | refine ⟨⟨_, rfl, ⟨rfl, rfl, .inl rfl, (fun h => by first | exact h | cases h), (fun h => by first | exact h | cases h), fun _ _ => rfl⟩, fun _ _ => rfl⟩, ?_⟩ | refine ⟨⟨_, rfl, ⟨rfl, rfl, .inr rfl, (fun h => by first | exact h | cases h), (fun h => by first | exact h | cases h), fun _ _ => rfl⟩, fun _ _ => rfl⟩, ?_⟩ | refine ⟨⟨_, rfl, ⟨rfl, rfl, .inr rfl, (fun h => by first | exact h | cases h), (fun h => by first | exact h | cases h), fun i hi => absurd hi (Nat.not_lt_zero i)⟩, fun i hi => absurd hi (Nat.not_lt_zero i)⟩, ?_⟩ | refine ⟨⟨_, rfl, ⟨rfl, rfl, .inl rfl, (fun h => by first | exact h | cases h), (fun h => by first | exact h | cases h), fun i hi => ren_closed (hQc i hi)⟩, fun i hi => inn_closed (hQc i hi)⟩, ?_⟩)
      · repeat' (first | exact trivial | exact rfl | refine And.intro ?_ ?_)
      intro i hi next
      by_cases hlt : i < (hol true sz L).length
      · by_cases hnn : n ≤ ((hol true sz L).getD i e0).2.1
        · have hfi : x.1 ≤ ((hol true sz L).getD i e0).1 := fit_first ht hf hlt hnn
          refine SG.walk tab_ok mx 400 [true, true, true, false, true, false] [] ?_
          conv => whnf
          try dsimp only [rowL, rowN, growOk, hiN, fromL, tightN, maxOk]
          try simp (disch := omega) only [wI, wU64, wU32, wU8, Int.toNat_natCast, toNat_succ, toNat_pred, Int.reduceToNat, Option.getD_some, Option.getD_none, Nat.sub_zero, Nat.zero_add]
          refine ⟨?_, ?_⟩
          · try simp only [beq_iff_eq, beq_eq_false_iff_ne, bne_iff_ne, bne_eq_false_iff_eq, decide_eq_true_eq, decide_eq_false_iff_not, ne_eq, Bool.not_eq_true', Bool.not_eq_false', Bool.not_eq_eq_eq_not, Bool.not_true, Bool.not_false, true_and, and_true]
            try omega
          refine SG.sub [0, 1] [0, 1, 2] ⟨?_, ?_, ?_, by decide, rfl, rfl, rfl, ?_⟩ (next (i + 1) hlt (by omega))
          · repeat' (first | exact trivial | exact rfl | refine And.intro ?_ ?_)
          · repeat' (first | exact trivial | exact rfl | refine And.intro ?_ ?_)
          · repeat' (first | exact trivial | refine ⟨⟨_, rfl, ⟨rfl, rfl, .inl rfl, (fun h => by first | exact h | cases h), (fun h => by first | exact h | cases h), fun _ _ => rfl⟩, fun _ _ => rfl⟩, ?_⟩ | refine ⟨⟨_, rfl, ⟨rfl, rfl, .inr rfl, (fun h => by first | exact h | cases h), (fun h => by first | exact h | cases h), fun _ _ => rfl⟩, fun _ _ => rfl⟩, ?_⟩ | refine ⟨⟨_, rfl, ⟨rfl, rfl, .inr rfl, (fun h => by first | exact h | cases h), (fun h => by first | exact h | cases h), fun i hi => absurd hi (Nat.not_lt_zero i)⟩, fun i hi => absurd hi (Nat.not_lt_zero i)⟩, ?_⟩ | refine ⟨⟨_, rfl, ⟨rfl, rfl, .inl rfl, (fun h => by first | exact h | cases h), (fun h => by first | exact h | cases h), fun i hi => ren_closed (hQc i hi)⟩, fun i hi => inn_closed (hQc i hi)⟩, ?_⟩)
          · repeat' (first | exact trivial | exact rfl | refine And.intro ?_ ?_)
        · refine SG.walk tab_ok mx 400 [true, false] [] ?_
          conv => whnf
          try dsimp only [rowL, rowN, growOk, hiN, fromL, tightN, maxOk]
          try simp (disch := omega) only [wI, wU64, wU32, wU8, Int.toNat_natCast, toNat_succ, toNat_pred, Int.reduceToNat, Option.getD_some, Option.getD_none, Nat.sub_zero, Nat.zero_add]
          refine ⟨?_, ?_⟩
          · try simp only [beq_iff_eq, beq_eq_false_iff_ne, bne_iff_ne, bne_eq_false_iff_eq, decide_eq_true_eq, decide_eq_false_iff_not, ne_eq, Bool.not_eq_true', Bool.not_eq_false', Bool.not_eq_eq_eq_not, Bool.not_true, Bool.not_false, true_and, and_true]
            try omega
          refine SG.sub [0, 1] [0, 1, 2] ⟨?_, ?_, ?_, by decide, rfl, rfl, rfl, ?_⟩ (next (i + 1) hlt (by omega))
          · repeat' (first | exact trivial | exact rfl | refine And.intro ?_ ?_)
          · repeat' (first | exact trivial | exact rfl | refine And.intro ?_ ?_)
          · repeat' (first | exact trivial | refine ⟨⟨_, rfl, ⟨rfl, rfl, .inl rfl, (fun h => by first | exact h | cases h), (fun h => by first | exact h | cases h), fun _ _ => rfl⟩, fun _ _ => rfl⟩, ?_⟩ | refine ⟨⟨_, rfl, ⟨rfl, rfl, .inr rfl, (fun h => by first | exact h | cases h), (fun h => by first | exact h | cases h), fun _ _ => rfl⟩, fun _ _ => rfl⟩, ?_⟩ | refine ⟨⟨_, rfl, ⟨rfl, rfl, .inr rfl, (fun h => by first | exact h | cases h), (fun h => by first | exact h | cases h), fun i hi => absurd hi (Nat.not_lt_zero i)⟩, fun i hi => absurd hi (Nat.not_lt_zero i)⟩, ?_⟩ | refine ⟨⟨_, rfl, ⟨rfl, rfl, .inl rfl, (fun h => by first | exact h | cases h), (fun h => by first | exact h | cases h), fun i hi => ren_closed (hQc i hi)⟩, fun i hi => inn_closed (hQc i hi)⟩, ?_⟩)
          · repeat' (first | exact trivial | exact rfl | refine And.intro ?_ ?_)
      · refine SG.walk tab_ok mx 400 [false, true] [] ?_
        conv => whnf
        try dsimp only [rowL, rowN, growOk, hiN, fromL, tightN, maxOk]
        try simp (disch := omega) only [wI, wU64, wU32, wU8, Int.toNat_natCast, toNat_succ, toNat_pred, Int.reduceToNat, Option.getD_some, Option.getD_none, Nat.sub_zero, Nat.zero_add]
        refine ⟨?_, ?_⟩
        · try simp only [beq_iff_eq, beq_eq_false_iff_ne, bne_iff_ne, bne_eq_false_iff_eq, decide_eq_true_eq, decide_eq_false_iff_not, ne_eq, Bool.not_eq_true', Bool.not_eq_false', Bool.not_eq_eq_eq_not, Bool.not_true, Bool.not_false, true_and, and_true]
          try omega
        refine SG.ret tab_ok Try.func6 rfl ?_
        intro ρ w' v hm hv
        exact top_true hm hv rfl
set_option maxRecDepth 100000 in
theorem stays_walk (w : World) (c : Value) (L : List E) (sz n who : Int) (hs : sz ≤ 9223372036854775807) (hrow : ∀ W' ρ, RowOk W' ρ w c (rowE L)) (hl : L.length ≤ 5864062014650) :
    Calls Try.prog 4 #[.agg #[.int .i64 sz, c], .int .i64 n, .int .i64 who] w fun e w' => e = .returned (.bool true) ∧ Below w.heap.size w w' := by
  obtain ⟨A, cap, rfl, _⟩ := (hrow ⟨w, none, [], []⟩ ⟨fun _ => none, fun _ => none⟩).form
  refine calls_top Try.func4 rfl [.slice A L.length cap] [rowE L] [heapV 0 sz, intV n, intV who] (.cons hrow rfl .nil) ⟨rfl, rfl, rfl, trivial⟩ ?_
  clear hrow
  have hfl : (freeL n L).length ≤ L.length := List.length_eraseP_le
  have hdl : (dropL who L).length ≤ L.length := List.length_filter_le _ _
  by_cases ht : Rt sz L
  · have hF := rt_free (a := n) ht
    have hD := rt_drop (who := who) ht
    obtain ⟨e, he⟩ : ∃ e : Int, e = if L.any (atB n) = true then 0 else 7 := ⟨_, rfl⟩
    by_cases hn : n < 1
    · refine SG.walk tab_ok mx 400 [true] [hdB true, hdB true, hdTake sz 0 1 L, hdFree sz e (freeL n L), hdB true, hdB true, hdHeap sz (dropL who L), hdB true] ?_
      conv => whnf
      try dsimp only [rowL, rowN, growOk, hiN, fromL, tightN, maxOk]
      try simp (disch := omega) only [wI, wU64, wU32, wU8, Int.toNat_natCast, toNat_succ, toNat_pred, Int.reduceToNat, Option.getD_some, Option.getD_none, Nat.sub_zero, Nat.zero_add]
      refine ⟨?_, ?_⟩
      · exact ⟨by decide, rightH (r := 3) rfl (.of rfl rfl (fun _ _ => rfl)) (by omega) hs ⟨fun _ => hD, fun _ => rfl⟩, dropH (r := 0) rfl (.of rfl rfl (fun _ _ => rfl)) (by omega), rightH (r := 2) rfl (.of rfl rfl (fun _ _ => rfl)) (by omega) hs ⟨fun _ => hF, fun _ => rfl⟩, rightH (r := 1) rfl (.of rfl rfl (fun _ _ => rfl)) (by omega) hs ⟨fun _ => ht, fun _ => rfl⟩, freeH (r := 0) rfl (.of rfl rfl (fun _ _ => rfl)) (by omega) he, takeArg (r := 0) rfl (.of rfl rfl (fun _ _ => rfl)) (by omega) hs (.inl hn), rightH (r := 0) rfl (.of rfl rfl (fun _ _ => rfl)) (by omega) hs ⟨fun _ => ht, fun _ => rfl⟩, shownE⟩
      refine SG.ret tab_ok Try.func4 rfl ?_
      intro ρ w' v hm hv
      exact top_true hm hv rfl
    · have h1 : 1 ≤ n := by omega
      cases hf : fit n sz L with
      | none =>
        refine SG.walk tab_ok mx 400 [true] [hdB true, hdB true, hdTake sz 0 5 L, hdFree sz e (freeL n L), hdB true, hdB true, hdHeap sz (dropL who L), hdB true] ?_
        conv => whnf
        try dsimp only [rowL, rowN, growOk, hiN, fromL, tightN, maxOk]
        try simp (disch := omega) only [wI, wU64, wU32, wU8, Int.toNat_natCast, toNat_succ, toNat_pred, Int.reduceToNat, Option.getD_some, Option.getD_none, Nat.sub_zero, Nat.zero_add]
        refine ⟨?_, ?_⟩
        · exact ⟨by decide, rightH (r := 3) rfl (.of rfl rfl (fun _ _ => rfl)) (by omega) hs ⟨fun _ => hD, fun _ => rfl⟩, dropH (r := 0) rfl (.of rfl rfl (fun _ _ => rfl)) (by omega), rightH (r := 2) rfl (.of rfl rfl (fun _ _ => rfl)) (by omega) hs ⟨fun _ => hF, fun _ => rfl⟩, rightH (r := 1) rfl (.of rfl rfl (fun _ _ => rfl)) (by omega) hs ⟨fun _ => ht, fun _ => rfl⟩, freeH (r := 0) rfl (.of rfl rfl (fun _ _ => rfl)) (by omega) he, takeFull (r := 0) rfl (.of rfl rfl (fun _ _ => rfl)) (by omega) hs h1 ht hf, rightH (r := 0) rfl (.of rfl rfl (fun _ _ => rfl)) (by omega) hs ⟨fun _ => ht, fun _ => rfl⟩, shownE⟩
        refine SG.ret tab_ok Try.func4 rfl ?_
        intro ρ w' v hm hv
        exact top_true hm hv rfl
      | some x =>
        obtain ⟨hx, hnx⟩ := fit_some hf
        have hM := rt_ins (who := who) ht hx h1 hnx
        have hlM := ins_len x.1 n who L
        obtain ⟨x1, x2, x3⟩ := hole_in ht hx
        have hap := fun {j : Nat} (hj : j < L.length) => hole_apart ht hx hj
        refine SG.walk tab_ok mx 400 [false] [hdB true, hdB true, hdTake sz x.1 0 (insAt x.1 n who L), hdFree sz e (freeL n L), hdB true, hdB true, hdHeap sz (dropL who L), hdB true] ?_
        conv => whnf
        try dsimp only [rowL, rowN, growOk, hiN, fromL, tightN, maxOk]
        try simp (disch := omega) only [wI, wU64, wU32, wU8, Int.toNat_natCast, toNat_succ, toNat_pred, Int.reduceToNat, Option.getD_some, Option.getD_none, Nat.sub_zero, Nat.zero_add]
        refine ⟨?_, ?_⟩
        · exact ⟨by decide, rightH (r := 3) rfl (.of rfl rfl (fun _ _ => rfl)) (by omega) hs ⟨fun _ => hD, fun _ => rfl⟩, dropH (r := 0) rfl (.of rfl rfl (fun _ _ => rfl)) (by omega), rightH (r := 2) rfl (.of rfl rfl (fun _ _ => rfl)) (by omega) hs ⟨fun _ => hF, fun _ => rfl⟩, rightH (r := 1) rfl (.of rfl rfl (fun _ _ => rfl)) (by omega) hs ⟨fun _ => hM, fun _ => rfl⟩, freeH (r := 0) rfl (.of rfl rfl (fun _ _ => rfl)) (by omega) he, takeOk (r := 0) rfl (.of rfl rfl (fun _ _ => rfl)) (by omega) hs h1 ht hf, rightH (r := 0) rfl (.of rfl rfl (fun _ _ => rfl)) (by omega) hs ⟨fun _ => ht, fun _ => rfl⟩, shownE⟩
        refine SG.loop (fun k : Nat => ⟨puts (List.replicate (Try.f4).ntmps .any) [(0, heapV 0 sz), (1, intV n), (2, intV who), (3, bpV 0), (7, trueV), (8, bpV 1), (9, intV x.1), (13, intV k)], [some [.v (.int .i64 sz), .rs 0], some [.v (.int .i64 sz), .rs 1]], [some (rowE L), some (newE (insAt x.1 n who L))], []⟩) (fun k => k ≤ L.length) (fun k => L.length - k) (0) (Nat.zero_le _) (fun h => SG.sub [0, 1] [0, 1] ⟨?_, ?_, ?_, by decide, rfl, rfl, rfl, ?_⟩ h) ?_
        · repeat' (first | exact trivial | exact rfl | refine And.intro ?_ ?_)
        · repeat' (first | exact trivial | exact rfl | refine And.intro ?_ ?_)
        · repeat' (first | exact trivial | refine ⟨⟨_, rfl, ⟨rfl, rfl, .inl rfl, (fun h => by first | exact h | cases h), (fun h => by first | exact h | cases h), fun _ _ => rfl⟩, fun _ _ => rfl⟩, ?_⟩ | refine ⟨⟨_, rfl, ⟨rfl, rfl, .inr rfl, (fun h => by first | exact h | cases h), (fun h => by first | exact h | cases h), fun _ _ => rfl⟩, fun _ _ => rfl⟩, ?_⟩ | refine ⟨⟨_, rfl, ⟨rfl, rfl, .inr rfl, (fun h => by first | exact h | cases h), (fun h => by first | exact h | cases h), fun i hi => absurd hi (Nat.not_lt_zero i)⟩, fun i hi => absurd hi (Nat.not_lt_zero i)⟩, ?_⟩ | refine ⟨⟨_, rfl, ⟨rfl, rfl, .inl rfl, (fun h => by first | exact h | cases h), (fun h => by first | exact h | cases h), fun i hi => ren_closed (hQc i hi)⟩, fun i hi => inn_closed (hQc i hi)⟩, ?_⟩)
        · repeat' (first | exact trivial | exact rfl | refine And.intro ?_ ?_)
        intro k hk next
        by_cases hlk : k < L.length
        · obtain ⟨a, b, c, d⟩ := ht.2 k hlk
          have g0 := end_ok ht.1 (fun j hj => ht.2 j (by omega) : ∀ j, j < k → OkAt sz L j)
          by_cases h3 : (L.getD k e0).1 < x.1 + n
          · have hxx := (hap hlk).resolve_right (by omega)
            refine SG.walk tab_ok mx 400 [true, true, false] [] ?_
            conv => whnf
            try dsimp only [rowL, rowN, growOk, hiN, fromL, tightN, maxOk]
            try simp (disch := omega) only [wI, wU64, wU32, wU8, Int.toNat_natCast, toNat_succ, toNat_pred, Int.reduceToNat, Option.getD_some, Option.getD_none, Nat.sub_zero, Nat.zero_add]
            refine ⟨?_, ?_⟩
            · try simp only [beq_iff_eq, beq_eq_false_iff_ne, bne_iff_ne, bne_eq_false_iff_eq, decide_eq_true_eq, decide_eq_false_iff_not, ne_eq, Bool.not_eq_true', Bool.not_eq_false', Bool.not_eq_eq_eq_not, Bool.not_true, Bool.not_false, true_and, and_true]
              try omega
            refine SG.sub [0, 1] [0, 1] ⟨?_, ?_, ?_, by decide, rfl, rfl, rfl, ?_⟩ (next (k + 1) hlk (by omega))
            · repeat' (first | exact trivial | exact rfl | refine And.intro ?_ ?_)
            · repeat' (first | exact trivial | exact rfl | refine And.intro ?_ ?_)
            · repeat' (first | exact trivial | refine ⟨⟨_, rfl, ⟨rfl, rfl, .inl rfl, (fun h => by first | exact h | cases h), (fun h => by first | exact h | cases h), fun _ _ => rfl⟩, fun _ _ => rfl⟩, ?_⟩ | refine ⟨⟨_, rfl, ⟨rfl, rfl, .inr rfl, (fun h => by first | exact h | cases h), (fun h => by first | exact h | cases h), fun _ _ => rfl⟩, fun _ _ => rfl⟩, ?_⟩ | refine ⟨⟨_, rfl, ⟨rfl, rfl, .inr rfl, (fun h => by first | exact h | cases h), (fun h => by first | exact h | cases h), fun i hi => absurd hi (Nat.not_lt_zero i)⟩, fun i hi => absurd hi (Nat.not_lt_zero i)⟩, ?_⟩ | refine ⟨⟨_, rfl, ⟨rfl, rfl, .inl rfl, (fun h => by first | exact h | cases h), (fun h => by first | exact h | cases h), fun i hi => ren_closed (hQc i hi)⟩, fun i hi => inn_closed (hQc i hi)⟩, ?_⟩)
            · repeat' (first | exact trivial | exact rfl | refine And.intro ?_ ?_)
          · refine SG.walk tab_ok mx 400 [true, false] [] ?_
            conv => whnf
            try dsimp only [rowL, rowN, growOk, hiN, fromL, tightN, maxOk]
            try simp (disch := omega) only [wI, wU64, wU32, wU8, Int.toNat_natCast, toNat_succ, toNat_pred, Int.reduceToNat, Option.getD_some, Option.getD_none, Nat.sub_zero, Nat.zero_add]
            refine ⟨?_, ?_⟩
            · try simp only [beq_iff_eq, beq_eq_false_iff_ne, bne_iff_ne, bne_eq_false_iff_eq, decide_eq_true_eq, decide_eq_false_iff_not, ne_eq, Bool.not_eq_true', Bool.not_eq_false', Bool.not_eq_eq_eq_not, Bool.not_true, Bool.not_false, true_and, and_true]
              try omega
            refine SG.sub [0, 1] [0, 1] ⟨?_, ?_, ?_, by decide, rfl, rfl, rfl, ?_⟩ (next (k + 1) hlk (by omega))
            · repeat' (first | exact trivial | exact rfl | refine And.intro ?_ ?_)
            · repeat' (first | exact trivial | exact rfl | refine And.intro ?_ ?_)
            · repeat' (first | exact trivial | refine ⟨⟨_, rfl, ⟨rfl, rfl, .inl rfl, (fun h => by first | exact h | cases h), (fun h => by first | exact h | cases h), fun _ _ => rfl⟩, fun _ _ => rfl⟩, ?_⟩ | refine ⟨⟨_, rfl, ⟨rfl, rfl, .inr rfl, (fun h => by first | exact h | cases h), (fun h => by first | exact h | cases h), fun _ _ => rfl⟩, fun _ _ => rfl⟩, ?_⟩ | refine ⟨⟨_, rfl, ⟨rfl, rfl, .inr rfl, (fun h => by first | exact h | cases h), (fun h => by first | exact h | cases h), fun i hi => absurd hi (Nat.not_lt_zero i)⟩, fun i hi => absurd hi (Nat.not_lt_zero i)⟩, ?_⟩ | refine ⟨⟨_, rfl, ⟨rfl, rfl, .inl rfl, (fun h => by first | exact h | cases h), (fun h => by first | exact h | cases h), fun i hi => ren_closed (hQc i hi)⟩, fun i hi => inn_closed (hQc i hi)⟩, ?_⟩)
            · repeat' (first | exact trivial | exact rfl | refine And.intro ?_ ?_)
        · refine SG.walk tab_ok mx 400 [false, true, true, true] [] ?_
          conv => whnf
          try dsimp only [rowL, rowN, growOk, hiN, fromL, tightN, maxOk]
          try simp (disch := omega) only [wI, wU64, wU32, wU8, Int.toNat_natCast, toNat_succ, toNat_pred, Int.reduceToNat, Option.getD_some, Option.getD_none, Nat.sub_zero, Nat.zero_add]
          refine ⟨?_, ?_⟩
          · try simp only [beq_iff_eq, beq_eq_false_iff_ne, bne_iff_ne, bne_eq_false_iff_eq, decide_eq_true_eq, decide_eq_false_iff_not, ne_eq, Bool.not_eq_true', Bool.not_eq_false', Bool.not_eq_eq_eq_not, Bool.not_true, Bool.not_false, true_and, and_true]
            try omega
          refine SG.ret tab_ok Try.func4 rfl ?_
          intro ρ w' v hm hv
          exact top_v hm hv (by simp only [beq_iff_eq]; omega)
  · refine SG.walk tab_ok mx 400 [] [hdB true, hdB false] ?_
    conv => whnf
    try dsimp only [rowL, rowN, growOk, hiN, fromL, tightN, maxOk]
    try simp (disch := omega) only [wI, wU64, wU32, wU8, Int.toNat_natCast, toNat_succ, toNat_pred, Int.reduceToNat, Option.getD_some, Option.getD_none, Nat.sub_zero, Nat.zero_add]
    refine ⟨?_, ?_⟩
    · exact ⟨rightH (r := 0) rfl (.of rfl rfl (fun _ _ => rfl)) (by omega) hs ⟨(fun h => by cases h), fun h => absurd h ht⟩, shownE⟩
    refine SG.ret tab_ok Try.func4 rfl ?_
    intro ρ w' v hm hv
    exact top_true hm hv rfl
set_option maxRecDepth 100000 in
theorem back_walk (w : World) (c : Value) (L : List E) (sz n who : Int) (hs : sz ≤ 9223372036854775807) (hrow : ∀ W' ρ, RowOk W' ρ w c (rowE L)) (hl : L.length ≤ 5864062014650) :
    Calls Try.prog 5 #[.agg #[.int .i64 sz, c], .int .i64 n, .int .i64 who] w fun e w' => e = .returned (.bool true) ∧ Below w.heap.size w w' := by
  obtain ⟨A, cap, rfl, _⟩ := (hrow ⟨w, none, [], []⟩ ⟨fun _ => none, fun _ => none⟩).form
  refine calls_top Try.func5 rfl [.slice A L.length cap] [rowE L] [heapV 0 sz, intV n, intV who] (.cons hrow rfl .nil) ⟨rfl, rfl, rfl, trivial⟩ ?_
  clear hrow
  by_cases hn : n < 1 ∨ ¬ Rt sz L
  · refine SG.walk tab_ok mx 400 [true] [hdB true, hdTake sz 0 1 L, hdB true] ?_
    conv => whnf
    try dsimp only [rowL, rowN, growOk, hiN, fromL, tightN, maxOk]
    try simp (disch := omega) only [wI, wU64, wU32, wU8, Int.toNat_natCast, toNat_succ, toNat_pred, Int.reduceToNat, Option.getD_some, Option.getD_none, Nat.sub_zero, Nat.zero_add]
    refine ⟨?_, ?_⟩
    · exact ⟨rSame (r := 0) (q := 1) rfl (.of rfl rfl (fun _ _ => rfl)) rfl (.of rfl rfl (fun _ _ => rfl)) (by omega) rfl rfl, by decide, takeArg (r := 0) rfl (.of rfl rfl (fun _ _ => rfl)) (by omega) hs hn, shownE⟩
    refine SG.ret tab_ok Try.func5 rfl ?_
    intro ρ w' v hm hv
    exact top_true hm hv rfl
  · have h1 : 1 ≤ n := by omega
    have ht : Rt sz L := Classical.byContradiction fun h => hn (.inr h)
    cases hf : fit n sz L with
    | none =>
      refine SG.walk tab_ok mx 400 [true] [hdB true, hdTake sz 0 5 L, hdB true] ?_
      conv => whnf
      try dsimp only [rowL, rowN, growOk, hiN, fromL, tightN, maxOk]
      try simp (disch := omega) only [wI, wU64, wU32, wU8, Int.toNat_natCast, toNat_succ, toNat_pred, Int.reduceToNat, Option.getD_some, Option.getD_none, Nat.sub_zero, Nat.zero_add]
      refine ⟨?_, ?_⟩
      · exact ⟨rSame (r := 0) (q := 1) rfl (.of rfl rfl (fun _ _ => rfl)) rfl (.of rfl rfl (fun _ _ => rfl)) (by omega) rfl rfl, by decide, takeFull (r := 0) rfl (.of rfl rfl (fun _ _ => rfl)) (by omega) hs h1 ht hf, shownE⟩
      refine SG.ret tab_ok Try.func5 rfl ?_
      intro ρ w' v hm hv
      exact top_true hm hv rfl
    | some x =>
      obtain ⟨hx, hnx⟩ := fit_some hf
      have hM := rt_ins (who := who) ht hx h1 hnx
      have hlM := ins_len x.1 n who L
      obtain ⟨hfr, hany⟩ := free_ins (n := n) (who := who) ht hx
      refine SG.walk tab_ok mx 400 [false, true] [hdB true, hdTake sz x.1 0 (insAt x.1 n who L), hdFree sz 0 L, hdB true, hdInt (sumN (holes sz (insAt x.1 n who L))), hdInt (sumN (holes sz L))] ?_
      conv => whnf
      try dsimp only [rowL, rowN, growOk, hiN, fromL, tightN, maxOk]
      try simp (disch := omega) only [wI, wU64, wU32, wU8, Int.toNat_natCast, toNat_succ, toNat_pred, Int.reduceToNat, Option.getD_some, Option.getD_none, Nat.sub_zero, Nat.zero_add]
      refine ⟨?_, ?_⟩
      · exact ⟨leftH (r := 0) (b := true) rfl (.of rfl rfl (fun _ _ => rfl)) (by omega) hs ⟨fun _ => ht, fun _ => rfl⟩, leftH (r := 1) (b := true) rfl (.of rfl rfl (fun _ _ => rfl)) (by omega) hs ⟨fun _ => hM, fun _ => rfl⟩, rSame (r := 2) (q := 0) rfl (.of rfl rfl (fun _ _ => rfl)) rfl (.of rfl rfl (fun _ _ => rfl)) (by omega) rfl rfl, by decide, freeM (r := 1) rfl (.of rfl rfl (fun _ _ => rfl)) (by omega) (by rw [hany]; rfl) hfr, by decide, takeOk (r := 0) rfl (.of rfl rfl (fun _ _ => rfl)) (by omega) hs h1 ht hf, shownE⟩
      have s1 := sum_holes hM
      have s2 := sum_holes ht
      have s3 := sum_ins x.1 n who L
      have s4 := sumN_nn (holes_pos sz (insAt x.1 n who L))
      have s5 := sumN_L ht
      refine SG.ret tab_ok Try.func5 rfl ?_
      intro ρ w' v hm hv
      exact top_v hm hv (by rw [wI' (by omega) (by omega)]; simp only [beq_iff_eq]; omega)
set_option maxRecDepth 100000 in
theorem merges_walk (w : World) (c : Value) (L : List E) (sz who : Int) (hs : sz ≤ 9223372036854775807) (hrow : ∀ W' ρ, RowOk W' ρ w c (rowE L)) (hl : L.length ≤ 5864062014650) :
    Calls Try.prog 9 #[.agg #[.int .i64 sz, c], .int .i64 who] w fun e w' => e = .returned (.bool true) ∧ Below w.heap.size w w' := by
  obtain ⟨A, cap, rfl, _⟩ := (hrow ⟨w, none, [], []⟩ ⟨fun _ => none, fun _ => none⟩).form
  refine calls_top Try.func9 rfl [.slice A L.length cap] [rowE L] [heapV 0 sz, intV who] (.cons hrow rfl .nil) ⟨rfl, rfl, trivial⟩ ?_
  clear hrow
  by_cases ht : Rt sz L
  · have hdl : (dropL who L).length ≤ L.length := List.length_filter_le _ _
    have hD := rt_drop (who := who) ht
    refine SG.walk tab_ok mx 400 [] [hdB true, hdB true, hdHeap sz (dropL who L)] ?_
    conv => whnf
    try dsimp only [rowL, rowN, growOk, hiN, fromL, tightN, maxOk]
    try simp (disch := omega) only [wI, wU64, wU32, wU8, Int.toNat_natCast, toNat_succ, toNat_pred, Int.reduceToNat, Option.getD_some, Option.getD_none, Nat.sub_zero, Nat.zero_add]
    refine ⟨?_, ?_⟩
    · exact ⟨dropH (r := 0) rfl (.of rfl rfl (fun _ _ => rfl)) (by omega), rightH (r := 0) rfl (.of rfl rfl (fun _ _ => rfl)) (by omega) hs ⟨fun _ => ht, fun _ => rfl⟩, shownE⟩
    have s1 := sum_holes ht
    have s2 := sum_holes hD
    have s3 := sumN_L ht
    have s4 := sumN_L hD
    have s5 := sum_drop who L
    have s6 := sumN_nn (holes_pos sz L)
    have s7 := sumN_nn (holes_pos sz (dropL who L))
    have hhl := holes_len sz (dropL who L)
    have bnd : ∀ k, 0 ≤ sumN ((L.take k).filter (whoB who)) ∧ sumN ((L.take k).filter (whoB who)) ≤ sumN (L.take k) := fun k => by
      have g1 := sum_drop who (L.take k)
      have pos : ∀ x ∈ L, 1 ≤ x.2.1 := fun x hx => ((rt_iff.1 ht).2.1 x hx).2.2.1
      have g2 := sumN_nn (l := dropL who (L.take k)) (fun x hx => pos x (List.mem_of_mem_take (List.mem_filter.1 hx).1))
      have g3 := sumN_nn (l := (L.take k).filter (whoB who)) (fun x hx => pos x (List.mem_of_mem_take (List.mem_filter.1 hx).1))
      omega
    refine SG.loop (fun k : Nat => ⟨puts (List.replicate (Try.f9).ntmps .any) [(0, heapV 0 sz), (1, intV who), (2, bpV 0), (5, trueV), (6, bpV 1), (7, intV (sumN ((L.take k).filter (whoB who)))), (8, intV k)], [some [.v (.int .i64 sz), .rs 0], some [.v (.int .i64 sz), .rs 1]], [some (rowE L), some (newE (dropL who L))], []⟩) (fun k => k ≤ L.length) (fun k => L.length - k) (0) (Nat.zero_le _) (fun h => SG.sub [0, 1] [0, 1] ⟨?_, ?_, ?_, by decide, rfl, rfl, rfl, ?_⟩ h) ?_
    · repeat' (first | exact trivial | exact rfl | refine And.intro ?_ ?_)
    · repeat' (first | exact trivial | exact rfl | refine And.intro ?_ ?_)
    · repeat' (first | exact trivial | refine ⟨⟨_, rfl, ⟨rfl, rfl, .inl rfl, (fun h => by first | exact h | cases h), (fun h => by first | exact h | cases h), fun _ _ => rfl⟩, fun _ _ => rfl⟩, ?_⟩ | refine ⟨⟨_, rfl, ⟨rfl, rfl, .inr rfl, (fun h => by first | exact h | cases h), (fun h => by first | exact h | cases h), fun _ _ => rfl⟩, fun _ _ => rfl⟩, ?_⟩ | refine ⟨⟨_, rfl, ⟨rfl, rfl, .inr rfl, (fun h => by first | exact h | cases h), (fun h => by first | exact h | cases h), fun i hi => absurd hi (Nat.not_lt_zero i)⟩, fun i hi => absurd hi (Nat.not_lt_zero i)⟩, ?_⟩ | refine ⟨⟨_, rfl, ⟨rfl, rfl, .inl rfl, (fun h => by first | exact h | cases h), (fun h => by first | exact h | cases h), fun i hi => ren_closed (hQc i hi)⟩, fun i hi => inn_closed (hQc i hi)⟩, ?_⟩)
    · repeat' (first | exact trivial | exact rfl | refine And.intro ?_ ?_)
    intro k hk next
    by_cases hlt : k < L.length
    · have b1 := bnd (k + 1)
      have b2 := sum_take ht (k := k + 1) hlt
      have b3 := bnd k
      by_cases hp : (L.getD k e0).2.2 = who
      · have e : sumN ((L.take (k + 1)).filter (whoB who)) = sumN ((L.take k).filter (whoB who)) + (L.getD k e0).2.1 := by
          rw [filt_take_yes (d := e0) hlt (by simp [whoB, hp, - List.getD_eq_getElem?_getD]), sumN_app]; simp [sumN]
        rw [e] at b1
        refine SG.walk tab_ok mx 400 [true, true] [] ?_
        conv => whnf
        try dsimp only [rowL, rowN, growOk, hiN, fromL, tightN, maxOk]
        try simp (disch := omega) only [wI, wU64, wU32, wU8, Int.toNat_natCast, toNat_succ, toNat_pred, Int.reduceToNat, Option.getD_some, Option.getD_none, Nat.sub_zero, Nat.zero_add]
        refine ⟨?_, ?_⟩
        · try simp only [beq_iff_eq, beq_eq_false_iff_ne, bne_iff_ne, bne_eq_false_iff_eq, decide_eq_true_eq, decide_eq_false_iff_not, ne_eq, Bool.not_eq_true', Bool.not_eq_false', Bool.not_eq_eq_eq_not, Bool.not_true, Bool.not_false, true_and, and_true]
          try omega
        refine SG.sub [0, 1] [0, 1] ⟨?_, ?_, ?_, by decide, rfl, rfl, rfl, ?_⟩ (by have := next (k + 1) hlt (by omega); rw [e] at this; exact this)
        · repeat' (first | exact trivial | exact rfl | refine And.intro ?_ ?_)
        · repeat' (first | exact trivial | exact rfl | refine And.intro ?_ ?_)
        · repeat' (first | exact trivial | refine ⟨⟨_, rfl, ⟨rfl, rfl, .inl rfl, (fun h => by first | exact h | cases h), (fun h => by first | exact h | cases h), fun _ _ => rfl⟩, fun _ _ => rfl⟩, ?_⟩ | refine ⟨⟨_, rfl, ⟨rfl, rfl, .inr rfl, (fun h => by first | exact h | cases h), (fun h => by first | exact h | cases h), fun _ _ => rfl⟩, fun _ _ => rfl⟩, ?_⟩ | refine ⟨⟨_, rfl, ⟨rfl, rfl, .inr rfl, (fun h => by first | exact h | cases h), (fun h => by first | exact h | cases h), fun i hi => absurd hi (Nat.not_lt_zero i)⟩, fun i hi => absurd hi (Nat.not_lt_zero i)⟩, ?_⟩ | refine ⟨⟨_, rfl, ⟨rfl, rfl, .inl rfl, (fun h => by first | exact h | cases h), (fun h => by first | exact h | cases h), fun i hi => ren_closed (hQc i hi)⟩, fun i hi => inn_closed (hQc i hi)⟩, ?_⟩)
        · repeat' (first | exact trivial | exact rfl | refine And.intro ?_ ?_)
      · have e : sumN ((L.take (k + 1)).filter (whoB who)) = sumN ((L.take k).filter (whoB who)) := by
          rw [filt_take_no (d := e0) hlt (by simp [whoB, hp, - List.getD_eq_getElem?_getD])]
        refine SG.walk tab_ok mx 400 [true, false] [] ?_
        conv => whnf
        try dsimp only [rowL, rowN, growOk, hiN, fromL, tightN, maxOk]
        try simp (disch := omega) only [wI, wU64, wU32, wU8, Int.toNat_natCast, toNat_succ, toNat_pred, Int.reduceToNat, Option.getD_some, Option.getD_none, Nat.sub_zero, Nat.zero_add]
        refine ⟨?_, ?_⟩
        · try simp only [beq_iff_eq, beq_eq_false_iff_ne, bne_iff_ne, bne_eq_false_iff_eq, decide_eq_true_eq, decide_eq_false_iff_not, ne_eq, Bool.not_eq_true', Bool.not_eq_false', Bool.not_eq_eq_eq_not, Bool.not_true, Bool.not_false, true_and, and_true]
          try omega
        refine SG.sub [0, 1] [0, 1] ⟨?_, ?_, ?_, by decide, rfl, rfl, rfl, ?_⟩ (by have := next (k + 1) hlt (by omega); rw [e] at this; exact this)
        · repeat' (first | exact trivial | exact rfl | refine And.intro ?_ ?_)
        · repeat' (first | exact trivial | exact rfl | refine And.intro ?_ ?_)
        · repeat' (first | exact trivial | refine ⟨⟨_, rfl, ⟨rfl, rfl, .inl rfl, (fun h => by first | exact h | cases h), (fun h => by first | exact h | cases h), fun _ _ => rfl⟩, fun _ _ => rfl⟩, ?_⟩ | refine ⟨⟨_, rfl, ⟨rfl, rfl, .inr rfl, (fun h => by first | exact h | cases h), (fun h => by first | exact h | cases h), fun _ _ => rfl⟩, fun _ _ => rfl⟩, ?_⟩ | refine ⟨⟨_, rfl, ⟨rfl, rfl, .inr rfl, (fun h => by first | exact h | cases h), (fun h => by first | exact h | cases h), fun i hi => absurd hi (Nat.not_lt_zero i)⟩, fun i hi => absurd hi (Nat.not_lt_zero i)⟩, ?_⟩ | refine ⟨⟨_, rfl, ⟨rfl, rfl, .inl rfl, (fun h => by first | exact h | cases h), (fun h => by first | exact h | cases h), fun i hi => ren_closed (hQc i hi)⟩, fun i hi => inn_closed (hQc i hi)⟩, ?_⟩)
        · repeat' (first | exact trivial | exact rfl | refine And.intro ?_ ?_)
    · rw [List.take_of_length_le (by omega)]
      refine SG.walk tab_ok mx 400 [false, true] [hdInt (sumN (holes sz (dropL who L))), hdInt (sumN (holes sz L)), hdE (holes sz (dropL who L))] ?_
      conv => whnf
      try dsimp only [rowL, rowN, growOk, hiN, fromL, tightN, maxOk]
      try simp (disch := omega) only [wI, wU64, wU32, wU8, Int.toNat_natCast, toNat_succ, toNat_pred, Int.reduceToNat, Option.getD_some, Option.getD_none, Nat.sub_zero, Nat.zero_add]
      refine ⟨?_, ?_⟩
      · refine ⟨holesH (r := 1) rfl (.of rfl rfl (fun _ _ => rfl)) (by omega) hs hD, ?_, leftH (r := 0) (b := true) rfl (.of rfl rfl (fun _ _ => rfl)) (by omega) hs ⟨fun _ => ht, fun _ => rfl⟩, leftH (r := 1) (b := true) rfl (.of rfl rfl (fun _ _ => rfl)) (by omega) hs ⟨fun _ => hD, fun _ => rfl⟩, ?_⟩
        · simp only [beq_iff_eq]; omega
        · try simp only [beq_iff_eq, beq_eq_false_iff_ne, bne_iff_ne, bne_eq_false_iff_eq, decide_eq_true_eq, decide_eq_false_iff_not, ne_eq, Bool.not_eq_true', Bool.not_eq_false', Bool.not_eq_eq_eq_not, Bool.not_true, Bool.not_false, true_and, and_true]
          try omega
      refine SG.ret tab_ok Try.func9 rfl ?_
      intro ρ w' v hm hv
      exact top_v hm hv (by have e1 : (newE (holes sz (dropL who L))).len = (holes sz (dropL who L)).length := rfl; simp only [decide_eq_true_eq]; omega)
  · refine SG.walk tab_ok mx 400 [] [hdB true, hdB false] ?_
    conv => whnf
    try dsimp only [rowL, rowN, growOk, hiN, fromL, tightN, maxOk]
    try simp (disch := omega) only [wI, wU64, wU32, wU8, Int.toNat_natCast, toNat_succ, toNat_pred, Int.reduceToNat, Option.getD_some, Option.getD_none, Nat.sub_zero, Nat.zero_add]
    refine ⟨?_, ?_⟩
    · exact ⟨rightH (r := 0) rfl (.of rfl rfl (fun _ _ => rfl)) (by omega) hs ⟨(fun h => by cases h), fun h => absurd h ht⟩, shownE⟩
    refine SG.ret tab_ok Try.func9 rfl ?_
    intro ρ w' v hm hv
    exact top_true hm hv rfl
end Go.Proofs.Ytpbpgkkfpfenhaa
