/- Alarms: statements, on. -/
import Derived.Test.YtjelflknbhklnaaSlF
namespace Go.Proofs.Ytjelflknbhklnaa
open Go.Sx Go.RowKit
set_option linter.unusedVariables false
set_option linter.unusedSimpArgs false
open Classical in
theorem srt_b (L : List E) : ∃ b : Bool, (b = true ↔ Srt L) := ⟨decide (Srt L), by simp⟩
set_option maxRecDepth 100000 in
theorem wakes_walk (w : World) (c : Value) (L : List E) (now : Int) (hrow : ∀ W' ρ, RowOk W' ρ w c (rowE L)) (hl : L.length ≤ 8796093022000) :
    Calls Try.prog 5 #[c, .int .u64 now] w fun e w' => e = .returned (.bool true) ∧ Below w.heap.size w w' := by
  obtain ⟨A, cap, rfl, _⟩ := (hrow ⟨w, none, []⟩ ⟨fun _ => none, fun _ => none⟩).form
  refine calls_top Try.func5 rfl [.slice A L.length cap] [rowE L] [rsV 0, .cv (.one (.v (.int .u64 now)))] (.cons hrow rfl .nil) ⟨rfl, rfl, trivial⟩ ?_
  clear hrow
  obtain ⟨b, hb⟩ := srt_b L
  cases b with
  | false =>
    refine SG.walk tab_ok mx 400 [] [hdB true, hdB false] ?_
    conv => whnf
    try dsimp only [rowL, rowN, growOk, hiN, fromL, tightN, maxOk]
    try simp (disch := omega) only [wI, wU64, wU32, wU8, Int.toNat_natCast, toNat_succ, toNat_pred, Int.reduceToNat, Option.getD_some, Option.getD_none, Nat.sub_zero, Nat.zero_add]
    refine ⟨?_, ?_⟩
    · exact ⟨rRightE (r := 0) rfl (.of rfl rfl (fun _ _ => rfl)) (by omega) hb, shownE⟩
    refine SG.ret tab_ok Try.func5 rfl ?_
    intro ρ w' v hm hv
    exact top_true hm hv rfl
  | true =>
    have hs : Srt L := hb.1 rfl
    have h0 := List.findIdx_le_length (p := late now) (xs := L)
    have hdl := due_len now L
    have hrl := rest_len now L
    refine SG.walk tab_ok mx 400 [] [hdB true, hdB true, hdDue now L] ?_
    conv => whnf
    try dsimp only [rowL, rowN, growOk, hiN, fromL, tightN, maxOk]
    try simp (disch := omega) only [wI, wU64, wU32, wU8, Int.toNat_natCast, toNat_succ, toNat_pred, Int.reduceToNat, Option.getD_some, Option.getD_none, Nat.sub_zero, Nat.zero_add]
    refine ⟨?_, ?_⟩
    · exact ⟨dueM (r := 0) rfl (.of rfl rfl (fun _ _ => rfl)) (by omega) rfl rfl, rRightE (r := 0) rfl (.of rfl rfl (fun _ _ => rfl)) (by omega) hb, shownE⟩
    refine SG.loop (fun k : Nat => ⟨puts (List.replicate (Try.f5).ntmps .any) [(0, rsV 0), (1, .cv (.one (.v (.int .u64 now)))), (5, trueV), (7, rsV 1), (8, rsV 2), (9, intV (min k (L.findIdx (late now)) : Nat)), (10, intV k)], [], [some (rowE L), some (newI (dueI now L)), some (newE (restE now L))], []⟩) (fun k => k ≤ L.length) (fun k => L.length - k) (0) (Nat.zero_le _) (fun h => SG.sub [] [0, 1, 2] ⟨?_, ?_, ?_, by decide, rfl, rfl, rfl, ?_⟩ h) ?_
    · repeat' (first | exact trivial | exact rfl | refine And.intro ?_ ?_)
    · repeat' (first | exact trivial | exact rfl | refine And.intro ?_ ?_)
    · repeat' (first | exact trivial | refine ⟨⟨_, rfl, ⟨rfl, rfl, .inl rfl, (fun h => by first | exact h | cases h), (fun h => by first | exact h | cases h), fun _ _ => rfl⟩, fun _ _ => rfl⟩, ?_⟩ | refine ⟨⟨_, rfl, ⟨rfl, rfl, .inr rfl, (fun h => by first | exact h | cases h), (fun h => by first | exact h | cases h), fun _ _ => rfl⟩, fun _ _ => rfl⟩, ?_⟩ | refine ⟨⟨_, rfl, ⟨rfl, rfl, .inr rfl, (fun h => by first | exact h | cases h), (fun h => by first | exact h | cases h), fun i hi => absurd hi (Nat.not_lt_zero i)⟩, fun i hi => absurd hi (Nat.not_lt_zero i)⟩, ?_⟩ | refine ⟨⟨_, rfl, ⟨rfl, rfl, .inl rfl, (fun h => by first | exact h | cases h), (fun h => by first | exact h | cases h), fun i hi => ren_closed (hQc i hi)⟩, fun i hi => inn_closed (hQc i hi)⟩, ?_⟩)
    · repeat' (first | exact trivial | exact rfl | refine And.intro ?_ ?_)
    intro k hk next
    by_cases hlt : k < L.length
    · by_cases hkm : k < L.findIdx (late now)
      · have h1 := late_fore hkm
        have h2 := due_get hkm
        have e1 : min k (L.findIdx (late now)) = k := by omega
        have e2 : min (k + 1) (L.findIdx (late now)) = k + 1 := by omega
        rw [e1]
        refine SG.walk tab_ok mx 400 [true, true, false, false] [] ?_
        conv => whnf
        try dsimp only [rowL, rowN, growOk, hiN, fromL, tightN, maxOk]
        try simp (disch := omega) only [wI, wU64, wU32, wU8, Int.toNat_natCast, toNat_succ, toNat_pred, Int.reduceToNat, Option.getD_some, Option.getD_none, Nat.sub_zero, Nat.zero_add]
        refine ⟨?_, ?_⟩
        · rw [h2]
          refine ⟨by simp, ?_⟩
          try simp only [beq_iff_eq, beq_eq_false_iff_ne, bne_iff_ne, bne_eq_false_iff_eq, decide_eq_true_eq, decide_eq_false_iff_not, ne_eq, Bool.not_eq_true', Bool.not_eq_false', Bool.not_eq_eq_eq_not, Bool.not_true, Bool.not_false]
          try omega
        refine SG.sub [] [0, 1, 2] ⟨?_, ?_, ?_, by decide, rfl, rfl, rfl, ?_⟩ (by have := next (k + 1) hlt (by omega); rw [e2] at this; exact this)
        · repeat' (first | exact trivial | exact rfl | refine And.intro ?_ ?_)
        · repeat' (first | exact trivial | exact rfl | refine And.intro ?_ ?_)
        · repeat' (first | exact trivial | refine ⟨⟨_, rfl, ⟨rfl, rfl, .inl rfl, (fun h => by first | exact h | cases h), (fun h => by first | exact h | cases h), fun _ _ => rfl⟩, fun _ _ => rfl⟩, ?_⟩ | refine ⟨⟨_, rfl, ⟨rfl, rfl, .inr rfl, (fun h => by first | exact h | cases h), (fun h => by first | exact h | cases h), fun _ _ => rfl⟩, fun _ _ => rfl⟩, ?_⟩ | refine ⟨⟨_, rfl, ⟨rfl, rfl, .inr rfl, (fun h => by first | exact h | cases h), (fun h => by first | exact h | cases h), fun i hi => absurd hi (Nat.not_lt_zero i)⟩, fun i hi => absurd hi (Nat.not_lt_zero i)⟩, ?_⟩ | refine ⟨⟨_, rfl, ⟨rfl, rfl, .inl rfl, (fun h => by first | exact h | cases h), (fun h => by first | exact h | cases h), fun i hi => ren_closed (hQc i hi)⟩, fun i hi => inn_closed (hQc i hi)⟩, ?_⟩)
        · repeat' (first | exact trivial | exact rfl | refine And.intro ?_ ?_)
      · have h1 := late_aft hs (i := k) (n := now) (by omega) hlt
        have e2 : min (k + 1) (L.findIdx (late now)) = min k (L.findIdx (late now)) := by omega
        refine SG.walk tab_ok mx 400 [true, false] [] ?_
        conv => whnf
        try dsimp only [rowL, rowN, growOk, hiN, fromL, tightN, maxOk]
        try simp (disch := omega) only [wI, wU64, wU32, wU8, Int.toNat_natCast, toNat_succ, toNat_pred, Int.reduceToNat, Option.getD_some, Option.getD_none, Nat.sub_zero, Nat.zero_add]
        refine ⟨?_, ?_⟩
        · try simp only [beq_iff_eq, beq_eq_false_iff_ne, bne_iff_ne, bne_eq_false_iff_eq, decide_eq_true_eq, decide_eq_false_iff_not, ne_eq, Bool.not_eq_true', Bool.not_eq_false', Bool.not_eq_eq_eq_not, Bool.not_true, Bool.not_false]
          try omega
        refine SG.sub [] [0, 1, 2] ⟨?_, ?_, ?_, by decide, rfl, rfl, rfl, ?_⟩ (by have := next (k + 1) hlt (by omega); rw [e2] at this; exact this)
        · repeat' (first | exact trivial | exact rfl | refine And.intro ?_ ?_)
        · repeat' (first | exact trivial | exact rfl | refine And.intro ?_ ?_)
        · repeat' (first | exact trivial | refine ⟨⟨_, rfl, ⟨rfl, rfl, .inl rfl, (fun h => by first | exact h | cases h), (fun h => by first | exact h | cases h), fun _ _ => rfl⟩, fun _ _ => rfl⟩, ?_⟩ | refine ⟨⟨_, rfl, ⟨rfl, rfl, .inr rfl, (fun h => by first | exact h | cases h), (fun h => by first | exact h | cases h), fun _ _ => rfl⟩, fun _ _ => rfl⟩, ?_⟩ | refine ⟨⟨_, rfl, ⟨rfl, rfl, .inr rfl, (fun h => by first | exact h | cases h), (fun h => by first | exact h | cases h), fun i hi => absurd hi (Nat.not_lt_zero i)⟩, fun i hi => absurd hi (Nat.not_lt_zero i)⟩, ?_⟩ | refine ⟨⟨_, rfl, ⟨rfl, rfl, .inl rfl, (fun h => by first | exact h | cases h), (fun h => by first | exact h | cases h), fun i hi => ren_closed (hQc i hi)⟩, fun i hi => inn_closed (hQc i hi)⟩, ?_⟩)
        · repeat' (first | exact trivial | exact rfl | refine And.intro ?_ ?_)
    · have e1 : min k (L.findIdx (late now)) = L.findIdx (late now) := by omega
      rw [e1]
      refine SG.walk tab_ok mx 400 [false] [] ?_
      conv => whnf
      try dsimp only [rowL, rowN, growOk, hiN, fromL, tightN, maxOk]
      try simp (disch := omega) only [wI, wU64, wU32, wU8, Int.toNat_natCast, toNat_succ, toNat_pred, Int.reduceToNat, Option.getD_some, Option.getD_none, Nat.sub_zero, Nat.zero_add]
      refine ⟨?_, ?_⟩
      · simpa using hlt
      refine SG.loop (fun k : Nat => ⟨puts (List.replicate (Try.f5).ntmps .any) [(0, rsV 0), (1, .cv (.one (.v (.int .u64 now)))), (5, trueV), (7, rsV 1), (8, rsV 2), (9, intV (L.findIdx (late now) : Nat)), (11, intV k)], [], [some (rowE L), some (newI (dueI now L)), some (newE (restE now L))], []⟩) (fun k => k ≤ (restE now L).length) (fun k => (restE now L).length - k) (0) (Nat.zero_le _) (fun h => SG.sub [] [0, 1, 2] ⟨?_, ?_, ?_, by decide, rfl, rfl, rfl, ?_⟩ h) ?_
      · repeat' (first | exact trivial | exact rfl | refine And.intro ?_ ?_)
      · repeat' (first | exact trivial | exact rfl | refine And.intro ?_ ?_)
      · repeat' (first | exact trivial | refine ⟨⟨_, rfl, ⟨rfl, rfl, .inl rfl, (fun h => by first | exact h | cases h), (fun h => by first | exact h | cases h), fun _ _ => rfl⟩, fun _ _ => rfl⟩, ?_⟩ | refine ⟨⟨_, rfl, ⟨rfl, rfl, .inr rfl, (fun h => by first | exact h | cases h), (fun h => by first | exact h | cases h), fun _ _ => rfl⟩, fun _ _ => rfl⟩, ?_⟩ | refine ⟨⟨_, rfl, ⟨rfl, rfl, .inr rfl, (fun h => by first | exact h | cases h), (fun h => by first | exact h | cases h), fun i hi => absurd hi (Nat.not_lt_zero i)⟩, fun i hi => absurd hi (Nat.not_lt_zero i)⟩, ?_⟩ | refine ⟨⟨_, rfl, ⟨rfl, rfl, .inl rfl, (fun h => by first | exact h | cases h), (fun h => by first | exact h | cases h), fun i hi => ren_closed (hQc i hi)⟩, fun i hi => inn_closed (hQc i hi)⟩, ?_⟩)
      · repeat' (first | exact trivial | exact rfl | refine And.intro ?_ ?_)
      intro k hk next
      by_cases hlt : k < (restE now L).length
      · have h1 := late_aft hs (i := L.findIdx (late now) + k) (n := now) (by omega) (by omega)
        rw [← rest_get] at h1
        refine SG.walk tab_ok mx 400 [true, false] [] ?_
        conv => whnf
        try dsimp only [rowL, rowN, growOk, hiN, fromL, tightN, maxOk]
        try simp (disch := omega) only [wI, wU64, wU32, wU8, Int.toNat_natCast, toNat_succ, toNat_pred, Int.reduceToNat, Option.getD_some, Option.getD_none, Nat.sub_zero, Nat.zero_add]
        refine ⟨?_, ?_⟩
        · try simp only [beq_iff_eq, beq_eq_false_iff_ne, bne_iff_ne, bne_eq_false_iff_eq, decide_eq_true_eq, decide_eq_false_iff_not, ne_eq, Bool.not_eq_true', Bool.not_eq_false', Bool.not_eq_eq_eq_not, Bool.not_true, Bool.not_false]
          try omega
        refine SG.sub [] [0, 1, 2] ⟨?_, ?_, ?_, by decide, rfl, rfl, rfl, ?_⟩ (next (k + 1) hlt (by omega))
        · repeat' (first | exact trivial | exact rfl | refine And.intro ?_ ?_)
        · repeat' (first | exact trivial | exact rfl | refine And.intro ?_ ?_)
        · repeat' (first | exact trivial | refine ⟨⟨_, rfl, ⟨rfl, rfl, .inl rfl, (fun h => by first | exact h | cases h), (fun h => by first | exact h | cases h), fun _ _ => rfl⟩, fun _ _ => rfl⟩, ?_⟩ | refine ⟨⟨_, rfl, ⟨rfl, rfl, .inr rfl, (fun h => by first | exact h | cases h), (fun h => by first | exact h | cases h), fun _ _ => rfl⟩, fun _ _ => rfl⟩, ?_⟩ | refine ⟨⟨_, rfl, ⟨rfl, rfl, .inr rfl, (fun h => by first | exact h | cases h), (fun h => by first | exact h | cases h), fun i hi => absurd hi (Nat.not_lt_zero i)⟩, fun i hi => absurd hi (Nat.not_lt_zero i)⟩, ?_⟩ | refine ⟨⟨_, rfl, ⟨rfl, rfl, .inl rfl, (fun h => by first | exact h | cases h), (fun h => by first | exact h | cases h), fun i hi => ren_closed (hQc i hi)⟩, fun i hi => inn_closed (hQc i hi)⟩, ?_⟩)
        · repeat' (first | exact trivial | exact rfl | refine And.intro ?_ ?_)
      · refine SG.walk tab_ok mx 400 [false, true] [] ?_
        conv => whnf
        try dsimp only [rowL, rowN, growOk, hiN, fromL, tightN, maxOk]
        try simp (disch := omega) only [wI, wU64, wU32, wU8, Int.toNat_natCast, toNat_succ, toNat_pred, Int.reduceToNat, Option.getD_some, Option.getD_none, Nat.sub_zero, Nat.zero_add]
        refine ⟨?_, ?_⟩
        · refine ⟨by simp [hdl], by simpa using hlt⟩
        refine SG.ret tab_ok Try.func5 rfl ?_
        intro ρ w' v hm hv
        exact top_v hm hv (by rw [hrl]; simp only [beq_iff_eq]; omega)
set_option maxRecDepth 100000 in
theorem parts_walk (w : World) (c : Value) (L : List E) (now later : Int) (hrow : ∀ W' ρ, RowOk W' ρ w c (rowE L)) (hl : L.length ≤ 8796093022000) :
    Calls Try.prog 8 #[c, .int .u64 now, .int .u64 later] w fun e w' => e = .returned (.bool true) ∧ Below w.heap.size w w' := by
  obtain ⟨A, cap, rfl, _⟩ := (hrow ⟨w, none, []⟩ ⟨fun _ => none, fun _ => none⟩).form
  refine calls_top Try.func8 rfl [.slice A L.length cap] [rowE L] [rsV 0, .cv (.one (.v (.int .u64 now))), .cv (.one (.v (.int .u64 later)))] (.cons hrow rfl .nil) ⟨rfl, rfl, rfl, trivial⟩ ?_
  clear hrow
  have h0 := List.findIdx_le_length (p := late now) (xs := L)
  have hdl := due_len now L
  have hrl := rest_len now L
  by_cases hn : later < now
  · refine SG.walk tab_ok mx 400 [false, true] [hdB true, hdDue now L] ?_
    conv => whnf
    try dsimp only [rowL, rowN, growOk, hiN, fromL, tightN, maxOk]
    try simp (disch := omega) only [wI, wU64, wU32, wU8, Int.toNat_natCast, toNat_succ, toNat_pred, Int.reduceToNat, Option.getD_some, Option.getD_none, Nat.sub_zero, Nat.zero_add]
    refine ⟨?_, ?_⟩
    · refine ⟨?_, ?_, dueM (r := 0) rfl (.of rfl rfl (fun _ _ => rfl)) (by omega) rfl rfl, shownE⟩
      · try simp only [beq_iff_eq, beq_eq_false_iff_ne, bne_iff_ne, bne_eq_false_iff_eq, decide_eq_true_eq, decide_eq_false_iff_not, ne_eq, Bool.not_eq_true', Bool.not_eq_false', Bool.not_eq_eq_eq_not, Bool.not_true, Bool.not_false]
        try omega
      · try simp only [beq_iff_eq, beq_eq_false_iff_ne, bne_iff_ne, bne_eq_false_iff_eq, decide_eq_true_eq, decide_eq_false_iff_not, ne_eq, Bool.not_eq_true', Bool.not_eq_false', Bool.not_eq_eq_eq_not, Bool.not_true, Bool.not_false]
        try omega
    refine SG.ret tab_ok Try.func8 rfl ?_
    intro ρ w' v hm hv
    exact top_v hm hv (by rw [hdl, hrl]; simp only [beq_iff_eq]; omega)
  · refine SG.walk tab_ok mx 400 [false, false] [hdB true, hdDue now L] ?_
    conv => whnf
    try dsimp only [rowL, rowN, growOk, hiN, fromL, tightN, maxOk]
    try simp (disch := omega) only [wI, wU64, wU32, wU8, Int.toNat_natCast, toNat_succ, toNat_pred, Int.reduceToNat, Option.getD_some, Option.getD_none, Nat.sub_zero, Nat.zero_add]
    refine ⟨?_, ?_⟩
    · refine ⟨?_, ?_, dueM (r := 0) rfl (.of rfl rfl (fun _ _ => rfl)) (by omega) rfl rfl, shownE⟩
      · try simp only [beq_iff_eq, beq_eq_false_iff_ne, bne_iff_ne, bne_eq_false_iff_eq, decide_eq_true_eq, decide_eq_false_iff_not, ne_eq, Bool.not_eq_true', Bool.not_eq_false', Bool.not_eq_eq_eq_not, Bool.not_true, Bool.not_false]
        try omega
      · try simp only [beq_iff_eq, beq_eq_false_iff_ne, bne_iff_ne, bne_eq_false_iff_eq, decide_eq_true_eq, decide_eq_false_iff_not, ne_eq, Bool.not_eq_true', Bool.not_eq_false', Bool.not_eq_eq_eq_not, Bool.not_true, Bool.not_false]
        try omega
    refine SG.loop (fun k : Nat => ⟨puts (List.replicate (Try.f8).ntmps .any) [(0, rsV 0), (1, .cv (.one (.v (.int .u64 now)))), (2, .cv (.one (.v (.int .u64 later)))), (7, trueV), (8, rsV 1), (9, rsV 2), (10, intV k)], [], [some (rowE L), some (newI (dueI now L)), some (newE (restE now L))], []⟩) (fun k => k ≤ L.length) (fun k => L.length - k) (0) (Nat.zero_le _) (fun h => SG.sub [] [0, 1, 2] ⟨?_, ?_, ?_, by decide, rfl, rfl, rfl, ?_⟩ h) ?_
    · repeat' (first | exact trivial | exact rfl | refine And.intro ?_ ?_)
    · repeat' (first | exact trivial | exact rfl | refine And.intro ?_ ?_)
    · repeat' (first | exact trivial | refine ⟨⟨_, rfl, ⟨rfl, rfl, .inl rfl, (fun h => by first | exact h | cases h), (fun h => by first | exact h | cases h), fun _ _ => rfl⟩, fun _ _ => rfl⟩, ?_⟩ | refine ⟨⟨_, rfl, ⟨rfl, rfl, .inr rfl, (fun h => by first | exact h | cases h), (fun h => by first | exact h | cases h), fun _ _ => rfl⟩, fun _ _ => rfl⟩, ?_⟩ | refine ⟨⟨_, rfl, ⟨rfl, rfl, .inr rfl, (fun h => by first | exact h | cases h), (fun h => by first | exact h | cases h), fun i hi => absurd hi (Nat.not_lt_zero i)⟩, fun i hi => absurd hi (Nat.not_lt_zero i)⟩, ?_⟩ | refine ⟨⟨_, rfl, ⟨rfl, rfl, .inl rfl, (fun h => by first | exact h | cases h), (fun h => by first | exact h | cases h), fun i hi => ren_closed (hQc i hi)⟩, fun i hi => inn_closed (hQc i hi)⟩, ?_⟩)
    · repeat' (first | exact trivial | exact rfl | refine And.intro ?_ ?_)
    intro k hk next
    by_cases hlt : k < L.length
    · by_cases hkm : k < L.findIdx (late now)
      · have h2 := due_get hkm
        refine SG.walk tab_ok mx 400 [true, true, false, false] [] ?_
        conv => whnf
        try dsimp only [rowL, rowN, growOk, hiN, fromL, tightN, maxOk]
        try simp (disch := omega) only [wI, wU64, wU32, wU8, Int.toNat_natCast, toNat_succ, toNat_pred, Int.reduceToNat, Option.getD_some, Option.getD_none, Nat.sub_zero, Nat.zero_add]
        refine ⟨?_, ?_⟩
        · rw [h2]
          refine ⟨?_, by simp, ?_⟩
          · try simp only [beq_iff_eq, beq_eq_false_iff_ne, bne_iff_ne, bne_eq_false_iff_eq, decide_eq_true_eq, decide_eq_false_iff_not, ne_eq, Bool.not_eq_true', Bool.not_eq_false', Bool.not_eq_eq_eq_not, Bool.not_true, Bool.not_false]
            try omega
          · try simp only [beq_iff_eq, beq_eq_false_iff_ne, bne_iff_ne, bne_eq_false_iff_eq, decide_eq_true_eq, decide_eq_false_iff_not, ne_eq, Bool.not_eq_true', Bool.not_eq_false', Bool.not_eq_eq_eq_not, Bool.not_true, Bool.not_false]
            try omega
        refine SG.sub [] [0, 1, 2] ⟨?_, ?_, ?_, by decide, rfl, rfl, rfl, ?_⟩ (next (k + 1) hlt (by omega))
        · repeat' (first | exact trivial | exact rfl | refine And.intro ?_ ?_)
        · repeat' (first | exact trivial | exact rfl | refine And.intro ?_ ?_)
        · repeat' (first | exact trivial | refine ⟨⟨_, rfl, ⟨rfl, rfl, .inl rfl, (fun h => by first | exact h | cases h), (fun h => by first | exact h | cases h), fun _ _ => rfl⟩, fun _ _ => rfl⟩, ?_⟩ | refine ⟨⟨_, rfl, ⟨rfl, rfl, .inr rfl, (fun h => by first | exact h | cases h), (fun h => by first | exact h | cases h), fun _ _ => rfl⟩, fun _ _ => rfl⟩, ?_⟩ | refine ⟨⟨_, rfl, ⟨rfl, rfl, .inr rfl, (fun h => by first | exact h | cases h), (fun h => by first | exact h | cases h), fun i hi => absurd hi (Nat.not_lt_zero i)⟩, fun i hi => absurd hi (Nat.not_lt_zero i)⟩, ?_⟩ | refine ⟨⟨_, rfl, ⟨rfl, rfl, .inl rfl, (fun h => by first | exact h | cases h), (fun h => by first | exact h | cases h), fun i hi => ren_closed (hQc i hi)⟩, fun i hi => inn_closed (hQc i hi)⟩, ?_⟩)
        · repeat' (first | exact trivial | exact rfl | refine And.intro ?_ ?_)
      · have h2 : (restE now L).getD ((k : Int) - (dueI now L).length).toNat e0 = L.getD k e0 := by
          rw [rest_get, hdl]
          congr 1; omega
        refine SG.walk tab_ok mx 400 [true, false, true, false] [] ?_
        conv => whnf
        try dsimp only [rowL, rowN, growOk, hiN, fromL, tightN, maxOk]
        try simp (disch := omega) only [wI, wU64, wU32, wU8, Int.toNat_natCast, toNat_succ, toNat_pred, Int.reduceToNat, Option.getD_some, Option.getD_none, Nat.sub_zero, Nat.zero_add]
        refine ⟨?_, ?_⟩
        · rw [h2]
          simp only [e_eq]
          refine ⟨by simp, ?_⟩
          try simp only [beq_iff_eq, beq_eq_false_iff_ne, bne_iff_ne, bne_eq_false_iff_eq, decide_eq_true_eq, decide_eq_false_iff_not, ne_eq, Bool.not_eq_true', Bool.not_eq_false', Bool.not_eq_eq_eq_not, Bool.not_true, Bool.not_false]
          try omega
        refine SG.sub [] [0, 1, 2] ⟨?_, ?_, ?_, by decide, rfl, rfl, rfl, ?_⟩ (next (k + 1) hlt (by omega))
        · repeat' (first | exact trivial | exact rfl | refine And.intro ?_ ?_)
        · repeat' (first | exact trivial | exact rfl | refine And.intro ?_ ?_)
        · repeat' (first | exact trivial | refine ⟨⟨_, rfl, ⟨rfl, rfl, .inl rfl, (fun h => by first | exact h | cases h), (fun h => by first | exact h | cases h), fun _ _ => rfl⟩, fun _ _ => rfl⟩, ?_⟩ | refine ⟨⟨_, rfl, ⟨rfl, rfl, .inr rfl, (fun h => by first | exact h | cases h), (fun h => by first | exact h | cases h), fun _ _ => rfl⟩, fun _ _ => rfl⟩, ?_⟩ | refine ⟨⟨_, rfl, ⟨rfl, rfl, .inr rfl, (fun h => by first | exact h | cases h), (fun h => by first | exact h | cases h), fun i hi => absurd hi (Nat.not_lt_zero i)⟩, fun i hi => absurd hi (Nat.not_lt_zero i)⟩, ?_⟩ | refine ⟨⟨_, rfl, ⟨rfl, rfl, .inl rfl, (fun h => by first | exact h | cases h), (fun h => by first | exact h | cases h), fun i hi => ren_closed (hQc i hi)⟩, fun i hi => inn_closed (hQc i hi)⟩, ?_⟩)
        · repeat' (first | exact trivial | exact rfl | refine And.intro ?_ ?_)
    · have h5 := List.findIdx_le_length (p := late later) (xs := restE now L)
      have hdl2 := due_len later (restE now L)
      have h6 := List.findIdx_le_length (p := late later) (xs := L)
      have hdl3 := due_len later L
      refine SG.walk tab_ok mx 400 [false] [hdDue later (restE now L), hdDue later L, hdB true, hdB true] ?_
      conv => whnf
      try dsimp only [rowL, rowN, growOk, hiN, fromL, tightN, maxOk]
      try simp (disch := omega) only [wI, wU64, wU32, wU8, Int.toNat_natCast, toNat_succ, toNat_pred, Int.reduceToNat, Option.getD_some, Option.getD_none, Nat.sub_zero, Nat.zero_add]
      refine ⟨?_, ?_⟩
      · refine ⟨sameE (r := 4) (q := 6) (L := restE later (restE now L)) rfl (.of rfl rfl (fun _ _ => rfl)) rfl (.of rfl rfl (fun _ _ => rfl)) (by rw [rest_len]; omega) (by rw [rest_two (now := now) (by omega)]; simp), sameI (r := 5) (q := 9) (L := dueI later L) (M := dueI now L ++ dueI later (restE now L)) rfl (.of rfl rfl (fun _ _ => rfl)) rfl (.of rfl (by simp) (fun i hi => ?_)) (by omega) (by rw [due_two (now := now) (by omega)]; simp), ⟨by omega, by omega, by omega⟩, ⟨by omega, by omega, by omega⟩, dueM (r := 0) rfl (.of rfl rfl (fun _ _ => rfl)) (by omega) rfl rfl, dueM (r := 2) rfl (.of rfl rfl (fun _ _ => rfl)) (by omega) rfl rfl, by simpa using hlt⟩
        simp only [List.getD_eq_getElem?_getD]
        split
        · rename_i h
          rw [List.getElem?_append_left h, if_neg (by omega)]
        · rename_i h
          rw [List.getElem?_append_right (by omega)]
      refine SG.ret tab_ok Try.func8 rfl ?_
      intro ρ w' v hm hv
      exact top_true hm hv rfl
end Go.Proofs.Ytjelflknbhklnaa
