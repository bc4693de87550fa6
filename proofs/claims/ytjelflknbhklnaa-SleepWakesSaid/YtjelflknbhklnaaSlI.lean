/- Alarms: statements over structs. -/
import Derived.Test.YtjelflknbhklnaaSlH
namespace Go.Proofs.Ytjelflknbhklnaa
open Go.Sx Go.RowKit
set_option linter.unusedVariables false
set_option linter.unusedSimpArgs false
set_option maxRecDepth 100000 in
theorem stays_walk (w : World) (c : Value) (L : List E) (a : E) (pid now : Int) (hrow : ∀ W' ρ, RowOk W' ρ w c (rowE L)) (hl : L.length ≤ 8796093022000) :
    Calls Try.prog 4 #[.agg #[c, .int .u64 a.1, .int .i64 a.2, .int .i64 pid, .int .u64 now]] w fun e w' => e = .returned (.bool true) ∧ Below w.heap.size w w' := by
  obtain ⟨A, cap, rfl, _⟩ := (hrow ⟨w, none, []⟩ ⟨fun _ => none, fun _ => none⟩).form
  refine calls_top Try.func4 rfl [.slice A L.length cap] [rowE L] [.cv (.agg [.rs 0, .v (.int .u64 a.1), .v (.int .i64 a.2), .v (.int .i64 pid), .v (.int .u64 now)])] (.cons hrow rfl .nil) ⟨rfl, trivial⟩ ?_
  clear hrow
  obtain ⟨b, hb⟩ := srt_b L
  cases b with
  | false =>
    refine SG.walk tab_ok mx 400 [] [hdB true, hdB false] ?_
    conv => whnf
    try dsimp only [rowL, rowN, growOk, hiN, fromL, tightN, maxOk]
    try simp (disch := omega) only [wI, wU64, wU32, wU8, Int.toNat_natCast, toNat_succ, toNat_pred, Int.reduceToNat, Option.getD_some, Option.getD_none, Nat.sub_zero, Nat.zero_add]
    refine ⟨?_, ?_⟩
    · exact ⟨rRightE (r := 0) rfl (.of rfl rfl (fun _ _ => rfl)) (by omega) hb, shownE⟩
    refine SG.ret tab_ok Try.func4 rfl ?_
    intro ρ w' v hm hv
    exact top_true hm hv rfl
  | true =>
    have hs : Srt L := hb.1 rfl
    refine SG.walk tab_ok mx 400 [] [hdB true, hdB true] ?_
    conv => whnf
    try dsimp only [rowL, rowN, growOk, hiN, fromL, tightN, maxOk]
    try simp (disch := omega) only [wI, wU64, wU32, wU8, Int.toNat_natCast, toNat_succ, toNat_pred, Int.reduceToNat, Option.getD_some, Option.getD_none, Nat.sub_zero, Nat.zero_add]
    refine ⟨?_, ?_⟩
    · exact ⟨rRightE (r := 0) rfl (.of rfl rfl (fun _ _ => rfl)) (by omega) hb, shownE⟩
    refine SG.loop (fun x : Nat × Bool => ⟨puts (List.replicate (Try.f4).ntmps .any) [(3, rsV 0), (4, bpV 0), (5, intV pid), (6, .cv (.one (.v (.int .u64 now)))), (7, trueV), (9, .cv (.one (.lb x.2))), (10, intV x.1)], [some (eC a)], [some (rowE L)], []⟩) (fun x => x.1 ≤ L.length ∧ (x.2 = true ↔ a ∈ L.take x.1)) (fun x => L.length - x.1) ((0, false)) (⟨Nat.zero_le _, by simp⟩) (fun h => SG.sub [1] [0] ⟨?_, ?_, ?_, by decide, rfl, rfl, rfl, ?_⟩ h) ?_
    · repeat' (first | exact trivial | exact rfl | refine And.intro ?_ ?_)
    · repeat' (first | exact trivial | exact rfl | refine And.intro ?_ ?_)
    · repeat' (first | exact trivial | refine ⟨⟨_, rfl, ⟨rfl, rfl, .inl rfl, (fun h => by first | exact h | cases h), (fun h => by first | exact h | cases h), fun _ _ => rfl⟩, fun _ _ => rfl⟩, ?_⟩ | refine ⟨⟨_, rfl, ⟨rfl, rfl, .inr rfl, (fun h => by first | exact h | cases h), (fun h => by first | exact h | cases h), fun _ _ => rfl⟩, fun _ _ => rfl⟩, ?_⟩ | refine ⟨⟨_, rfl, ⟨rfl, rfl, .inr rfl, (fun h => by first | exact h | cases h), (fun h => by first | exact h | cases h), fun i hi => absurd hi (Nat.not_lt_zero i)⟩, fun i hi => absurd hi (Nat.not_lt_zero i)⟩, ?_⟩ | refine ⟨⟨_, rfl, ⟨rfl, rfl, .inl rfl, (fun h => by first | exact h | cases h), (fun h => by first | exact h | cases h), fun i hi => ren_closed (hQc i hi)⟩, fun i hi => inn_closed (hQc i hi)⟩, ?_⟩)
    · repeat' (first | exact trivial | exact rfl | refine And.intro ?_ ?_)
    rintro ⟨k, b⟩ ⟨hk, hin⟩ next
    dsimp only at hk hin next
    by_cases hlt : k < L.length
    · have htk := take_snoc (d := e0) hlt
      cases b with
      | true =>
        refine SG.walk tab_ok mx 400 [true] [] ?_
        conv => whnf
        try dsimp only [rowL, rowN, growOk, hiN, fromL, tightN, maxOk]
        try simp (disch := omega) only [wI, wU64, wU32, wU8, Int.toNat_natCast, toNat_succ, toNat_pred, Int.reduceToNat, Option.getD_some, Option.getD_none, Nat.sub_zero, Nat.zero_add]
        refine ⟨?_, ?_⟩
        · simpa using hlt
        refine SG.sub [0] [0] ⟨?_, ?_, ?_, by decide, rfl, rfl, rfl, ?_⟩ (next (k + 1, true) ⟨hlt, by rw [htk]; simp [hin.1 rfl]⟩ (by simp; omega))
        · repeat' (first | exact trivial | exact rfl | refine And.intro ?_ ?_)
        · repeat' (first | exact trivial | exact rfl | refine And.intro ?_ ?_)
        · repeat' (first | exact trivial | refine ⟨⟨_, rfl, ⟨rfl, rfl, .inl rfl, (fun h => by first | exact h | cases h), (fun h => by first | exact h | cases h), fun _ _ => rfl⟩, fun _ _ => rfl⟩, ?_⟩ | refine ⟨⟨_, rfl, ⟨rfl, rfl, .inr rfl, (fun h => by first | exact h | cases h), (fun h => by first | exact h | cases h), fun _ _ => rfl⟩, fun _ _ => rfl⟩, ?_⟩ | refine ⟨⟨_, rfl, ⟨rfl, rfl, .inr rfl, (fun h => by first | exact h | cases h), (fun h => by first | exact h | cases h), fun i hi => absurd hi (Nat.not_lt_zero i)⟩, fun i hi => absurd hi (Nat.not_lt_zero i)⟩, ?_⟩ | refine ⟨⟨_, rfl, ⟨rfl, rfl, .inl rfl, (fun h => by first | exact h | cases h), (fun h => by first | exact h | cases h), fun i hi => ren_closed (hQc i hi)⟩, fun i hi => inn_closed (hQc i hi)⟩, ?_⟩)
        · repeat' (first | exact trivial | exact rfl | refine And.intro ?_ ?_)
      | false =>
        have hno : ¬ a ∈ L.take k := fun h => by have := hin.2 h; cases this
        refine SG.walk tab_ok mx 400 [true] [] ?_
        conv => whnf
        try dsimp only [rowL, rowN, growOk, hiN, fromL, tightN, maxOk]
        try simp (disch := omega) only [wI, wU64, wU32, wU8, Int.toNat_natCast, toNat_succ, toNat_pred, Int.reduceToNat, Option.getD_some, Option.getD_none, Nat.sub_zero, Nat.zero_add]
        refine ⟨?_, ?_⟩
        · refine ⟨by omega, by omega, by simpa using hlt⟩
        by_cases hp : L.getD k e0 = a
        · refine SG.lbSlot 9 rfl (show ((L.getD k e0).1 == a.1 && (L.getD k e0).2 == a.2) = true by rw [e_eq]; simpa using hp) ?_
          refine SG.norm ?_
          conv => whnf
          refine SG.sub [0] [0] ⟨?_, ?_, ?_, by decide, rfl, rfl, rfl, ?_⟩ (next (k + 1, true) ⟨hlt, by rw [htk, hp]; simp⟩ (by simp; omega))
          · repeat' (first | exact trivial | exact rfl | refine And.intro ?_ ?_)
          · repeat' (first | exact trivial | exact rfl | refine And.intro ?_ ?_)
          · repeat' (first | exact trivial | refine ⟨⟨_, rfl, ⟨rfl, rfl, .inl rfl, (fun h => by first | exact h | cases h), (fun h => by first | exact h | cases h), fun _ _ => rfl⟩, fun _ _ => rfl⟩, ?_⟩ | refine ⟨⟨_, rfl, ⟨rfl, rfl, .inr rfl, (fun h => by first | exact h | cases h), (fun h => by first | exact h | cases h), fun _ _ => rfl⟩, fun _ _ => rfl⟩, ?_⟩ | refine ⟨⟨_, rfl, ⟨rfl, rfl, .inr rfl, (fun h => by first | exact h | cases h), (fun h => by first | exact h | cases h), fun i hi => absurd hi (Nat.not_lt_zero i)⟩, fun i hi => absurd hi (Nat.not_lt_zero i)⟩, ?_⟩ | refine ⟨⟨_, rfl, ⟨rfl, rfl, .inl rfl, (fun h => by first | exact h | cases h), (fun h => by first | exact h | cases h), fun i hi => ren_closed (hQc i hi)⟩, fun i hi => inn_closed (hQc i hi)⟩, ?_⟩)
          · repeat' (first | exact trivial | exact rfl | refine And.intro ?_ ?_)
        · refine SG.lbSlot 9 rfl (show ((L.getD k e0).1 == a.1 && (L.getD k e0).2 == a.2) = false by rw [e_eq]; simpa using hp) ?_
          refine SG.norm ?_
          conv => whnf
          refine SG.sub [0] [0] ⟨?_, ?_, ?_, by decide, rfl, rfl, rfl, ?_⟩ (next (k + 1, false) ⟨hlt, by rw [htk, List.mem_append]; simp only [hno, false_or, List.mem_singleton]; exact ⟨(fun h => by cases h), fun h => absurd h.symm hp⟩⟩ (by simp; omega))
          · repeat' (first | exact trivial | exact rfl | refine And.intro ?_ ?_)
          · repeat' (first | exact trivial | exact rfl | refine And.intro ?_ ?_)
          · repeat' (first | exact trivial | refine ⟨⟨_, rfl, ⟨rfl, rfl, .inl rfl, (fun h => by first | exact h | cases h), (fun h => by first | exact h | cases h), fun _ _ => rfl⟩, fun _ _ => rfl⟩, ?_⟩ | refine ⟨⟨_, rfl, ⟨rfl, rfl, .inr rfl, (fun h => by first | exact h | cases h), (fun h => by first | exact h | cases h), fun _ _ => rfl⟩, fun _ _ => rfl⟩, ?_⟩ | refine ⟨⟨_, rfl, ⟨rfl, rfl, .inr rfl, (fun h => by first | exact h | cases h), (fun h => by first | exact h | cases h), fun i hi => absurd hi (Nat.not_lt_zero i)⟩, fun i hi => absurd hi (Nat.not_lt_zero i)⟩, ?_⟩ | refine ⟨⟨_, rfl, ⟨rfl, rfl, .inl rfl, (fun h => by first | exact h | cases h), (fun h => by first | exact h | cases h), fun i hi => ren_closed (hQc i hi)⟩, fun i hi => inn_closed (hQc i hi)⟩, ?_⟩)
          · repeat' (first | exact trivial | exact rfl | refine And.intro ?_ ?_)
    · have hkl : L.take k = L := List.take_of_length_le (by omega)
      rw [hkl] at hin
      have hgl : (goneE pid L).length ≤ L.length := List.length_filter_le _ _
      have hrl := rest_len now L
      have hil := ins_len a L
      cases b with
      | true =>
        refine SG.walk tab_ok mx 400 [false] [hdDue now L, hdF (goneE pid L), hdB true, hdB true] ?_
        conv => whnf
        try dsimp only [rowL, rowN, growOk, hiN, fromL, tightN, maxOk]
        try simp (disch := omega) only [wI, wU64, wU32, wU8, Int.toNat_natCast, toNat_succ, toNat_pred, Int.reduceToNat, Option.getD_some, Option.getD_none, Nat.sub_zero, Nat.zero_add]
        refine ⟨?_, ?_⟩
        · exact ⟨rRightE (r := 2) (L := restE now L) rfl (.of rfl rfl (fun _ _ => rfl)) (by omega) ⟨fun _ => rest_srt hs, fun _ => rfl⟩, rRightE (r := 3) (L := goneE pid L) rfl (.of rfl rfl (fun _ _ => rfl)) (by omega) ⟨fun _ => gone_srt hs, fun _ => rfl⟩, dropM (r := 0) rfl (.of rfl rfl (fun _ _ => rfl)) (by omega) rfl, dueM (r := 0) rfl (.of rfl rfl (fun _ _ => rfl)) (by omega) rfl rfl, by simpa using hlt⟩
        refine SG.ret tab_ok Try.func4 rfl ?_
        intro ρ w' v hm hv
        exact top_true hm hv rfl
      | false =>
        have hno : ¬ a ∈ L := fun h => by have := hin.2 h; cases this
        refine SG.walk tab_ok mx 400 [false] [hdDue now L, hdE (insE a L), hdB true, hdF (goneE pid L), hdB true, hdB true] ?_
        conv => whnf
        try dsimp only [rowL, rowN, growOk, hiN, fromL, tightN, maxOk]
        try simp (disch := omega) only [wI, wU64, wU32, wU8, Int.toNat_natCast, toNat_succ, toNat_pred, Int.reduceToNat, Option.getD_some, Option.getD_none, Nat.sub_zero, Nat.zero_add]
        refine ⟨?_, ?_⟩
        · exact ⟨rRightE (r := 2) (L := restE now L) rfl (.of rfl rfl (fun _ _ => rfl)) (by omega) ⟨fun _ => rest_srt hs, fun _ => rfl⟩, rRightE (r := 4) (L := goneE pid L) rfl (.of rfl rfl (fun _ _ => rfl)) (by omega) ⟨fun _ => gone_srt hs, fun _ => rfl⟩, dropM (r := 0) rfl (.of rfl rfl (fun _ _ => rfl)) (by omega) rfl, rRightE (r := 3) (L := insE a L) rfl (.of rfl rfl (fun _ _ => rfl)) (by omega) ⟨fun _ => ins_srt hs hno, fun _ => rfl⟩, addM (r := 0) rfl (.of rfl rfl (fun _ _ => rfl)) (by omega) rfl, dueM (r := 0) rfl (.of rfl rfl (fun _ _ => rfl)) (by omega) rfl rfl, by simpa using hlt⟩
        refine SG.ret tab_ok Try.func4 rfl ?_
        intro ρ w' v hm hv
        exact top_true hm hv rfl
set_option maxRecDepth 100000 in
theorem acts_walk (w : World) (c : Value) (L : List E) (a : E) (pid now n : Int) (hrow : ∀ W' ρ, RowOk W' ρ w c (rowE L)) (hl : L.length ≤ 8796093022000) (h1 : 0 ≤ now) (h2 : now ≤ 18446744073709551615) (h3 : 0 ≤ n) (h4 : n ≤ 4294967295) :
    Calls Try.prog 3 #[.agg #[c, .int .u64 a.1, .int .i64 a.2, .int .i64 pid, .int .u64 now, .int .u32 n]] w fun e w' => e = .returned (.bool true) ∧ Below w.heap.size w w' := by
  obtain ⟨A, cap, rfl, _⟩ := (hrow ⟨w, none, []⟩ ⟨fun _ => none, fun _ => none⟩).form
  refine calls_top Try.func3 rfl [.slice A L.length cap] [rowE L] [.cv (.agg [.rs 0, .v (.int .u64 a.1), .v (.int .i64 a.2), .v (.int .i64 pid), .v (.int .u64 now), .v (.int .u32 n)])] (.cons hrow rfl .nil) ⟨rfl, trivial⟩ ?_
  clear hrow
  have hgl : (goneE pid L).length ≤ L.length := List.length_filter_le _ _
  have hrl := rest_len now L
  have hdl := due_len now L
  have h0 := List.findIdx_le_length (p := late now) (xs := L)
  have hil := ins_len a L
  obtain ⟨b, hb⟩ := srt_b L
  refine SG.walk tab_ok mx 400 [true] [hdB true, hdDue now L, hdDue now L, hdE (insE a L), hdE (insE a L), hdB true, hdF (goneE pid L), hdE (goneE pid L), hdB true, hdB true, hdB true, hdB b, hdB b, mkHd (.cv (.one (.v (.int .u64 (untilN now n))))) [], mkHd (.cv (.one (.v (.int .u64 (untilN now n))))) []] ?_
  conv => whnf
  try dsimp only [rowL, rowN, growOk, hiN, fromL, tightN, maxOk]
  try simp (disch := omega) only [wI, wU64, wU32, wU8, Int.toNat_natCast, toNat_succ, toNat_pred, Int.reduceToNat, Option.getD_some, Option.getD_none, Nat.sub_zero, Nat.zero_add]
  refine ⟨?_, ?_⟩
  · exact ⟨rUntilE h1 h2 h3 h4, untilE h1 h2 h3 h4, by cases b <;> rfl, rRightE (r := 0) rfl (.of rfl rfl (fun _ _ => rfl)) (by omega) hb, rightE (r := 0) rfl (.of rfl rfl (fun _ _ => rfl)) (by omega) hb, sameI (r := 1) (q := 3) rfl (.of rfl rfl (fun _ _ => rfl)) rfl (.of rfl rfl (fun _ _ => rfl)) (by omega) (by simp),
      sameE (r := 2) (q := 4) rfl (.of rfl rfl (fun _ _ => rfl)) rfl (.of rfl rfl (fun _ _ => rfl)) (by omega) (by simp), sameE (r := 7) (q := 8) rfl (.of rfl rfl (fun _ _ => rfl)) rfl (.of rfl rfl (fun _ _ => rfl)) (by omega) (by simp), rDropM (r := 0) rfl (.of rfl rfl (fun _ _ => rfl)) (by omega) rfl, dropM (r := 0) rfl (.of rfl rfl (fun _ _ => rfl)) (by omega) rfl,
      sameE (r := 5) (q := 6) rfl (.of rfl rfl (fun _ _ => rfl)) rfl (.of rfl rfl (fun _ _ => rfl)) (by omega) (by simp), rAddM (r := 0) rfl (.of rfl rfl (fun _ _ => rfl)) (by omega) rfl, addM (r := 0) rfl (.of rfl rfl (fun _ _ => rfl)) (by omega) rfl, rDueM (r := 0) rfl (.of rfl rfl (fun _ _ => rfl)) (by omega) rfl rfl, dueM (r := 0) rfl (.of rfl rfl (fun _ _ => rfl)) (by omega) rfl rfl, shownE⟩
  refine SG.ret tab_ok Try.func3 rfl ?_
  intro ρ w' v hm hv
  exact top_v hm hv (by simp)
end Go.Proofs.Ytjelflknbhklnaa
