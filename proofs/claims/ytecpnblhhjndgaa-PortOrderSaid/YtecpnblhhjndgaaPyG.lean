/- Channels and boxes: statements: what is sent and taken in turn. -/
import Derived.Test.YtecpnblhhjndgaaPyD
namespace Go.Proofs.Ytecpnblhhjndgaa
open Go.Sx Go.RowKit
set_option linter.unusedVariables false
set_option linter.unusedSimpArgs false
abbrev AA := Bool × Int × ByteArray
abbrev aaC (x : AA) : List At := [.v (.bool x.1), .v (.int .u64 x.2.1), .v (.string x.2.2)]
abbrev aa0 : AA := (false, 0, ⟨#[]⟩)
abbrev rowA (L : List AA) : Row := rowL 3 aaC aa0 L
theorem drop_cons {IN : List MM} {g : Nat} (h : g < IN.length) : IN.drop g = IN.getD g mm0 :: IN.drop (g + 1) := by
  rw [List.drop_eq_getElem_cons h]; simp [List.getD_eq_getElem?_getD, h]
set_option maxHeartbeats 4000000 in
set_option maxRecDepth 100000 in
theorem order_walk (w : World) (c : Value) (L : List AA) (size depth : Int) (hrow : ∀ W' ρ, RowOk W' ρ w c (rowA L)) (hl : L.length ≤ 5864062014650) :
    Calls Try.prog 5 #[.int .i64 size, .int .i64 depth, c] w fun e w' => e = .returned (.bool true) ∧ Below w.heap.size w w' := by
  obtain ⟨A, cap, rfl, _⟩ := (hrow ⟨w, none, [], []⟩ ⟨fun _ => none, fun _ => none⟩).form
  refine calls_top Try.func5 rfl [.slice A L.length cap] [rowA L] [intV size, intV depth, rsV 0] (.cons hrow rfl .nil) ⟨rfl, rfl, rfl, trivial⟩ ?_
  clear hrow
  by_cases h1 : depth < 1
  · refine SG.walk tab_ok mx 400 [true, true] [hdB true] ?_
    conv => whnf
    try dsimp only [rowL, rowN, growOk, hiN, fromL, tightN, maxOk]
    try simp (disch := omega) only [wI, wU64, wU32, wU8, Int.toNat_natCast, toNat_succ, toNat_pred, Int.reduceToNat, Option.getD_some, Option.getD_none, Nat.sub_zero, Nat.zero_add]
    refine ⟨?_, ?_⟩
    · repeat' apply And.intro
      all_goals first
        | exact shownP
        | trivial
        | rfl
        | omega
        | ((try dsimp only [rowL, rowN]); simp only [beq_iff_eq, beq_eq_false_iff_ne, bne_iff_ne, bne_eq_false_iff_eq, decide_eq_true_eq, decide_eq_false_iff_not, ne_eq, Bool.not_eq_true', Bool.not_eq_false', Bool.not_eq_eq_eq_not, Bool.not_true, Bool.not_false, Option.some.injEq, Option.getD_some, Option.getD_none]; omega)
        | (simp; done)
        | (simp; omega)
    refine SG.ret tab_ok Try.func5 rfl ?_
    intro ρ w' v hm hv
    exact top_true hm hv rfl
  by_cases h2 : depth > 100
  · refine SG.walk tab_ok mx 400 [false, true] [hdB true] ?_
    conv => whnf
    try dsimp only [rowL, rowN, growOk, hiN, fromL, tightN, maxOk]
    try simp (disch := omega) only [wI, wU64, wU32, wU8, Int.toNat_natCast, toNat_succ, toNat_pred, Int.reduceToNat, Option.getD_some, Option.getD_none, Nat.sub_zero, Nat.zero_add]
    refine ⟨?_, ?_⟩
    · repeat' apply And.intro
      all_goals first
        | exact shownP
        | trivial
        | rfl
        | omega
        | ((try dsimp only [rowL, rowN]); simp only [beq_iff_eq, beq_eq_false_iff_ne, bne_iff_ne, bne_eq_false_iff_eq, decide_eq_true_eq, decide_eq_false_iff_not, ne_eq, Bool.not_eq_true', Bool.not_eq_false', Bool.not_eq_eq_eq_not, Bool.not_true, Bool.not_false, Option.some.injEq, Option.getD_some, Option.getD_none]; omega)
        | (simp; done)
        | (simp; omega)
    refine SG.ret tab_ok Try.func5 rfl ?_
    intro ρ w' v hm hv
    exact top_true hm hv rfl
  refine SG.walk tab_ok mx 400 [false, false] [hdB true] ?_
  conv => whnf
  try dsimp only [rowL, rowN, growOk, hiN, fromL, tightN, maxOk]
  try simp (disch := omega) only [wI, wU64, wU32, wU8, Int.toNat_natCast, toNat_succ, toNat_pred, Int.reduceToNat, Option.getD_some, Option.getD_none, Nat.sub_zero, Nat.zero_add]
  refine ⟨?_, ?_⟩
  · repeat' apply And.intro
    all_goals first
      | exact shownP
      | trivial
      | rfl
      | omega
      | ((try dsimp only [rowL, rowN]); simp only [beq_iff_eq, beq_eq_false_iff_ne, bne_iff_ne, bne_eq_false_iff_eq, decide_eq_true_eq, decide_eq_false_iff_not, ne_eq, Bool.not_eq_true', Bool.not_eq_false', Bool.not_eq_eq_eq_not, Bool.not_true, Bool.not_false, Option.some.injEq, Option.getD_some, Option.getD_none]; omega)
      | (simp; done)
      | (simp; omega)
  refine SG.nilBoxAt 1 0 37 2 rfl rfl ?_
  refine SG.norm ?_
  conv => whnf
  refine SG.nilRow 10 37 2 rfl ?_
  refine SG.norm ?_
  conv => whnf
  refine SG.loop (fun x : Nat × Nat × Nat × List MM => ⟨puts (List.replicate (Try.f5).ntmps .any) [(0, intV size), (1, intV depth), (2, rsV 0), (7, trueV), (8, bpV 0), (9, bpV 1), (10, rsV 2), (11, intV (x.2.2.2.length + x.2.2.1 : Nat)), (12, intV x.2.1), (13, intV x.1)], [some [.v (.int .i64 2), .v (.int .i64 0), .v (.int .i64 1), .v (.int .i64 size), .v (.int .i64 depth)], some [.rs 1, .v (.int .i64 x.2.2.1)]], [some (rowA L), some (newM (x.2.2.2.drop x.2.1)), some (newM x.2.2.2)], []⟩) (fun x => x.1 ≤ L.length ∧ x.1 ≤ 300 ∧ x.2.1 ≤ x.2.2.2.length ∧ (x.2.2.2.length - x.2.1 : Nat) ≤ depth ∧ x.2.2.2.length + x.2.2.1 ≤ x.1) (fun x => L.length - x.1) ((0, 0, 0, [])) (⟨Nat.zero_le _, Nat.zero_le _, Nat.le_refl _, by simp; omega, Nat.le_refl _⟩) (fun h => SG.sub [0, 1] [0, 1, 2] ⟨?_, ?_, ?_, by decide, rfl, rfl, rfl, ?_⟩ h) ?_
  · repeat' (first | exact trivial | exact rfl | refine And.intro ?_ ?_)
  · repeat' (first | exact trivial | exact rfl | refine And.intro ?_ ?_)
  · repeat' (first | exact trivial | refine ⟨⟨_, rfl, ⟨rfl, rfl, .inl rfl, (fun h => by first | exact h | cases h), (fun h => by first | exact h | cases h), fun _ _ => rfl⟩, fun _ _ => rfl⟩, ?_⟩ | refine ⟨⟨_, rfl, ⟨rfl, rfl, .inr rfl, (fun h => by first | exact h | cases h), (fun h => by first | exact h | cases h), fun _ _ => rfl⟩, fun _ _ => rfl⟩, ?_⟩ | refine ⟨⟨_, rfl, ⟨rfl, rfl, .inr rfl, (fun h => by first | exact h | cases h), (fun h => by first | exact h | cases h), fun i hi => absurd hi (Nat.not_lt_zero i)⟩, fun i hi => absurd hi (Nat.not_lt_zero i)⟩, ?_⟩ | refine ⟨⟨_, rfl, ⟨rfl, rfl, .inl rfl, (fun h => by first | exact h | cases h), (fun h => by first | exact h | cases h), fun i hi => ren_closed (hQc i hi)⟩, fun i hi => inn_closed (hQc i hi)⟩, ?_⟩)
  · repeat' (first | exact trivial | exact rfl | refine And.intro ?_ ?_)
  rintro ⟨i, g, n, IN⟩ ⟨b1, b2, b3, b4, b5⟩ next
  dsimp only at b1 b2 b3 b4 b5 next ⊢
  have hDl : (IN.drop g).length = IN.length - g := by simp
  by_cases hlt : i < L.length
  · by_cases h300 : i < 300
    · cases hsn : (L.getD i aa0).1 with
      | false =>
        rcases Nat.eq_or_lt_of_le b3 with hge | hlg
        · have hd0 : IN.drop g = [] := List.drop_of_length_le (by omega)
          have nx := next (i + 1, g, n, IN) ⟨hlt, h300, b3, b4, by dsimp only; omega⟩ (by dsimp only; omega)
          dsimp only at nx
          rw [hd0] at nx ⊢
          refine SG.walk tab_ok mx 400 [true, true, true, false] [mkHd (tookV n 7 mm0) [newM ([] : List MM)]] ?_
          conv => whnf
          try dsimp only [rowL, rowN, growOk, hiN, fromL, tightN, maxOk]
          try simp (disch := omega) only [wI, wU64, wU32, wU8, Int.toNat_natCast, toNat_succ, toNat_pred, Int.reduceToNat, Option.getD_some, Option.getD_none, Nat.sub_zero, Nat.zero_add]
          refine ⟨?_, ?_⟩
          · repeat' apply And.intro
            all_goals first
              | exact takeNone (r := 1) rfl (.of rfl rfl (fun _ _ => rfl))
              | exact show (!(L.getD i aa0).1) = true by rw [hsn]; rfl
              | trivial
              | rfl
              | omega
              | ((try dsimp only [rowL, rowN]); simp only [beq_iff_eq, beq_eq_false_iff_ne, bne_iff_ne, bne_eq_false_iff_eq, decide_eq_true_eq, decide_eq_false_iff_not, ne_eq, Bool.not_eq_true', Bool.not_eq_false', Bool.not_eq_eq_eq_not, Bool.not_true, Bool.not_false, Option.some.injEq, Option.getD_some, Option.getD_none]; omega)
              | (simp; done)
              | (simp; omega)
          refine SG.sub [0, 1] [0, 3, 2] ⟨?_, ?_, ?_, by decide, rfl, rfl, rfl, ?_⟩ nx
          · repeat' (first | exact trivial | exact rfl | refine And.intro ?_ ?_)
          · repeat' (first | exact trivial | exact rfl | refine And.intro ?_ ?_)
          · repeat' (first | exact trivial | refine ⟨⟨_, rfl, ⟨rfl, rfl, .inl rfl, (fun h => by first | exact h | cases h), (fun h => by first | exact h | cases h), fun _ _ => rfl⟩, fun _ _ => rfl⟩, ?_⟩ | refine ⟨⟨_, rfl, ⟨rfl, rfl, .inr rfl, (fun h => by first | exact h | cases h), (fun h => by first | exact h | cases h), fun _ _ => rfl⟩, fun _ _ => rfl⟩, ?_⟩ | refine ⟨⟨_, rfl, ⟨rfl, rfl, .inr rfl, (fun h => by first | exact h | cases h), (fun h => by first | exact h | cases h), fun i hi => absurd hi (Nat.not_lt_zero i)⟩, fun i hi => absurd hi (Nat.not_lt_zero i)⟩, ?_⟩ | refine ⟨⟨_, rfl, ⟨rfl, rfl, .inl rfl, (fun h => by first | exact h | cases h), (fun h => by first | exact h | cases h), fun i hi => ren_closed (hQc i hi)⟩, fun i hi => inn_closed (hQc i hi)⟩, ?_⟩)
          · repeat' (first | exact trivial | exact rfl | refine And.intro ?_ ?_)
        · have hd0 := drop_cons hlg
          have nx := next (i + 1, g + 1, n, IN) ⟨hlt, h300, hlg, by dsimp only; omega, by dsimp only; omega⟩ (by dsimp only; omega)
          dsimp only at nx
          rw [hd0] at hDl ⊢
          obtain ⟨x, hx⟩ : ∃ x, IN.getD g mm0 = x := ⟨_, rfl⟩
          generalize IN.drop (g + 1) = M at *
          rw [hx] at hDl ⊢
          refine SG.walk tab_ok mx 400 [true, true, true, true, false, false] [mkHd (tookV n 0 x) [newM M]] ?_
          conv => whnf
          try dsimp only [rowL, rowN, growOk, hiN, fromL, tightN, maxOk]
          try simp (disch := omega) only [wI, wU64, wU32, wU8, Int.toNat_natCast, toNat_succ, toNat_pred, Int.reduceToNat, Option.getD_some, Option.getD_none, Nat.sub_zero, Nat.zero_add]
          refine ⟨?_, ?_⟩
          · repeat' apply And.intro
            all_goals first
              | exact takeSome (r := 1) rfl (.of rfl rfl (fun _ _ => rfl)) (by omega) (by decide)
              | exact show (!(L.getD i aa0).1) = true by rw [hsn]; rfl
              | exact show (!eqM (IN.getD g mm0) x) = false by rw [hx, eqM_refl]; rfl
              | trivial
              | rfl
              | omega
              | ((try dsimp only [rowL, rowN]); simp only [beq_iff_eq, beq_eq_false_iff_ne, bne_iff_ne, bne_eq_false_iff_eq, decide_eq_true_eq, decide_eq_false_iff_not, ne_eq, Bool.not_eq_true', Bool.not_eq_false', Bool.not_eq_eq_eq_not, Bool.not_true, Bool.not_false, Option.some.injEq, Option.getD_some, Option.getD_none]; omega)
              | (simp; done)
              | (simp; omega)
          refine SG.sub [0, 1] [0, 3, 2] ⟨?_, ?_, ?_, by decide, rfl, rfl, rfl, ?_⟩ nx
          · repeat' (first | exact trivial | exact rfl | refine And.intro ?_ ?_)
          · repeat' (first | exact trivial | exact rfl | refine And.intro ?_ ?_)
          · repeat' (first | exact trivial | refine ⟨⟨_, rfl, ⟨rfl, rfl, .inl rfl, (fun h => by first | exact h | cases h), (fun h => by first | exact h | cases h), fun _ _ => rfl⟩, fun _ _ => rfl⟩, ?_⟩ | refine ⟨⟨_, rfl, ⟨rfl, rfl, .inr rfl, (fun h => by first | exact h | cases h), (fun h => by first | exact h | cases h), fun _ _ => rfl⟩, fun _ _ => rfl⟩, ?_⟩ | refine ⟨⟨_, rfl, ⟨rfl, rfl, .inr rfl, (fun h => by first | exact h | cases h), (fun h => by first | exact h | cases h), fun i hi => absurd hi (Nat.not_lt_zero i)⟩, fun i hi => absurd hi (Nat.not_lt_zero i)⟩, ?_⟩ | refine ⟨⟨_, rfl, ⟨rfl, rfl, .inl rfl, (fun h => by first | exact h | cases h), (fun h => by first | exact h | cases h), fun i hi => ren_closed (hQc i hi)⟩, fun i hi => inn_closed (hQc i hi)⟩, ?_⟩)
          · repeat' (first | exact trivial | exact rfl | refine And.intro ?_ ?_)
      | true =>
        obtain ⟨D, hD⟩ : ∃ D, IN.drop g = D := ⟨_, rfl⟩
        rw [hD] at hDl ⊢
        by_cases hs : size < (L.getD i aa0).2.2.size
        · have nx := next (i + 1, g, n, IN) ⟨hlt, h300, b3, b4, by dsimp only; omega⟩ (by dsimp only; omega)
          dsimp only at nx
          rw [hD] at nx
          refine SG.walk tab_ok mx 400 [true, true, false, false] [mkHd (intV D.length) [], mkHd (sentV n 4) [newM D]] ?_
          conv => whnf
          try dsimp only [rowL, rowN, growOk, hiN, fromL, tightN, maxOk]
          try simp (disch := omega) only [wI, wU64, wU32, wU8, Int.toNat_natCast, toNat_succ, toNat_pred, Int.reduceToNat, Option.getD_some, Option.getD_none, Nat.sub_zero, Nat.zero_add]
          refine ⟨?_, ?_⟩
          · repeat' apply And.intro
            all_goals first
              | exact waitsB (r := 1) rfl (.of rfl rfl (fun _ _ => rfl))
              | exact sendBig (r := 1) rfl (.of rfl rfl (fun _ _ => rfl)) (by omega) hs
              | exact show (!(L.getD i aa0).1) = false by rw [hsn]; rfl
              | trivial
              | rfl
              | omega
              | ((try dsimp only [rowL, rowN]); simp only [beq_iff_eq, beq_eq_false_iff_ne, bne_iff_ne, bne_eq_false_iff_eq, decide_eq_true_eq, decide_eq_false_iff_not, ne_eq, Bool.not_eq_true', Bool.not_eq_false', Bool.not_eq_eq_eq_not, Bool.not_true, Bool.not_false, Option.some.injEq, Option.getD_some, Option.getD_none]; omega)
              | (simp; done)
              | (simp; omega)
          refine SG.sub [0, 1] [0, 3, 2] ⟨?_, ?_, ?_, by decide, rfl, rfl, rfl, ?_⟩ nx
          · repeat' (first | exact trivial | exact rfl | refine And.intro ?_ ?_)
          · repeat' (first | exact trivial | exact rfl | refine And.intro ?_ ?_)
          · repeat' (first | exact trivial | refine ⟨⟨_, rfl, ⟨rfl, rfl, .inl rfl, (fun h => by first | exact h | cases h), (fun h => by first | exact h | cases h), fun _ _ => rfl⟩, fun _ _ => rfl⟩, ?_⟩ | refine ⟨⟨_, rfl, ⟨rfl, rfl, .inr rfl, (fun h => by first | exact h | cases h), (fun h => by first | exact h | cases h), fun _ _ => rfl⟩, fun _ _ => rfl⟩, ?_⟩ | refine ⟨⟨_, rfl, ⟨rfl, rfl, .inr rfl, (fun h => by first | exact h | cases h), (fun h => by first | exact h | cases h), fun i hi => absurd hi (Nat.not_lt_zero i)⟩, fun i hi => absurd hi (Nat.not_lt_zero i)⟩, ?_⟩ | refine ⟨⟨_, rfl, ⟨rfl, rfl, .inl rfl, (fun h => by first | exact h | cases h), (fun h => by first | exact h | cases h), fun i hi => ren_closed (hQc i hi)⟩, fun i hi => inn_closed (hQc i hi)⟩, ?_⟩)
          · repeat' (first | exact trivial | exact rfl | refine And.intro ?_ ?_)
        · have hs : (L.getD i aa0).2.2.size ≤ size := by omega
          by_cases hd : D.length < depth
          · have nx := next (i + 1, g, n, IN ++ [((L.getD i aa0).2.1, (L.getD i aa0).2.2)]) ⟨hlt, h300, by dsimp only; simp; omega, by dsimp only; simp; omega, by dsimp only; simp; omega⟩ (by dsimp only; omega)
            dsimp only at nx
            rw [List.drop_append_of_le_length b3, hD, show (IN ++ [((L.getD i aa0).2.1, (L.getD i aa0).2.2)]).length + n = IN.length + n + 1 by simp; omega] at nx
            refine SG.walk tab_ok mx 400 [true, true, false, true, true] [mkHd (intV D.length) [], mkHd (sentV n 0) [newM (D ++ [((L.getD i aa0).2.1, (L.getD i aa0).2.2)])]] ?_
            conv => whnf
            try dsimp only [rowL, rowN, growOk, hiN, fromL, tightN, maxOk]
            try simp (disch := omega) only [wI, wU64, wU32, wU8, Int.toNat_natCast, toNat_succ, toNat_pred, Int.reduceToNat, Option.getD_some, Option.getD_none, Nat.sub_zero, Nat.zero_add]
            refine ⟨?_, ?_⟩
            · repeat' apply And.intro
              all_goals first
                | exact waitsB (r := 1) rfl (.of rfl rfl (fun _ _ => rfl))
                | exact sendRoom (r := 1) rfl (.of rfl rfl (fun _ _ => rfl)) (by omega) hs (by decide) hd
                | exact show (!(L.getD i aa0).1) = false by rw [hsn]; rfl
                | trivial
                | rfl
                | omega
                | ((try dsimp only [rowL, rowN]); simp only [beq_iff_eq, beq_eq_false_iff_ne, bne_iff_ne, bne_eq_false_iff_eq, decide_eq_true_eq, decide_eq_false_iff_not, ne_eq, Bool.not_eq_true', Bool.not_eq_false', Bool.not_eq_eq_eq_not, Bool.not_true, Bool.not_false, Option.some.injEq, Option.getD_some, Option.getD_none]; omega)
                | (simp; done)
                | (simp; omega)
            refine SG.sub [0, 1] [0, 3, 5] ⟨?_, ?_, ?_, by decide, rfl, rfl, rfl, ?_⟩ nx
            · repeat' (first | exact trivial | exact rfl | refine And.intro ?_ ?_)
            · repeat' (first | exact trivial | exact rfl | refine And.intro ?_ ?_)
            · first | refine ⟨⟨_, rfl, ⟨rfl, rfl, .inl rfl, (fun h => by first | exact h | cases h), (fun h => by first | exact h | cases h), fun _ _ => rfl⟩, fun _ _ => rfl⟩, ?_⟩ | refine ⟨⟨_, rfl, ⟨rfl, rfl, .inr rfl, (fun h => by first | exact h | cases h), (fun h => by first | exact h | cases h), fun _ _ => rfl⟩, fun _ _ => rfl⟩, ?_⟩ | refine ⟨⟨_, rfl, ⟨rfl, rfl, .inr rfl, (fun h => by first | exact h | cases h), (fun h => by first | exact h | cases h), fun i hi => absurd hi (Nat.not_lt_zero i)⟩, fun i hi => absurd hi (Nat.not_lt_zero i)⟩, ?_⟩ | refine ⟨⟨_, rfl, ⟨rfl, rfl, .inl rfl, (fun h => by first | exact h | cases h), (fun h => by first | exact h | cases h), fun i hi => ren_closed (hQc i hi)⟩, fun i hi => inn_closed (hQc i hi)⟩, ?_⟩
              first | refine ⟨⟨_, rfl, ⟨rfl, rfl, .inl rfl, (fun h => by first | exact h | cases h), (fun h => by first | exact h | cases h), fun _ _ => rfl⟩, fun _ _ => rfl⟩, ?_⟩ | refine ⟨⟨_, rfl, ⟨rfl, rfl, .inr rfl, (fun h => by first | exact h | cases h), (fun h => by first | exact h | cases h), fun _ _ => rfl⟩, fun _ _ => rfl⟩, ?_⟩ | refine ⟨⟨_, rfl, ⟨rfl, rfl, .inr rfl, (fun h => by first | exact h | cases h), (fun h => by first | exact h | cases h), fun i hi => absurd hi (Nat.not_lt_zero i)⟩, fun i hi => absurd hi (Nat.not_lt_zero i)⟩, ?_⟩ | refine ⟨⟨_, rfl, ⟨rfl, rfl, .inl rfl, (fun h => by first | exact h | cases h), (fun h => by first | exact h | cases h), fun i hi => ren_closed (hQc i hi)⟩, fun i hi => inn_closed (hQc i hi)⟩, ?_⟩
              refine ⟨⟨_, rfl, (RowLe.snoc rfl rfl (fun i hi => if_pos hi) (by rw [if_neg (Nat.lt_irrefl _), Nat.sub_self]; rfl) (fun _ => rfl)), fun _ _ => rfl⟩, ?_⟩
              exact trivial
            · repeat' (first | exact trivial | exact rfl | refine And.intro ?_ ?_)
          · have hd : depth ≤ D.length := by omega
            have nx := next (i + 1, g, n + 1, IN) ⟨hlt, h300, b3, b4, by dsimp only; omega⟩ (by dsimp only; omega)
            dsimp only at nx
            rw [hD] at nx
            have hfull := fun {W : Base} {B : List (Option (List At))} {Rs : List (Option Row)} {R : Row} (h1 : Rs[1]? = some (some R)) (h2 : RowLe R (rowM D)) => (show IntKind.wrap .i64 ((n : Int) + 1) = (n : Int) + 1 by rw [IntKind.wrap_i64]; omega) ▸ sendFull (W := W) (B := B) (r := 1) (L := D) (k := 2) (f := 0) (t := 1) (l := n) (now := (L.getD i aa0).2.1) (body := (L.getD i aa0).2.2) h1 h2 (by omega) hs (by decide) hd
            refine SG.walk tab_ok mx 400 [true, true, false, true, false] [mkHd (intV D.length) [], mkHd (sentV (n + 1) 0) [newM D]] ?_
            conv => whnf
            try dsimp only [rowL, rowN, growOk, hiN, fromL, tightN, maxOk]
            try simp (disch := omega) only [wI, wU64, wU32, wU8, Int.toNat_natCast, toNat_succ, toNat_pred, Int.reduceToNat, Option.getD_some, Option.getD_none, Nat.sub_zero, Nat.zero_add]
            refine ⟨?_, ?_⟩
            · repeat' apply And.intro
              all_goals first
                | exact waitsB (r := 1) rfl (.of rfl rfl (fun _ _ => rfl))
                | exact hfull rfl (.of rfl rfl (fun _ _ => rfl))
                | exact show (!(L.getD i aa0).1) = false by rw [hsn]; rfl
                | trivial
                | rfl
                | omega
                | ((try dsimp only [rowL, rowN]); simp only [beq_iff_eq, beq_eq_false_iff_ne, bne_iff_ne, bne_eq_false_iff_eq, decide_eq_true_eq, decide_eq_false_iff_not, ne_eq, Bool.not_eq_true', Bool.not_eq_false', Bool.not_eq_eq_eq_not, Bool.not_true, Bool.not_false, Option.some.injEq, Option.getD_some, Option.getD_none]; omega)
                | (simp; done)
                | (simp; omega)
            refine SG.sub [0, 1] [0, 3, 2] ⟨?_, ?_, ?_, by decide, rfl, rfl, rfl, ?_⟩ nx
            · repeat' (first | exact trivial | exact rfl | refine And.intro ?_ ?_)
            · repeat' (first | exact trivial | exact rfl | refine And.intro ?_ ?_)
            · repeat' (first | exact trivial | refine ⟨⟨_, rfl, ⟨rfl, rfl, .inl rfl, (fun h => by first | exact h | cases h), (fun h => by first | exact h | cases h), fun _ _ => rfl⟩, fun _ _ => rfl⟩, ?_⟩ | refine ⟨⟨_, rfl, ⟨rfl, rfl, .inr rfl, (fun h => by first | exact h | cases h), (fun h => by first | exact h | cases h), fun _ _ => rfl⟩, fun _ _ => rfl⟩, ?_⟩ | refine ⟨⟨_, rfl, ⟨rfl, rfl, .inr rfl, (fun h => by first | exact h | cases h), (fun h => by first | exact h | cases h), fun i hi => absurd hi (Nat.not_lt_zero i)⟩, fun i hi => absurd hi (Nat.not_lt_zero i)⟩, ?_⟩ | refine ⟨⟨_, rfl, ⟨rfl, rfl, .inl rfl, (fun h => by first | exact h | cases h), (fun h => by first | exact h | cases h), fun i hi => ren_closed (hQc i hi)⟩, fun i hi => inn_closed (hQc i hi)⟩, ?_⟩)
            · repeat' (first | exact trivial | exact rfl | refine And.intro ?_ ?_)
    · generalize IN.drop g = D at *
      refine SG.walk tab_ok mx 400 [true, false, true, true] [mkHd (intV D.length) [], mkHd (intV D.length) [], mkHd (intV D.length) []] ?_
      conv => whnf
      try dsimp only [rowL, rowN, growOk, hiN, fromL, tightN, maxOk]
      try simp (disch := omega) only [wI, wU64, wU32, wU8, Int.toNat_natCast, toNat_succ, toNat_pred, Int.reduceToNat, Option.getD_some, Option.getD_none, Nat.sub_zero, Nat.zero_add]
      refine ⟨?_, ?_⟩
      · repeat' apply And.intro
        all_goals first
          | exact waitsB (r := 1) rfl (.of rfl rfl (fun _ _ => rfl))
          | trivial
          | rfl
          | omega
          | ((try dsimp only [rowL, rowN]); simp only [beq_iff_eq, beq_eq_false_iff_ne, bne_iff_ne, bne_eq_false_iff_eq, decide_eq_true_eq, decide_eq_false_iff_not, ne_eq, Bool.not_eq_true', Bool.not_eq_false', Bool.not_eq_eq_eq_not, Bool.not_true, Bool.not_false, Option.some.injEq, Option.getD_some, Option.getD_none]; omega)
          | (simp; done)
          | (simp; omega)
      refine SG.ret tab_ok Try.func5 rfl ?_
      intro ρ w' v hm hv
      exact top_v hm hv (by simp; omega)
  · generalize IN.drop g = D at *
    refine SG.walk tab_ok mx 400 [false, true, true] [mkHd (intV D.length) [], mkHd (intV D.length) [], mkHd (intV D.length) []] ?_
    conv => whnf
    try dsimp only [rowL, rowN, growOk, hiN, fromL, tightN, maxOk]
    try simp (disch := omega) only [wI, wU64, wU32, wU8, Int.toNat_natCast, toNat_succ, toNat_pred, Int.reduceToNat, Option.getD_some, Option.getD_none, Nat.sub_zero, Nat.zero_add]
    refine ⟨?_, ?_⟩
    · repeat' apply And.intro
      all_goals first
        | exact waitsB (r := 1) rfl (.of rfl rfl (fun _ _ => rfl))
        | trivial
        | rfl
        | omega
        | ((try dsimp only [rowL, rowN]); simp only [beq_iff_eq, beq_eq_false_iff_ne, bne_iff_ne, bne_eq_false_iff_eq, decide_eq_true_eq, decide_eq_false_iff_not, ne_eq, Bool.not_eq_true', Bool.not_eq_false', Bool.not_eq_eq_eq_not, Bool.not_true, Bool.not_false, Option.some.injEq, Option.getD_some, Option.getD_none]; omega)
        | (simp; done)
        | (simp; omega)
    refine SG.ret tab_ok Try.func5 rfl ?_
    intro ρ w' v hm hv
    exact top_v hm hv (by simp; omega)
end Go.Proofs.Ytecpnblhhjndgaa
