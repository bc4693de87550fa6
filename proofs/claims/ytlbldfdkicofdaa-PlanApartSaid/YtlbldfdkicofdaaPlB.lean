/- Plans: rows in which something is looked for. -/
import Derived.Test.YtlbldfdkicofdaaPlA
namespace Go.Proofs.Ytlbldfdkicofdaa
open Go.Sx Go.RowKit
set_option linter.unusedVariables false
set_option linter.unusedSimpArgs false
/-- A plan in a box that nobody writes any more. -/
abbrev boxR (a : Nat) (F : Int) (b c : Nat) : Row := ⟨4, 1, fun _ => [.rs a, aI F, .rs b, .rs c], none, false, false⟩
section
variable {W : Base} {B : List (Option (List At))} {Rs : List (Option Row)}
set_option maxRecDepth 100000 in
set_option maxHeartbeats 4000000 in
theorem indexPa {r : Nat} {R : Row} {L : List Pa} (hr : Rs[r]? = some (some R)) (hR : RowLe R (rowPa L)) (hl : L.length ≤ 6) :
    CallOk Try.prog W B Rs 26 [rsV r, .cv (.one (.clo 13 []))] (hdInt (ixG badPa L)) := by
  refine CallOk.enter Try.func26 (by kernel_rfl) rfl [r] [rowPa L] [rsV 0, .cv (.one (.clo 13 []))] rfl (rows1 (.ro_ hr hR rfl rfl (fun _ _ => rfl))) (fun r h => by cases h) rfl rfl ?_
  intro w blk hblk
  refine SG.walk tab_ok mx 400 [] [] ?_
  conv => whnf
  try dsimp only [rowL, rowN, growOk, hiN, fromL, tightN, maxOk]
  try simp (disch := omega) only [wI, wU64, wU32, wU8, Int.toNat_natCast, toNat_succ, toNat_pred, Int.reduceToNat, Option.getD_some, Option.getD_none, Nat.sub_zero, Nat.zero_add]
  refine ⟨?_, ?_⟩
  · trivial
  refine SG.loop (fun k : Nat => ⟨puts (List.replicate (Try.f26).ntmps .any) [(0, rsV 0), (1, .cv (.one (.clo 13 []))), (7, intV L.length), (8, intV k)], [], [some (rowPa L)], []⟩) (fun k => k ≤ L.length ∧ ∀ j, j < k → badPa (L.getD j pa0) = false) (fun k => L.length - k) (0) (⟨Nat.zero_le _, fun j hj => by omega⟩) (fun h => SG.sub [] [0] ⟨?_, ?_, ?_, by decide, rfl, rfl, rfl, ?_⟩ h) ?_
  · repeat' (first | exact trivial | exact rfl | refine And.intro ?_ ?_)
  · repeat' (first | exact trivial | exact rfl | refine And.intro ?_ ?_)
  · repeat' (first | exact trivial | refine ⟨⟨_, rfl, ⟨rfl, rfl, .inl rfl, (fun h => by first | exact h | cases h), (fun h => by first | exact h | cases h), fun _ _ => rfl⟩, fun _ _ => rfl⟩, ?_⟩ | refine ⟨⟨_, rfl, ⟨rfl, rfl, .inr rfl, (fun h => by first | exact h | cases h), (fun h => by first | exact h | cases h), fun _ _ => rfl⟩, fun _ _ => rfl⟩, ?_⟩ | refine ⟨⟨_, rfl, ⟨rfl, rfl, .inr rfl, (fun h => by first | exact h | cases h), (fun h => by first | exact h | cases h), fun i hi => absurd hi (Nat.not_lt_zero i)⟩, fun i hi => absurd hi (Nat.not_lt_zero i)⟩, ?_⟩ | refine ⟨⟨_, rfl, ⟨rfl, rfl, .inl rfl, (fun h => by first | exact h | cases h), (fun h => by first | exact h | cases h), fun i hi => ren_closed (hQc i hi)⟩, fun i hi => inn_closed (hQc i hi)⟩, ?_⟩)
  · repeat' (first | exact trivial | exact rfl | refine And.intro ?_ ?_)
  intro k hk next
  by_cases hlt : k < L.length
  · by_cases hp : badPa (L.getD k pa0) = true
    · refine SG.walk tab_ok mx 400 [true, true] [hdV (badPa (L.getD k pa0))] ?_
      conv => whnf
      try dsimp only [rowL, rowN, growOk, hiN, fromL, tightN, maxOk]
      try simp (disch := omega) only [wI, wU64, wU32, wU8, Int.toNat_natCast, toNat_succ, toNat_pred, Int.reduceToNat, Option.getD_some, Option.getD_none, Nat.sub_zero, Nat.zero_add]
      refine ⟨?_, ?_⟩
      · exact ⟨hp, badPartF, by omega, by omega, by simpa using hlt⟩
      · rw [ixG_at hlt hp hk.2]
        refine SG.ret tab_ok Try.func26 rfl ?_
        intro ρ w' v hm hv
        exact Post.mk hm (intV k) [] none [] hv rfl rows0 rfl (by simp)
    · refine SG.walk tab_ok mx 400 [true, false] [hdV (badPa (L.getD k pa0))] ?_
      conv => whnf
      try dsimp only [rowL, rowN, growOk, hiN, fromL, tightN, maxOk]
      try simp (disch := omega) only [wI, wU64, wU32, wU8, Int.toNat_natCast, toNat_succ, toNat_pred, Int.reduceToNat, Option.getD_some, Option.getD_none, Nat.sub_zero, Nat.zero_add]
      refine ⟨?_, ?_⟩
      · exact ⟨by simpa using hp, badPartF, by omega, by omega, by simpa using hlt⟩
      refine SG.sub [] [0] ⟨?_, ?_, ?_, by decide, rfl, rfl, rfl, ?_⟩ (next (k + 1) ⟨hlt, upto_succ hk.2 (by simpa using hp)⟩ (by omega))
      · repeat' (first | exact trivial | exact rfl | refine And.intro ?_ ?_)
      · repeat' (first | exact trivial | exact rfl | refine And.intro ?_ ?_)
      · repeat' (first | exact trivial | refine ⟨⟨_, rfl, ⟨rfl, rfl, .inl rfl, (fun h => by first | exact h | cases h), (fun h => by first | exact h | cases h), fun _ _ => rfl⟩, fun _ _ => rfl⟩, ?_⟩ | refine ⟨⟨_, rfl, ⟨rfl, rfl, .inr rfl, (fun h => by first | exact h | cases h), (fun h => by first | exact h | cases h), fun _ _ => rfl⟩, fun _ _ => rfl⟩, ?_⟩ | refine ⟨⟨_, rfl, ⟨rfl, rfl, .inr rfl, (fun h => by first | exact h | cases h), (fun h => by first | exact h | cases h), fun i hi => absurd hi (Nat.not_lt_zero i)⟩, fun i hi => absurd hi (Nat.not_lt_zero i)⟩, ?_⟩ | refine ⟨⟨_, rfl, ⟨rfl, rfl, .inl rfl, (fun h => by first | exact h | cases h), (fun h => by first | exact h | cases h), fun i hi => ren_closed (hQc i hi)⟩, fun i hi => inn_closed (hQc i hi)⟩, ?_⟩)
      · repeat' (first | exact trivial | exact rfl | refine And.intro ?_ ?_)
  · refine SG.walk tab_ok mx 400 [false] [] ?_
    conv => whnf
    try dsimp only [rowL, rowN, growOk, hiN, fromL, tightN, maxOk]
    try simp (disch := omega) only [wI, wU64, wU32, wU8, Int.toNat_natCast, toNat_succ, toNat_pred, Int.reduceToNat, Option.getD_some, Option.getD_none, Nat.sub_zero, Nat.zero_add]
    refine ⟨?_, ?_⟩
    · simpa using hlt
    · rw [ixG_none (by omega) hk.2]
      refine SG.ret tab_ok Try.func26 rfl ?_
      intro ρ w' v hm hv
      exact Post.mk hm (intV (-1)) [] none [] hv rfl rows0 rfl (by simp)
set_option maxRecDepth 100000 in
theorem containsPa {r : Nat} {R : Row} {L : List Pa} (hr : Rs[r]? = some (some R)) (hR : RowLe R (rowPa L)) (hl : L.length ≤ 6) :
    CallOk Try.prog W B Rs 12 [rsV r, .cv (.one (.clo 13 []))] (hdV (L.any badPa)) := by
  rw [← ixG_any]
  refine CallOk.enter Try.func12 (by kernel_rfl) rfl [r] [rowPa L] [rsV 0, .cv (.one (.clo 13 []))] rfl (rows1 (.ro_ hr hR rfl rfl (fun _ _ => rfl))) (fun r h => by cases h) rfl rfl ?_
  intro w blk hblk
  refine SG.walk tab_ok mx 400 [] [hdInt (ixG badPa L)] ?_
  conv => whnf
  try dsimp only [rowL, rowN, growOk, hiN, fromL, tightN, maxOk]
  try simp (disch := omega) only [wI, wU64, wU32, wU8, Int.toNat_natCast, toNat_succ, toNat_pred, Int.reduceToNat, Option.getD_some, Option.getD_none, Nat.sub_zero, Nat.zero_add]
  refine ⟨?_, ?_⟩
  · exact indexPa rfl (.of rfl rfl (fun _ _ => rfl)) hl
  refine SG.ret tab_ok Try.func12 rfl ?_
  intro ρ w' v hm hv
  exact Post.mk hm (.cv (.one (.v (.bool (decide (ixG badPa L ≥ 0)))))) [] none [] hv rfl rows0 rfl (by simp)
set_option maxRecDepth 100000 in
set_option maxHeartbeats 4000000 in
theorem indexWs {r : Nat} {R : Row} {L : List RW} (hr : Rs[r]? = some (some R)) (hR : RowLe R (rowWs L)) (hl : L.length ≤ 6) :
    CallOk Try.prog W B Rs 30 [rsV r, .cv (.one (.clo 25 []))] (hdInt (ixG (fun r : RW => decide ((r.L.length : Int) > 8)) L)) := by
  refine CallOk.enter Try.func30 (by kernel_rfl) rfl [r] [rowWs L] [rsV 0, .cv (.one (.clo 25 []))] rfl (rows1 (.ro_ hr hR rfl rfl (fun _ _ => rfl))) (fun r h => by cases h) rfl rfl ?_
  intro w blk hblk
  refine SG.walk tab_ok mx 400 [] [] ?_
  conv => whnf
  try dsimp only [rowL, rowN, growOk, hiN, fromL, tightN, maxOk]
  try simp (disch := omega) only [wI, wU64, wU32, wU8, Int.toNat_natCast, toNat_succ, toNat_pred, Int.reduceToNat, Option.getD_some, Option.getD_none, Nat.sub_zero, Nat.zero_add]
  refine ⟨?_, ?_⟩
  · trivial
  refine SG.loop (fun k : Nat => ⟨puts (List.replicate (Try.f30).ntmps .any) [(0, rsV 0), (1, .cv (.one (.clo 25 []))), (7, intV L.length), (8, intV k)], [], [some (rowWs L)], []⟩) (fun k => k ≤ L.length ∧ ∀ j, j < k → (fun r : RW => decide ((r.L.length : Int) > 8)) (L.getD j rw0) = false) (fun k => L.length - k) (0) (⟨Nat.zero_le _, fun j hj => by omega⟩) (fun h => SG.sub [] [0] ⟨?_, ?_, ?_, by decide, rfl, rfl, rfl, ?_⟩ h) ?_
  · repeat' (first | exact trivial | exact rfl | refine And.intro ?_ ?_)
  · repeat' (first | exact trivial | exact rfl | refine And.intro ?_ ?_)
  · repeat' (first | exact trivial | refine ⟨⟨_, rfl, ⟨rfl, rfl, .inl rfl, (fun h => by first | exact h | cases h), (fun h => by first | exact h | cases h), fun _ _ => rfl⟩, fun _ _ => rfl⟩, ?_⟩ | refine ⟨⟨_, rfl, ⟨rfl, rfl, .inr rfl, (fun h => by first | exact h | cases h), (fun h => by first | exact h | cases h), fun _ _ => rfl⟩, fun _ _ => rfl⟩, ?_⟩ | refine ⟨⟨_, rfl, ⟨rfl, rfl, .inr rfl, (fun h => by first | exact h | cases h), (fun h => by first | exact h | cases h), fun i hi => absurd hi (Nat.not_lt_zero i)⟩, fun i hi => absurd hi (Nat.not_lt_zero i)⟩, ?_⟩ | refine ⟨⟨_, rfl, ⟨rfl, rfl, .inl rfl, (fun h => by first | exact h | cases h), (fun h => by first | exact h | cases h), fun i hi => ren_closed (hQc i hi)⟩, fun i hi => inn_closed (hQc i hi)⟩, ?_⟩)
  · repeat' (first | exact trivial | exact rfl | refine And.intro ?_ ?_)
  intro k hk next
  by_cases hlt : k < L.length
  · by_cases hp : (fun r : RW => decide ((r.L.length : Int) > 8)) (L.getD k rw0) = true
    · refine SG.walk tab_ok mx 400 [true, true] [hdV ((fun r : RW => decide ((r.L.length : Int) > 8)) (L.getD k rw0))] ?_
      conv => whnf
      try dsimp only [rowL, rowN, growOk, hiN, fromL, tightN, maxOk]
      try simp (disch := omega) only [wI, wU64, wU32, wU8, Int.toNat_natCast, toNat_succ, toNat_pred, Int.reduceToNat, Option.getD_some, Option.getD_none, Nat.sub_zero, Nat.zero_add]
      refine ⟨?_, ?_⟩
      · exact ⟨hp, tooManyF, by omega, by omega, by simpa using hlt⟩
      · rw [ixG_at hlt hp hk.2]
        refine SG.ret tab_ok Try.func30 rfl ?_
        intro ρ w' v hm hv
        exact Post.mk hm (intV k) [] none [] hv rfl rows0 rfl (by simp)
    · refine SG.walk tab_ok mx 400 [true, false] [hdV ((fun r : RW => decide ((r.L.length : Int) > 8)) (L.getD k rw0))] ?_
      conv => whnf
      try dsimp only [rowL, rowN, growOk, hiN, fromL, tightN, maxOk]
      try simp (disch := omega) only [wI, wU64, wU32, wU8, Int.toNat_natCast, toNat_succ, toNat_pred, Int.reduceToNat, Option.getD_some, Option.getD_none, Nat.sub_zero, Nat.zero_add]
      refine ⟨?_, ?_⟩
      · exact ⟨by simpa using hp, tooManyF, by omega, by omega, by simpa using hlt⟩
      refine SG.sub [] [0] ⟨?_, ?_, ?_, by decide, rfl, rfl, rfl, ?_⟩ (next (k + 1) ⟨hlt, upto_succ hk.2 (by simpa using hp)⟩ (by omega))
      · repeat' (first | exact trivial | exact rfl | refine And.intro ?_ ?_)
      · repeat' (first | exact trivial | exact rfl | refine And.intro ?_ ?_)
      · repeat' (first | exact trivial | refine ⟨⟨_, rfl, ⟨rfl, rfl, .inl rfl, (fun h => by first | exact h | cases h), (fun h => by first | exact h | cases h), fun _ _ => rfl⟩, fun _ _ => rfl⟩, ?_⟩ | refine ⟨⟨_, rfl, ⟨rfl, rfl, .inr rfl, (fun h => by first | exact h | cases h), (fun h => by first | exact h | cases h), fun _ _ => rfl⟩, fun _ _ => rfl⟩, ?_⟩ | refine ⟨⟨_, rfl, ⟨rfl, rfl, .inr rfl, (fun h => by first | exact h | cases h), (fun h => by first | exact h | cases h), fun i hi => absurd hi (Nat.not_lt_zero i)⟩, fun i hi => absurd hi (Nat.not_lt_zero i)⟩, ?_⟩ | refine ⟨⟨_, rfl, ⟨rfl, rfl, .inl rfl, (fun h => by first | exact h | cases h), (fun h => by first | exact h | cases h), fun i hi => ren_closed (hQc i hi)⟩, fun i hi => inn_closed (hQc i hi)⟩, ?_⟩)
      · repeat' (first | exact trivial | exact rfl | refine And.intro ?_ ?_)
  · refine SG.walk tab_ok mx 400 [false] [] ?_
    conv => whnf
    try dsimp only [rowL, rowN, growOk, hiN, fromL, tightN, maxOk]
    try simp (disch := omega) only [wI, wU64, wU32, wU8, Int.toNat_natCast, toNat_succ, toNat_pred, Int.reduceToNat, Option.getD_some, Option.getD_none, Nat.sub_zero, Nat.zero_add]
    refine ⟨?_, ?_⟩
    · simpa using hlt
    · rw [ixG_none (by omega) hk.2]
      refine SG.ret tab_ok Try.func30 rfl ?_
      intro ρ w' v hm hv
      exact Post.mk hm (intV (-1)) [] none [] hv rfl rows0 rfl (by simp)
set_option maxRecDepth 100000 in
theorem containsWs {r : Nat} {R : Row} {L : List RW} (hr : Rs[r]? = some (some R)) (hR : RowLe R (rowWs L)) (hl : L.length ≤ 6) :
    CallOk Try.prog W B Rs 24 [rsV r, .cv (.one (.clo 25 []))] (hdV (L.any (fun r : RW => decide ((r.L.length : Int) > 8)))) := by
  rw [← ixG_any]
  refine CallOk.enter Try.func24 (by kernel_rfl) rfl [r] [rowWs L] [rsV 0, .cv (.one (.clo 25 []))] rfl (rows1 (.ro_ hr hR rfl rfl (fun _ _ => rfl))) (fun r h => by cases h) rfl rfl ?_
  intro w blk hblk
  refine SG.walk tab_ok mx 400 [] [hdInt (ixG (fun r : RW => decide ((r.L.length : Int) > 8)) L)] ?_
  conv => whnf
  try dsimp only [rowL, rowN, growOk, hiN, fromL, tightN, maxOk]
  try simp (disch := omega) only [wI, wU64, wU32, wU8, Int.toNat_natCast, toNat_succ, toNat_pred, Int.reduceToNat, Option.getD_some, Option.getD_none, Nat.sub_zero, Nat.zero_add]
  refine ⟨?_, ?_⟩
  · exact indexWs rfl (.of rfl rfl (fun _ _ => rfl)) hl
  refine SG.ret tab_ok Try.func24 rfl ?_
  intro ρ w' v hm hv
  exact Post.mk hm (.cv (.one (.v (.bool (decide (ixG (fun r : RW => decide ((r.L.length : Int) > 8)) L ≥ 0)))))) [] none [] hv rfl rows0 rfl (by simp)
theorem rows4 {A : Nat → Row → Prop} {n0 n1 n2 n3 : Nat} {Q0 Q1 Q2 Q3 : Row} (h0 : A n0 Q0) (h1 : A n1 Q1) (h2 : A n2 Q2) (h3 : A n3 Q3) : ∀ (k n : Nat) Q, [n0, n1, n2, n3][k]? = some n → [Q0, Q1, Q2, Q3][k]? = some Q → A n Q := fun k n Q h h' => by
  match k with
  | 0 => simp at h h'; subst h h'; exact h0
  | 1 => simp at h h'; subst h h'; exact h1
  | 2 => simp at h h'; subst h h'; exact h2
  | 3 => simp at h h'; subst h h'; exact h3
  | k + 4 => simp at h
theorem boxArg {a b c q : Nat} {F : Int} {Q : Row} (hq : Rs[q]? = some (some Q)) (hQ : RowLe Q (boxR a F b c)) {k : Option Nat} : ArgRow Rs [a, b, c, q] k q (boxR 0 F 1 2) :=
  ⟨⟨Q, hq, hQ.sz, hQ.len, hQ.own, hQ.tight, hQ.new, fun i hi => hQ.cells i hi⟩, fun i hi => rfl, .inl ⟨rfl, rfl⟩⟩
set_option maxRecDepth 100000 in
set_option maxHeartbeats 4000000 in
theorem badChanF {a b c : Nat} {P : List Pa} {S : List RW} {C : List Ch} {F : Int} (h : PlanAt Rs a b c P S C) {x : Ch} : CallOk Try.prog W B Rs 17 [planV a F b c, chV x] (hdV (badCh P.length x)) := by
  by_cases hk : x.k ≠ 1 ∧ x.k ≠ 2
  · rw [show badCh (P.length : Int) x = true from by simp [badCh, hk.1, hk.2]]
    refine CallOk.enter Try.func17 (by kernel_rfl) rfl [a, b, c] [rowPa P, rowWs S, rowCh C] [planV 0 F 1 2, chV x] rfl h.rows (fun r h => by cases h) rfl rfl ?_
    intro w blk hblk
    refine SG.walk tab_ok mx 400 [true, true] [] ?_
    conv => whnf
    try dsimp only [rowL, rowN, growOk, hiN, fromL, tightN, maxOk]
    try simp (disch := omega) only [wI, wU64, wU32, wU8, Int.toNat_natCast, toNat_succ, toNat_pred, Int.reduceToNat, Option.getD_some, Option.getD_none, Nat.sub_zero, Nat.zero_add]
    refine ⟨?_, ?_⟩
    · repeat' apply And.intro
      all_goals first
        | exact thereF ⟨⟨_, rfl, .of rfl rfl (fun _ _ => rfl)⟩, ⟨_, rfl, .of rfl rfl (fun _ _ => rfl)⟩, ⟨_, rfl, .of rfl rfl (fun _ _ => rfl)⟩⟩
        | exact by simp; omega
        | trivial
        | rfl
        | omega
        | ((try dsimp only [rowL, rowN]); simp only [beq_iff_eq, beq_eq_false_iff_ne, bne_iff_ne, bne_eq_false_iff_eq, decide_eq_true_eq, decide_eq_false_iff_not, ne_eq, Bool.not_eq_true', Bool.not_eq_false', Bool.not_eq_eq_eq_not, Bool.not_true, Bool.not_false, Option.some.injEq, Option.getD_some, Option.getD_none]; omega)
        | (simp; done)
        | (simp; omega)
    refine SG.ret tab_ok Try.func17 rfl ?_
    intro ρ w' v hm hv
    exact Post.mk hm (.cv (.one (.lb true))) [] none [] hv rfl rows0 rfl (by simp)
  by_cases hf : x.f < 0 ∨ x.f ≥ P.length
  · by_cases h1 : x.k = 1
    · rw [show badCh (P.length : Int) x = true from by rcases hf with hf | hf <;> simp [badCh, hf]]
      refine CallOk.enter Try.func17 (by kernel_rfl) rfl [a, b, c] [rowPa P, rowWs S, rowCh C] [planV 0 F 1 2, chV x] rfl h.rows (fun r h => by cases h) rfl rfl ?_
      intro w blk hblk
      refine SG.walk tab_ok mx 400 [false, true] [hdV (decide (x.f ≥ 0) && decide (x.f < (P.length : Int)))] ?_
      conv => whnf
      try dsimp only [rowL, rowN, growOk, hiN, fromL, tightN, maxOk]
      try simp (disch := omega) only [wI, wU64, wU32, wU8, Int.toNat_natCast, toNat_succ, toNat_pred, Int.reduceToNat, Option.getD_some, Option.getD_none, Nat.sub_zero, Nat.zero_add]
      refine ⟨?_, ?_⟩
      · repeat' apply And.intro
        all_goals first
          | exact thereF ⟨⟨_, rfl, .of rfl rfl (fun _ _ => rfl)⟩, ⟨_, rfl, .of rfl rfl (fun _ _ => rfl)⟩, ⟨_, rfl, .of rfl rfl (fun _ _ => rfl)⟩⟩
          | exact by simp; omega
          | trivial
          | rfl
          | omega
          | ((try dsimp only [rowL, rowN]); simp only [beq_iff_eq, beq_eq_false_iff_ne, bne_iff_ne, bne_eq_false_iff_eq, decide_eq_true_eq, decide_eq_false_iff_not, ne_eq, Bool.not_eq_true', Bool.not_eq_false', Bool.not_eq_eq_eq_not, Bool.not_true, Bool.not_false, Option.some.injEq, Option.getD_some, Option.getD_none]; omega)
          | (simp; done)
          | (simp; omega)
      refine SG.ret tab_ok Try.func17 rfl ?_
      intro ρ w' v hm hv
      exact Post.mk hm (.cv (.one (.lb true))) [] none [] hv rfl rows0 rfl (by simp)
    · rw [show badCh (P.length : Int) x = true from by rcases hf with hf | hf <;> simp [badCh, hf]]
      refine CallOk.enter Try.func17 (by kernel_rfl) rfl [a, b, c] [rowPa P, rowWs S, rowCh C] [planV 0 F 1 2, chV x] rfl h.rows (fun r h => by cases h) rfl rfl ?_
      intro w blk hblk
      refine SG.walk tab_ok mx 400 [true, false, true] [hdV (decide (x.f ≥ 0) && decide (x.f < (P.length : Int)))] ?_
      conv => whnf
      try dsimp only [rowL, rowN, growOk, hiN, fromL, tightN, maxOk]
      try simp (disch := omega) only [wI, wU64, wU32, wU8, Int.toNat_natCast, toNat_succ, toNat_pred, Int.reduceToNat, Option.getD_some, Option.getD_none, Nat.sub_zero, Nat.zero_add]
      refine ⟨?_, ?_⟩
      · repeat' apply And.intro
        all_goals first
          | exact thereF ⟨⟨_, rfl, .of rfl rfl (fun _ _ => rfl)⟩, ⟨_, rfl, .of rfl rfl (fun _ _ => rfl)⟩, ⟨_, rfl, .of rfl rfl (fun _ _ => rfl)⟩⟩
          | exact by simp; omega
          | trivial
          | rfl
          | omega
          | ((try dsimp only [rowL, rowN]); simp only [beq_iff_eq, beq_eq_false_iff_ne, bne_iff_ne, bne_eq_false_iff_eq, decide_eq_true_eq, decide_eq_false_iff_not, ne_eq, Bool.not_eq_true', Bool.not_eq_false', Bool.not_eq_eq_eq_not, Bool.not_true, Bool.not_false, Option.some.injEq, Option.getD_some, Option.getD_none]; omega)
          | (simp; done)
          | (simp; omega)
      refine SG.ret tab_ok Try.func17 rfl ?_
      intro ρ w' v hm hv
      exact Post.mk hm (.cv (.one (.lb true))) [] none [] hv rfl rows0 rfl (by simp)
  by_cases ht : x.t < 0 ∨ x.t ≥ P.length
  · by_cases h1 : x.k = 1
    · rw [show badCh (P.length : Int) x = true from by rcases ht with ht | ht <;> simp [badCh, ht]]
      refine CallOk.enter Try.func17 (by kernel_rfl) rfl [a, b, c] [rowPa P, rowWs S, rowCh C] [planV 0 F 1 2, chV x] rfl h.rows (fun r h => by cases h) rfl rfl ?_
      intro w blk hblk
      refine SG.walk tab_ok mx 400 [false, false, true] [hdV (decide (x.f ≥ 0) && decide (x.f < (P.length : Int))), hdV (decide (x.t ≥ 0) && decide (x.t < (P.length : Int)))] ?_
      conv => whnf
      try dsimp only [rowL, rowN, growOk, hiN, fromL, tightN, maxOk]
      try simp (disch := omega) only [wI, wU64, wU32, wU8, Int.toNat_natCast, toNat_succ, toNat_pred, Int.reduceToNat, Option.getD_some, Option.getD_none, Nat.sub_zero, Nat.zero_add]
      refine ⟨?_, ?_⟩
      · repeat' apply And.intro
        all_goals first
          | exact thereF ⟨⟨_, rfl, .of rfl rfl (fun _ _ => rfl)⟩, ⟨_, rfl, .of rfl rfl (fun _ _ => rfl)⟩, ⟨_, rfl, .of rfl rfl (fun _ _ => rfl)⟩⟩
          | exact by simp; omega
          | trivial
          | rfl
          | omega
          | ((try dsimp only [rowL, rowN]); simp only [beq_iff_eq, beq_eq_false_iff_ne, bne_iff_ne, bne_eq_false_iff_eq, decide_eq_true_eq, decide_eq_false_iff_not, ne_eq, Bool.not_eq_true', Bool.not_eq_false', Bool.not_eq_eq_eq_not, Bool.not_true, Bool.not_false, Option.some.injEq, Option.getD_some, Option.getD_none]; omega)
          | (simp; done)
          | (simp; omega)
      refine SG.ret tab_ok Try.func17 rfl ?_
      intro ρ w' v hm hv
      exact Post.mk hm (.cv (.one (.lb true))) [] none [] hv rfl rows0 rfl (by simp)
    · rw [show badCh (P.length : Int) x = true from by rcases ht with ht | ht <;> simp [badCh, ht]]
      refine CallOk.enter Try.func17 (by kernel_rfl) rfl [a, b, c] [rowPa P, rowWs S, rowCh C] [planV 0 F 1 2, chV x] rfl h.rows (fun r h => by cases h) rfl rfl ?_
      intro w blk hblk
      refine SG.walk tab_ok mx 400 [true, false, false, true] [hdV (decide (x.f ≥ 0) && decide (x.f < (P.length : Int))), hdV (decide (x.t ≥ 0) && decide (x.t < (P.length : Int)))] ?_
      conv => whnf
      try dsimp only [rowL, rowN, growOk, hiN, fromL, tightN, maxOk]
      try simp (disch := omega) only [wI, wU64, wU32, wU8, Int.toNat_natCast, toNat_succ, toNat_pred, Int.reduceToNat, Option.getD_some, Option.getD_none, Nat.sub_zero, Nat.zero_add]
      refine ⟨?_, ?_⟩
      · repeat' apply And.intro
        all_goals first
          | exact thereF ⟨⟨_, rfl, .of rfl rfl (fun _ _ => rfl)⟩, ⟨_, rfl, .of rfl rfl (fun _ _ => rfl)⟩, ⟨_, rfl, .of rfl rfl (fun _ _ => rfl)⟩⟩
          | exact by simp; omega
          | trivial
          | rfl
          | omega
          | ((try dsimp only [rowL, rowN]); simp only [beq_iff_eq, beq_eq_false_iff_ne, bne_iff_ne, bne_eq_false_iff_eq, decide_eq_true_eq, decide_eq_false_iff_not, ne_eq, Bool.not_eq_true', Bool.not_eq_false', Bool.not_eq_eq_eq_not, Bool.not_true, Bool.not_false, Option.some.injEq, Option.getD_some, Option.getD_none]; omega)
          | (simp; done)
          | (simp; omega)
      refine SG.ret tab_ok Try.func17 rfl ?_
      intro ρ w' v hm hv
      exact Post.mk hm (.cv (.one (.lb true))) [] none [] hv rfl rows0 rfl (by simp)
  by_cases he : x.f = x.t
  · by_cases h1 : x.k = 1
    · rw [show badCh (P.length : Int) x = true from by simp [badCh, he]]
      refine CallOk.enter Try.func17 (by kernel_rfl) rfl [a, b, c] [rowPa P, rowWs S, rowCh C] [planV 0 F 1 2, chV x] rfl h.rows (fun r h => by cases h) rfl rfl ?_
      intro w blk hblk
      refine SG.walk tab_ok mx 400 [false, false, false, true] [hdV (decide (x.f ≥ 0) && decide (x.f < (P.length : Int))), hdV (decide (x.t ≥ 0) && decide (x.t < (P.length : Int)))] ?_
      conv => whnf
      try dsimp only [rowL, rowN, growOk, hiN, fromL, tightN, maxOk]
      try simp (disch := omega) only [wI, wU64, wU32, wU8, Int.toNat_natCast, toNat_succ, toNat_pred, Int.reduceToNat, Option.getD_some, Option.getD_none, Nat.sub_zero, Nat.zero_add]
      refine ⟨?_, ?_⟩
      · repeat' apply And.intro
        all_goals first
          | exact thereF ⟨⟨_, rfl, .of rfl rfl (fun _ _ => rfl)⟩, ⟨_, rfl, .of rfl rfl (fun _ _ => rfl)⟩, ⟨_, rfl, .of rfl rfl (fun _ _ => rfl)⟩⟩
          | exact by simp; omega
          | trivial
          | rfl
          | omega
          | ((try dsimp only [rowL, rowN]); simp only [beq_iff_eq, beq_eq_false_iff_ne, bne_iff_ne, bne_eq_false_iff_eq, decide_eq_true_eq, decide_eq_false_iff_not, ne_eq, Bool.not_eq_true', Bool.not_eq_false', Bool.not_eq_eq_eq_not, Bool.not_true, Bool.not_false, Option.some.injEq, Option.getD_some, Option.getD_none]; omega)
          | (simp; done)
          | (simp; omega)
      refine SG.ret tab_ok Try.func17 rfl ?_
      intro ρ w' v hm hv
      exact Post.mk hm (.cv (.one (.lb true))) [] none [] hv rfl rows0 rfl (by simp)
    · rw [show badCh (P.length : Int) x = true from by simp [badCh, he]]
      refine CallOk.enter Try.func17 (by kernel_rfl) rfl [a, b, c] [rowPa P, rowWs S, rowCh C] [planV 0 F 1 2, chV x] rfl h.rows (fun r h => by cases h) rfl rfl ?_
      intro w blk hblk
      refine SG.walk tab_ok mx 400 [true, false, false, false, true] [hdV (decide (x.f ≥ 0) && decide (x.f < (P.length : Int))), hdV (decide (x.t ≥ 0) && decide (x.t < (P.length : Int)))] ?_
      conv => whnf
      try dsimp only [rowL, rowN, growOk, hiN, fromL, tightN, maxOk]
      try simp (disch := omega) only [wI, wU64, wU32, wU8, Int.toNat_natCast, toNat_succ, toNat_pred, Int.reduceToNat, Option.getD_some, Option.getD_none, Nat.sub_zero, Nat.zero_add]
      refine ⟨?_, ?_⟩
      · repeat' apply And.intro
        all_goals first
          | exact thereF ⟨⟨_, rfl, .of rfl rfl (fun _ _ => rfl)⟩, ⟨_, rfl, .of rfl rfl (fun _ _ => rfl)⟩, ⟨_, rfl, .of rfl rfl (fun _ _ => rfl)⟩⟩
          | exact by simp; omega
          | trivial
          | rfl
          | omega
          | ((try dsimp only [rowL, rowN]); simp only [beq_iff_eq, beq_eq_false_iff_ne, bne_iff_ne, bne_eq_false_iff_eq, decide_eq_true_eq, decide_eq_false_iff_not, ne_eq, Bool.not_eq_true', Bool.not_eq_false', Bool.not_eq_eq_eq_not, Bool.not_true, Bool.not_false, Option.some.injEq, Option.getD_some, Option.getD_none]; omega)
          | (simp; done)
          | (simp; omega)
      refine SG.ret tab_ok Try.func17 rfl ?_
      intro ρ w' v hm hv
      exact Post.mk hm (.cv (.one (.lb true))) [] none [] hv rfl rows0 rfl (by simp)
  by_cases hs : x.s < 1
  · by_cases h1 : x.k = 1
    · rw [show badCh (P.length : Int) x = true from by simp [badCh, hs]]
      refine CallOk.enter Try.func17 (by kernel_rfl) rfl [a, b, c] [rowPa P, rowWs S, rowCh C] [planV 0 F 1 2, chV x] rfl h.rows (fun r h => by cases h) rfl rfl ?_
      intro w blk hblk
      refine SG.walk tab_ok mx 400 [false, false, false, false, true] [hdV (decide (x.f ≥ 0) && decide (x.f < (P.length : Int))), hdV (decide (x.t ≥ 0) && decide (x.t < (P.length : Int)))] ?_
      conv => whnf
      try dsimp only [rowL, rowN, growOk, hiN, fromL, tightN, maxOk]
      try simp (disch := omega) only [wI, wU64, wU32, wU8, Int.toNat_natCast, toNat_succ, toNat_pred, Int.reduceToNat, Option.getD_some, Option.getD_none, Nat.sub_zero, Nat.zero_add]
      refine ⟨?_, ?_⟩
      · repeat' apply And.intro
        all_goals first
          | exact thereF ⟨⟨_, rfl, .of rfl rfl (fun _ _ => rfl)⟩, ⟨_, rfl, .of rfl rfl (fun _ _ => rfl)⟩, ⟨_, rfl, .of rfl rfl (fun _ _ => rfl)⟩⟩
          | exact by simp; omega
          | trivial
          | rfl
          | omega
          | ((try dsimp only [rowL, rowN]); simp only [beq_iff_eq, beq_eq_false_iff_ne, bne_iff_ne, bne_eq_false_iff_eq, decide_eq_true_eq, decide_eq_false_iff_not, ne_eq, Bool.not_eq_true', Bool.not_eq_false', Bool.not_eq_eq_eq_not, Bool.not_true, Bool.not_false, Option.some.injEq, Option.getD_some, Option.getD_none]; omega)
          | (simp; done)
          | (simp; omega)
      refine SG.ret tab_ok Try.func17 rfl ?_
      intro ρ w' v hm hv
      exact Post.mk hm (.cv (.one (.lb true))) [] none [] hv rfl rows0 rfl (by simp)
    · rw [show badCh (P.length : Int) x = true from by simp [badCh, hs]]
      refine CallOk.enter Try.func17 (by kernel_rfl) rfl [a, b, c] [rowPa P, rowWs S, rowCh C] [planV 0 F 1 2, chV x] rfl h.rows (fun r h => by cases h) rfl rfl ?_
      intro w blk hblk
      refine SG.walk tab_ok mx 400 [true, false, false, false, false, true] [hdV (decide (x.f ≥ 0) && decide (x.f < (P.length : Int))), hdV (decide (x.t ≥ 0) && decide (x.t < (P.length : Int)))] ?_
      conv => whnf
      try dsimp only [rowL, rowN, growOk, hiN, fromL, tightN, maxOk]
      try simp (disch := omega) only [wI, wU64, wU32, wU8, Int.toNat_natCast, toNat_succ, toNat_pred, Int.reduceToNat, Option.getD_some, Option.getD_none, Nat.sub_zero, Nat.zero_add]
      refine ⟨?_, ?_⟩
      · repeat' apply And.intro
        all_goals first
          | exact thereF ⟨⟨_, rfl, .of rfl rfl (fun _ _ => rfl)⟩, ⟨_, rfl, .of rfl rfl (fun _ _ => rfl)⟩, ⟨_, rfl, .of rfl rfl (fun _ _ => rfl)⟩⟩
          | exact by simp; omega
          | trivial
          | rfl
          | omega
          | ((try dsimp only [rowL, rowN]); simp only [beq_iff_eq, beq_eq_false_iff_ne, bne_iff_ne, bne_eq_false_iff_eq, decide_eq_true_eq, decide_eq_false_iff_not, ne_eq, Bool.not_eq_true', Bool.not_eq_false', Bool.not_eq_eq_eq_not, Bool.not_true, Bool.not_false, Option.some.injEq, Option.getD_some, Option.getD_none]; omega)
          | (simp; done)
          | (simp; omega)
      refine SG.ret tab_ok Try.func17 rfl ?_
      intro ρ w' v hm hv
      exact Post.mk hm (.cv (.one (.lb true))) [] none [] hv rfl rows0 rfl (by simp)
  by_cases hs2 : x.s > 32
  · by_cases h1 : x.k = 1
    · rw [show badCh (P.length : Int) x = true from by simp [badCh, hs2]]
      refine CallOk.enter Try.func17 (by kernel_rfl) rfl [a, b, c] [rowPa P, rowWs S, rowCh C] [planV 0 F 1 2, chV x] rfl h.rows (fun r h => by cases h) rfl rfl ?_
      intro w blk hblk
      refine SG.walk tab_ok mx 400 [false, false, false, false, false, true] [hdV (decide (x.f ≥ 0) && decide (x.f < (P.length : Int))), hdV (decide (x.t ≥ 0) && decide (x.t < (P.length : Int)))] ?_
      conv => whnf
      try dsimp only [rowL, rowN, growOk, hiN, fromL, tightN, maxOk]
      try simp (disch := omega) only [wI, wU64, wU32, wU8, Int.toNat_natCast, toNat_succ, toNat_pred, Int.reduceToNat, Option.getD_some, Option.getD_none, Nat.sub_zero, Nat.zero_add]
      refine ⟨?_, ?_⟩
      · repeat' apply And.intro
        all_goals first
          | exact thereF ⟨⟨_, rfl, .of rfl rfl (fun _ _ => rfl)⟩, ⟨_, rfl, .of rfl rfl (fun _ _ => rfl)⟩, ⟨_, rfl, .of rfl rfl (fun _ _ => rfl)⟩⟩
          | exact by simp; omega
          | trivial
          | rfl
          | omega
          | ((try dsimp only [rowL, rowN]); simp only [beq_iff_eq, beq_eq_false_iff_ne, bne_iff_ne, bne_eq_false_iff_eq, decide_eq_true_eq, decide_eq_false_iff_not, ne_eq, Bool.not_eq_true', Bool.not_eq_false', Bool.not_eq_eq_eq_not, Bool.not_true, Bool.not_false, Option.some.injEq, Option.getD_some, Option.getD_none]; omega)
          | (simp; done)
          | (simp; omega)
      refine SG.ret tab_ok Try.func17 rfl ?_
      intro ρ w' v hm hv
      exact Post.mk hm (.cv (.one (.lb true))) [] none [] hv rfl rows0 rfl (by simp)
    · rw [show badCh (P.length : Int) x = true from by simp [badCh, hs2]]
      refine CallOk.enter Try.func17 (by kernel_rfl) rfl [a, b, c] [rowPa P, rowWs S, rowCh C] [planV 0 F 1 2, chV x] rfl h.rows (fun r h => by cases h) rfl rfl ?_
      intro w blk hblk
      refine SG.walk tab_ok mx 400 [true, false, false, false, false, false, true] [hdV (decide (x.f ≥ 0) && decide (x.f < (P.length : Int))), hdV (decide (x.t ≥ 0) && decide (x.t < (P.length : Int)))] ?_
      conv => whnf
      try dsimp only [rowL, rowN, growOk, hiN, fromL, tightN, maxOk]
      try simp (disch := omega) only [wI, wU64, wU32, wU8, Int.toNat_natCast, toNat_succ, toNat_pred, Int.reduceToNat, Option.getD_some, Option.getD_none, Nat.sub_zero, Nat.zero_add]
      refine ⟨?_, ?_⟩
      · repeat' apply And.intro
        all_goals first
          | exact thereF ⟨⟨_, rfl, .of rfl rfl (fun _ _ => rfl)⟩, ⟨_, rfl, .of rfl rfl (fun _ _ => rfl)⟩, ⟨_, rfl, .of rfl rfl (fun _ _ => rfl)⟩⟩
          | exact by simp; omega
          | trivial
          | rfl
          | omega
          | ((try dsimp only [rowL, rowN]); simp only [beq_iff_eq, beq_eq_false_iff_ne, bne_iff_ne, bne_eq_false_iff_eq, decide_eq_true_eq, decide_eq_false_iff_not, ne_eq, Bool.not_eq_true', Bool.not_eq_false', Bool.not_eq_eq_eq_not, Bool.not_true, Bool.not_false, Option.some.injEq, Option.getD_some, Option.getD_none]; omega)
          | (simp; done)
          | (simp; omega)
      refine SG.ret tab_ok Try.func17 rfl ?_
      intro ρ w' v hm hv
      exact Post.mk hm (.cv (.one (.lb true))) [] none [] hv rfl rows0 rfl (by simp)
  by_cases h1 : x.k = 1
  · rw [show badCh (P.length : Int) x = (x.d != 1) from by simp only [badCh, decide_eq_false (show ¬ x.f < 0 by omega), decide_eq_false (show ¬ x.f ≥ (P.length : Int) by omega), decide_eq_false (show ¬ x.t < 0 by omega), decide_eq_false (show ¬ x.t ≥ (P.length : Int) by omega), decide_eq_false hs, decide_eq_false hs2, beq_eq_false_iff_ne.2 he, Bool.false_or]; rw [h1]; by_cases hd : x.d = 1; (simp [hd]); (rw [bne_iff_ne.2 hd]; simp)]
    refine CallOk.enter Try.func17 (by kernel_rfl) rfl [a, b, c] [rowPa P, rowWs S, rowCh C] [planV 0 F 1 2, chV x] rfl h.rows (fun r h => by cases h) rfl rfl ?_
    intro w blk hblk
    refine SG.walk tab_ok mx 400 [false, false, false, false, false, false, true] [hdV (decide (x.f ≥ 0) && decide (x.f < (P.length : Int))), hdV (decide (x.t ≥ 0) && decide (x.t < (P.length : Int)))] ?_
    conv => whnf
    try dsimp only [rowL, rowN, growOk, hiN, fromL, tightN, maxOk]
    try simp (disch := omega) only [wI, wU64, wU32, wU8, Int.toNat_natCast, toNat_succ, toNat_pred, Int.reduceToNat, Option.getD_some, Option.getD_none, Nat.sub_zero, Nat.zero_add]
    refine ⟨?_, ?_⟩
    · repeat' apply And.intro
      all_goals first
        | exact thereF ⟨⟨_, rfl, .of rfl rfl (fun _ _ => rfl)⟩, ⟨_, rfl, .of rfl rfl (fun _ _ => rfl)⟩, ⟨_, rfl, .of rfl rfl (fun _ _ => rfl)⟩⟩
        | exact by simp; omega
        | trivial
        | rfl
        | omega
        | ((try dsimp only [rowL, rowN]); simp only [beq_iff_eq, beq_eq_false_iff_ne, bne_iff_ne, bne_eq_false_iff_eq, decide_eq_true_eq, decide_eq_false_iff_not, ne_eq, Bool.not_eq_true', Bool.not_eq_false', Bool.not_eq_eq_eq_not, Bool.not_true, Bool.not_false, Option.some.injEq, Option.getD_some, Option.getD_none]; omega)
        | (simp; done)
        | (simp; omega)
    refine SG.ret tab_ok Try.func17 rfl ?_
    intro ρ w' v hm hv
    exact Post.mk hm (.cv (.one (.v (.bool (x.d != 1))))) [] none [] hv rfl rows0 rfl (by simp)
  have h2 : x.k = 2 := by omega
  by_cases hd : x.d < 1
  · rw [show badCh (P.length : Int) x = true from by simp [badCh, hd]]
    refine CallOk.enter Try.func17 (by kernel_rfl) rfl [a, b, c] [rowPa P, rowWs S, rowCh C] [planV 0 F 1 2, chV x] rfl h.rows (fun r h => by cases h) rfl rfl ?_
    intro w blk hblk
    refine SG.walk tab_ok mx 400 [true, false, false, false, false, false, false, false, true] [hdV (decide (x.f ≥ 0) && decide (x.f < (P.length : Int))), hdV (decide (x.t ≥ 0) && decide (x.t < (P.length : Int)))] ?_
    conv => whnf
    try dsimp only [rowL, rowN, growOk, hiN, fromL, tightN, maxOk]
    try simp (disch := omega) only [wI, wU64, wU32, wU8, Int.toNat_natCast, toNat_succ, toNat_pred, Int.reduceToNat, Option.getD_some, Option.getD_none, Nat.sub_zero, Nat.zero_add]
    refine ⟨?_, ?_⟩
    · repeat' apply And.intro
      all_goals first
        | exact thereF ⟨⟨_, rfl, .of rfl rfl (fun _ _ => rfl)⟩, ⟨_, rfl, .of rfl rfl (fun _ _ => rfl)⟩, ⟨_, rfl, .of rfl rfl (fun _ _ => rfl)⟩⟩
        | exact by simp; omega
        | trivial
        | rfl
        | omega
        | ((try dsimp only [rowL, rowN]); simp only [beq_iff_eq, beq_eq_false_iff_ne, bne_iff_ne, bne_eq_false_iff_eq, decide_eq_true_eq, decide_eq_false_iff_not, ne_eq, Bool.not_eq_true', Bool.not_eq_false', Bool.not_eq_eq_eq_not, Bool.not_true, Bool.not_false, Option.some.injEq, Option.getD_some, Option.getD_none]; omega)
        | (simp; done)
        | (simp; omega)
    refine SG.ret tab_ok Try.func17 rfl ?_
    intro ρ w' v hm hv
    exact Post.mk hm (.cv (.one (.lb true))) [] none [] hv rfl rows0 rfl (by simp)
  · rw [show badCh (P.length : Int) x = decide (x.d > 8) from by simp only [badCh, decide_eq_false (show ¬ x.f < 0 by omega), decide_eq_false (show ¬ x.f ≥ (P.length : Int) by omega), decide_eq_false (show ¬ x.t < 0 by omega), decide_eq_false (show ¬ x.t ≥ (P.length : Int) by omega), decide_eq_false hs, decide_eq_false hs2, beq_eq_false_iff_ne.2 he, Bool.false_or]; rw [h2]; simp [hd]]
    refine CallOk.enter Try.func17 (by kernel_rfl) rfl [a, b, c] [rowPa P, rowWs S, rowCh C] [planV 0 F 1 2, chV x] rfl h.rows (fun r h => by cases h) rfl rfl ?_
    intro w blk hblk
    refine SG.walk tab_ok mx 400 [true, false, false, false, false, false, false, false, false] [hdV (decide (x.f ≥ 0) && decide (x.f < (P.length : Int))), hdV (decide (x.t ≥ 0) && decide (x.t < (P.length : Int)))] ?_
    conv => whnf
    try dsimp only [rowL, rowN, growOk, hiN, fromL, tightN, maxOk]
    try simp (disch := omega) only [wI, wU64, wU32, wU8, Int.toNat_natCast, toNat_succ, toNat_pred, Int.reduceToNat, Option.getD_some, Option.getD_none, Nat.sub_zero, Nat.zero_add]
    refine ⟨?_, ?_⟩
    · repeat' apply And.intro
      all_goals first
        | exact thereF ⟨⟨_, rfl, .of rfl rfl (fun _ _ => rfl)⟩, ⟨_, rfl, .of rfl rfl (fun _ _ => rfl)⟩, ⟨_, rfl, .of rfl rfl (fun _ _ => rfl)⟩⟩
        | exact by simp; omega
        | trivial
        | rfl
        | omega
        | ((try dsimp only [rowL, rowN]); simp only [beq_iff_eq, beq_eq_false_iff_ne, bne_iff_ne, bne_eq_false_iff_eq, decide_eq_true_eq, decide_eq_false_iff_not, ne_eq, Bool.not_eq_true', Bool.not_eq_false', Bool.not_eq_eq_eq_not, Bool.not_true, Bool.not_false, Option.some.injEq, Option.getD_some, Option.getD_none]; omega)
        | (simp; done)
        | (simp; omega)
    refine SG.ret tab_ok Try.func17 rfl ?_
    intro ρ w' v hm hv
    exact Post.mk hm (.cv (.one (.v (.bool (decide (x.d > 8)))))) [] none [] hv rfl rows0 rfl (by simp)
set_option maxRecDepth 100000 in
theorem checkF {a b c : Nat} {P : List Pa} {S : List RW} {C : List Ch} {F : Int} {q : Nat} {Q : Row} (hq : Rs[q]? = some (some Q)) (hQ : RowLe Q (boxR a F b c)) (h : PlanAt Rs a b c P S C) {x : Ch} : CallOk Try.prog W B Rs 16 [chV x, .cv (.one (.pt (.rp q 0 0 0)))] (hdV (badCh P.length x)) := by
  refine CallOk.enter Try.func16 (by kernel_rfl) rfl [a, b, c, q] [rowPa P, rowWs S, rowCh C, boxR 0 F 1 2] [chV x, .cv (.one (.pt (.rp 3 0 0 0)))] rfl (rows4 (h.rows 0 _ _ rfl rfl) (h.rows 1 _ _ rfl rfl) (h.rows 2 _ _ rfl rfl) (boxArg hq hQ)) (fun r h => by cases h) rfl rfl ?_
  intro w blk hblk
  refine SG.walk tab_ok mx 400 [] [hdV (badCh P.length x)] ?_
  conv => whnf
  try dsimp only [rowL, rowN, growOk, hiN, fromL, tightN, maxOk]
  try simp (disch := omega) only [wI, wU64, wU32, wU8, Int.toNat_natCast, toNat_succ, toNat_pred, Int.reduceToNat, Option.getD_some, Option.getD_none, Nat.sub_zero, Nat.zero_add]
  refine ⟨?_, ?_⟩
  · repeat' apply And.intro
    all_goals first
      | exact badChanF ⟨⟨_, rfl, .of rfl rfl (fun _ _ => rfl)⟩, ⟨_, rfl, .of rfl rfl (fun _ _ => rfl)⟩, ⟨_, rfl, .of rfl rfl (fun _ _ => rfl)⟩⟩
      | trivial
      | rfl
      | omega
      | ((try dsimp only [rowL, rowN]); simp only [beq_iff_eq, beq_eq_false_iff_ne, bne_iff_ne, bne_eq_false_iff_eq, decide_eq_true_eq, decide_eq_false_iff_not, ne_eq, Bool.not_eq_true', Bool.not_eq_false', Bool.not_eq_eq_eq_not, Bool.not_true, Bool.not_false, Option.some.injEq, Option.getD_some, Option.getD_none]; omega)
      | (simp; done)
      | (simp; omega)
  refine SG.ret tab_ok Try.func16 rfl ?_
  intro ρ w' v hm hv
  exact Post.mk hm (.cv (.one (.v (.bool (badCh P.length x))))) [] none [] hv rfl rows0 rfl (by simp)
theorem boxArg2 {a b c q : Nat} {F : Int} {Q : Row} (hq : Rs[q]? = some (some Q)) (hQ : RowLe Q (boxR a F b c)) {k : Option Nat} : ArgRow Rs [c, q, a, b] k q (boxR 2 F 3 0) :=
  ⟨⟨Q, hq, hQ.sz, hQ.len, hQ.own, hQ.tight, hQ.new, fun i hi => hQ.cells i hi⟩, fun i hi => rfl, .inl ⟨rfl, rfl⟩⟩
set_option maxRecDepth 100000 in
set_option maxHeartbeats 4000000 in
theorem indexCh {a b r : Nat} {P : List Pa} {S : List RW} {C : List Ch} {F : Int} {q : Nat} {Q : Row} (hq : Rs[q]? = some (some Q)) (hQ : RowLe Q (boxR a F b r)) (h : PlanAt Rs a b r P S C) (hl : C.length ≤ 6) :
    CallOk Try.prog W B Rs 28 [rsV r, .cv (.one (.clo 16 [.rp q 0 0 0]))] (hdInt (ixG (badCh P.length) C)) := by
  refine CallOk.enter Try.func28 (by kernel_rfl) rfl [r, q, a, b] [rowCh C, boxR 2 F 3 0, rowPa P, rowWs S] [rsV 0, .cv (.one (.clo 16 [.rp 1 0 0 0]))] rfl (rows4 (h.rows 2 _ _ rfl rfl) (boxArg2 hq hQ) (h.rows 0 _ _ rfl rfl) (h.rows 1 _ _ rfl rfl)) (fun r h => by cases h) rfl rfl ?_
  intro w blk hblk
  refine SG.walk tab_ok mx 400 [] [] ?_
  conv => whnf
  try dsimp only [rowL, rowN, growOk, hiN, fromL, tightN, maxOk]
  try simp (disch := omega) only [wI, wU64, wU32, wU8, Int.toNat_natCast, toNat_succ, toNat_pred, Int.reduceToNat, Option.getD_some, Option.getD_none, Nat.sub_zero, Nat.zero_add]
  refine ⟨?_, ?_⟩
  · trivial
  refine SG.loop (fun k : Nat => ⟨puts (List.replicate (Try.f28).ntmps .any) [(0, rsV 0), (1, .cv (.one (.clo 16 [.rp 1 0 0 0]))), (7, intV C.length), (8, intV k)], [], [some (rowCh C), some (boxR 2 F 3 0), some (rowPa P), some (rowWs S)], []⟩) (fun k => k ≤ C.length ∧ ∀ j, j < k → (badCh P.length) (C.getD j ch0) = false) (fun k => C.length - k) (0) (⟨Nat.zero_le _, fun j hj => by omega⟩) (fun h => SG.sub [] [0, 1, 2, 3] ⟨?_, ?_, ?_, by decide, rfl, rfl, rfl, ?_⟩ h) ?_
  · repeat' (first | exact trivial | exact rfl | refine And.intro ?_ ?_)
  · repeat' (first | exact trivial | exact rfl | refine And.intro ?_ ?_)
  · repeat' (first | exact trivial | refine ⟨⟨_, rfl, ⟨rfl, rfl, .inl rfl, (fun h => by first | exact h | cases h), (fun h => by first | exact h | cases h), fun _ _ => rfl⟩, fun _ _ => rfl⟩, ?_⟩ | refine ⟨⟨_, rfl, ⟨rfl, rfl, .inr rfl, (fun h => by first | exact h | cases h), (fun h => by first | exact h | cases h), fun _ _ => rfl⟩, fun _ _ => rfl⟩, ?_⟩ | refine ⟨⟨_, rfl, ⟨rfl, rfl, .inr rfl, (fun h => by first | exact h | cases h), (fun h => by first | exact h | cases h), fun i hi => absurd hi (Nat.not_lt_zero i)⟩, fun i hi => absurd hi (Nat.not_lt_zero i)⟩, ?_⟩ | refine ⟨⟨_, rfl, ⟨rfl, rfl, .inl rfl, (fun h => by first | exact h | cases h), (fun h => by first | exact h | cases h), fun i hi => ren_closed (hQc i hi)⟩, fun i hi => inn_closed (hQc i hi)⟩, ?_⟩)
  · repeat' (first | exact trivial | exact rfl | refine And.intro ?_ ?_)
  intro k hk next
  by_cases hlt : k < C.length
  · by_cases hp : (badCh P.length) (C.getD k ch0) = true
    · refine SG.walk tab_ok mx 400 [true, true] [hdV ((badCh P.length) (C.getD k ch0))] ?_
      conv => whnf
      try dsimp only [rowL, rowN, growOk, hiN, fromL, tightN, maxOk]
      try simp (disch := omega) only [wI, wU64, wU32, wU8, Int.toNat_natCast, toNat_succ, toNat_pred, Int.reduceToNat, Option.getD_some, Option.getD_none, Nat.sub_zero, Nat.zero_add]
      refine ⟨?_, ?_⟩
      · exact ⟨hp, checkF (F := F) rfl (.of rfl rfl (fun _ _ => rfl)) ⟨⟨_, rfl, .of rfl rfl (fun _ _ => rfl)⟩, ⟨_, rfl, .of rfl rfl (fun _ _ => rfl)⟩, ⟨_, rfl, .of rfl rfl (fun _ _ => rfl)⟩⟩, by omega, by omega, by simpa using hlt⟩
      · rw [ixG_at hlt hp hk.2]
        refine SG.ret tab_ok Try.func28 rfl ?_
        intro ρ w' v hm hv
        exact Post.mk hm (intV k) [] none [] hv rfl rows0 rfl (by simp)
    · refine SG.walk tab_ok mx 400 [true, false] [hdV ((badCh P.length) (C.getD k ch0))] ?_
      conv => whnf
      try dsimp only [rowL, rowN, growOk, hiN, fromL, tightN, maxOk]
      try simp (disch := omega) only [wI, wU64, wU32, wU8, Int.toNat_natCast, toNat_succ, toNat_pred, Int.reduceToNat, Option.getD_some, Option.getD_none, Nat.sub_zero, Nat.zero_add]
      refine ⟨?_, ?_⟩
      · exact ⟨by simpa using hp, checkF (F := F) rfl (.of rfl rfl (fun _ _ => rfl)) ⟨⟨_, rfl, .of rfl rfl (fun _ _ => rfl)⟩, ⟨_, rfl, .of rfl rfl (fun _ _ => rfl)⟩, ⟨_, rfl, .of rfl rfl (fun _ _ => rfl)⟩⟩, by omega, by omega, by simpa using hlt⟩
      refine SG.sub [] [0, 1, 2, 3] ⟨?_, ?_, ?_, by decide, rfl, rfl, rfl, ?_⟩ (next (k + 1) ⟨hlt, upto_succ hk.2 (by simpa using hp)⟩ (by omega))
      · repeat' (first | exact trivial | exact rfl | refine And.intro ?_ ?_)
      · repeat' (first | exact trivial | exact rfl | refine And.intro ?_ ?_)
      · repeat' (first | exact trivial | refine ⟨⟨_, rfl, ⟨rfl, rfl, .inl rfl, (fun h => by first | exact h | cases h), (fun h => by first | exact h | cases h), fun _ _ => rfl⟩, fun _ _ => rfl⟩, ?_⟩ | refine ⟨⟨_, rfl, ⟨rfl, rfl, .inr rfl, (fun h => by first | exact h | cases h), (fun h => by first | exact h | cases h), fun _ _ => rfl⟩, fun _ _ => rfl⟩, ?_⟩ | refine ⟨⟨_, rfl, ⟨rfl, rfl, .inr rfl, (fun h => by first | exact h | cases h), (fun h => by first | exact h | cases h), fun i hi => absurd hi (Nat.not_lt_zero i)⟩, fun i hi => absurd hi (Nat.not_lt_zero i)⟩, ?_⟩ | refine ⟨⟨_, rfl, ⟨rfl, rfl, .inl rfl, (fun h => by first | exact h | cases h), (fun h => by first | exact h | cases h), fun i hi => ren_closed (hQc i hi)⟩, fun i hi => inn_closed (hQc i hi)⟩, ?_⟩)
      · repeat' (first | exact trivial | exact rfl | refine And.intro ?_ ?_)
  · refine SG.walk tab_ok mx 400 [false] [] ?_
    conv => whnf
    try dsimp only [rowL, rowN, growOk, hiN, fromL, tightN, maxOk]
    try simp (disch := omega) only [wI, wU64, wU32, wU8, Int.toNat_natCast, toNat_succ, toNat_pred, Int.reduceToNat, Option.getD_some, Option.getD_none, Nat.sub_zero, Nat.zero_add]
    refine ⟨?_, ?_⟩
    · simpa using hlt
    · rw [ixG_none (by omega) hk.2]
      refine SG.ret tab_ok Try.func28 rfl ?_
      intro ρ w' v hm hv
      exact Post.mk hm (intV (-1)) [] none [] hv rfl rows0 rfl (by simp)
set_option maxRecDepth 100000 in
theorem containsCh {a b r : Nat} {P : List Pa} {S : List RW} {C : List Ch} {F : Int} {q : Nat} {Q : Row} (hq : Rs[q]? = some (some Q)) (hQ : RowLe Q (boxR a F b r)) (h : PlanAt Rs a b r P S C) (hl : C.length ≤ 6) :
    CallOk Try.prog W B Rs 15 [rsV r, .cv (.one (.clo 16 [.rp q 0 0 0]))] (hdV (C.any (badCh P.length))) := by
  rw [← ixG_any]
  refine CallOk.enter Try.func15 (by kernel_rfl) rfl [r, q, a, b] [rowCh C, boxR 2 F 3 0, rowPa P, rowWs S] [rsV 0, .cv (.one (.clo 16 [.rp 1 0 0 0]))] rfl (rows4 (h.rows 2 _ _ rfl rfl) (boxArg2 hq hQ) (h.rows 0 _ _ rfl rfl) (h.rows 1 _ _ rfl rfl)) (fun r h => by cases h) rfl rfl ?_
  intro w blk hblk
  refine SG.walk tab_ok mx 400 [] [hdInt (ixG (badCh P.length) C)] ?_
  conv => whnf
  try dsimp only [rowL, rowN, growOk, hiN, fromL, tightN, maxOk]
  try simp (disch := omega) only [wI, wU64, wU32, wU8, Int.toNat_natCast, toNat_succ, toNat_pred, Int.reduceToNat, Option.getD_some, Option.getD_none, Nat.sub_zero, Nat.zero_add]
  refine ⟨?_, ?_⟩
  · exact indexCh (F := F) rfl (.of rfl rfl (fun _ _ => rfl)) ⟨⟨_, rfl, .of rfl rfl (fun _ _ => rfl)⟩, ⟨_, rfl, .of rfl rfl (fun _ _ => rfl)⟩, ⟨_, rfl, .of rfl rfl (fun _ _ => rfl)⟩⟩ hl
  refine SG.ret tab_ok Try.func15 rfl ?_
  intro ρ w' v hm hv
  exact Post.mk hm (.cv (.one (.v (.bool (decide (ixG (badCh P.length) C ≥ 0)))))) [] none [] hv rfl rows0 rfl (by simp)
end
end Go.Proofs.Ytlbldfdkicofdaa
