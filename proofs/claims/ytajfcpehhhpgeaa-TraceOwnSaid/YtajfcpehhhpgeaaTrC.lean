/- Traces: contracts, on: gaps; the document's. -/
import Derived.Test.YtajfcpehhhpgeaaTrB
namespace Go.Proofs.Ytajfcpehhhpgeaa
open Go.Sx Go.RowKit
set_option linter.unusedVariables false
set_option linter.unusedSimpArgs false
/-- The longest gap so far, the last time, whether there is none. -/
def gs (n : Int) (L : List E) : Nat → Int × Int × Bool
  | 0 => (0, 0, true)
  | k + 1 => if (L.getD k e0).pid = n then (if (gs n L k).2.2 = true then (gs n L k).1 else if IntKind.u64.wrap ((L.getD k e0).at_ - (gs n L k).2.1) > (gs n L k).1 then IntKind.u64.wrap ((L.getD k e0).at_ - (gs n L k).2.1) else (gs n L k).1, (L.getD k e0).at_, false) else gs n L k
section
variable {W : Base} {B : List (Option (List At))} {Rs : List (Option Row)}
set_option maxRecDepth 100000 in
theorem gapT {r : Nat} {R : Row} {L : List E} {n : Int} (hr : Rs[r]? = some (some R)) (hR : RowLe R (rowE L)) (hl : L.length ≤ 5864062014700) :
    CallOk Try.prog W B Rs 19 [rsV r, intV n] (hdU (gs n L L.length).1) := by
  refine CallOk.enter Try.func19 (by kernel_rfl) rfl [r] [rowE L] [rsV 0, intV n] rfl (rows1 (.ro_ hr hR rfl rfl (fun _ _ => rfl))) (fun r h => by cases h) rfl rfl ?_
  intro w blk hblk
  refine SG.walk tab_ok mx 400 [] [] ?_
  conv => whnf
  try dsimp only [rowL, rowN, growOk, hiN, fromL, tightN, maxOk]
  try simp (disch := omega) only [wI, wU64, wU32, wU8, Int.toNat_natCast, toNat_succ, toNat_pred, Int.reduceToNat, Option.getD_some, Option.getD_none, Nat.sub_zero, Nat.zero_add]
  refine ⟨?_, ?_⟩
  · trivial
  refine SG.inline rfl rfl rfl Try.func24 (by kernel_rfl) rfl ?_
  intro Wg Rg hbg
  refine SG.norm ?_
  conv => whnf
  refine SG.walk tab_ok mx 400 [] [] ?_
  conv => whnf
  try dsimp only [rowL, rowN, growOk, hiN, fromL, tightN, maxOk]
  try simp (disch := omega) only [wI, wU64, wU32, wU8, Int.toNat_natCast, toNat_succ, toNat_pred, Int.reduceToNat, Option.getD_some, Option.getD_none, Nat.sub_zero, Nat.zero_add]
  refine ⟨?_, ?_⟩
  · trivial
  refine SG.back hbg tab_ok Try.func24 rfl (Nat.le_of_ble_eq_true rfl) ?_
  refine SG.norm ?_
  conv => whnf
  refine SG.walk tab_ok mx 400 [] [] ?_
  conv => whnf
  try dsimp only [rowL, rowN, growOk, hiN, fromL, tightN, maxOk]
  try simp (disch := omega) only [wI, wU64, wU32, wU8, Int.toNat_natCast, toNat_succ, toNat_pred, Int.reduceToNat, Option.getD_some, Option.getD_none, Nat.sub_zero, Nat.zero_add]
  refine ⟨?_, ?_⟩
  · trivial
  refine SG.range rfl rfl Try.func31 (by kernel_rfl) rfl ?_
  intro Dq lq Lq Rq hlq
  refine SG.norm ?_
  conv => whnf
  refine SG.walk tab_ok mx 400 [] [] ?_
  conv => whnf
  try dsimp only [rowL, rowN, growOk, hiN, fromL, tightN, maxOk]
  try simp (disch := omega) only [wI, wU64, wU32, wU8, Int.toNat_natCast, toNat_succ, toNat_pred, Int.reduceToNat, Option.getD_some, Option.getD_none, Nat.sub_zero, Nat.zero_add]
  refine ⟨?_, ?_⟩
  · trivial
  refine SG.loop (fun k : Nat => ⟨puts (List.replicate (Try.f31).ntmps .any) [(0, yieldOf lq), (1, bpV 3), (2, bpV 4), (6, rsV 0), (7, intV L.length), (8, intV k)], [some [.v (.int .u64 (gs n L k).1)], some [.v (.int .u64 (gs n L k).2.1)], some [.lb (gs n L k).2.2], some [.rs 0], some [.v (.int .i64 n)]], [some (rowE L)], puts (List.replicate (Try.f19).ntmps .any) [(5, bpV 0), (6, bpV 1), (7, bpV 2)]⟩) (fun k => k ≤ L.length) (fun k => L.length - k) (0) (Nat.zero_le _) (fun h => SG.sub [0, 1, 2, 3, 4] [0] ⟨?_, ?_, ?_, by decide, rfl, rfl, rfl, ?_⟩ h) ?_
  · repeat' (first | exact trivial | exact rfl | refine And.intro ?_ ?_)
  · repeat' (first | exact trivial | exact rfl | refine And.intro ?_ ?_)
  · repeat' (first | exact trivial | refine ⟨⟨_, rfl, ⟨rfl, rfl, .inl rfl, (fun h => by first | exact h | cases h), (fun h => by first | exact h | cases h), fun _ _ => rfl⟩, fun _ _ => rfl⟩, ?_⟩ | refine ⟨⟨_, rfl, ⟨rfl, rfl, .inr rfl, (fun h => by first | exact h | cases h), (fun h => by first | exact h | cases h), fun _ _ => rfl⟩, fun _ _ => rfl⟩, ?_⟩ | refine ⟨⟨_, rfl, ⟨rfl, rfl, .inr rfl, (fun h => by first | exact h | cases h), (fun h => by first | exact h | cases h), fun i hi => absurd hi (Nat.not_lt_zero i)⟩, fun i hi => absurd hi (Nat.not_lt_zero i)⟩, ?_⟩ | refine ⟨⟨_, rfl, ⟨rfl, rfl, .inl rfl, (fun h => by first | exact h | cases h), (fun h => by first | exact h | cases h), fun i hi => ren_closed (hQc i hi)⟩, fun i hi => inn_closed (hQc i hi)⟩, ?_⟩)
  · repeat' (first | exact trivial | exact rfl | refine And.intro ?_ ?_)
  intro k hk next
  by_cases hlt : k < L.length
  · have nx := next (k + 1) hlt (by omega)
    by_cases hp : (L.getD k e0).pid = n
    · simp only [gs, if_pos hp] at nx
      obtain ⟨⟨g, l, f⟩, hg⟩ : ∃ x, gs n L k = x := ⟨_, rfl⟩
      rw [hg] at nx ⊢
      dsimp only at nx ⊢
      cases f with
      | true =>
        rw [if_pos rfl] at nx
        refine SG.walk tab_ok mx 400 [true, true] [] ?_
        conv => whnf
        try dsimp only [rowL, rowN, growOk, hiN, fromL, tightN, maxOk]
        try simp (disch := omega) only [wI, wU64, wU32, wU8, Int.toNat_natCast, toNat_succ, toNat_pred, Int.reduceToNat, Option.getD_some, Option.getD_none, Nat.sub_zero, Nat.zero_add]
        refine ⟨?_, ?_⟩
        · repeat' apply And.intro
          all_goals first
            | trivial
            | rfl
            | omega
            | ((try dsimp only [rowL, rowN]); simp only [beq_iff_eq, beq_eq_false_iff_ne, bne_iff_ne, bne_eq_false_iff_eq, decide_eq_true_eq, decide_eq_false_iff_not, ne_eq, Bool.not_eq_true', Bool.not_eq_false', Bool.not_eq_eq_eq_not, Bool.not_true, Bool.not_false, Option.some.injEq, Option.getD_some, Option.getD_none]; omega)
            | (simp; done)
            | (simp; omega)
        refine SG.round hlq rfl rfl rfl rfl rfl rfl rfl ?_
        intro Ty Ry hyy
        refine SG.norm ?_
        conv => whnf
        refine SG.walk tab_ok mx 400 [] [] ?_
        conv => whnf
        try dsimp only [rowL, rowN, growOk, hiN, fromL, tightN, maxOk]
        try simp (disch := omega) only [wI, wU64, wU32, wU8, Int.toNat_natCast, toNat_succ, toNat_pred, Int.reduceToNat, Option.getD_some, Option.getD_none, Nat.sub_zero, Nat.zero_add]
        refine ⟨?_, ?_⟩
        · trivial
        refine SG.begin_ hlq rfl rfl ?_
        refine SG.walk tab_ok mx 400 [] [] ?_
        conv => whnf
        try dsimp only [rowL, rowN, growOk, hiN, fromL, tightN, maxOk]
        try simp (disch := omega) only [wI, wU64, wU32, wU8, Int.toNat_natCast, toNat_succ, toNat_pred, Int.reduceToNat, Option.getD_some, Option.getD_none, Nat.sub_zero, Nat.zero_add]
        refine ⟨?_, ?_⟩
        · repeat' apply And.intro
          all_goals first
            | trivial
            | rfl
            | omega
            | ((try dsimp only [rowL, rowN]); simp only [beq_iff_eq, beq_eq_false_iff_ne, bne_iff_ne, bne_eq_false_iff_eq, decide_eq_true_eq, decide_eq_false_iff_not, ne_eq, Bool.not_eq_true', Bool.not_eq_false', Bool.not_eq_eq_eq_not, Bool.not_true, Bool.not_false, Option.some.injEq, Option.getD_some, Option.getD_none]; omega)
            | (simp; done)
            | (simp; omega)
        refine SG.rend hlq hyy rfl rfl (Nat.le_of_ble_eq_true rfl) ?_
        refine SG.norm ?_
        conv => whnf
        refine SG.walk tab_ok mx 400 [] [] ?_
        conv => whnf
        try dsimp only [rowL, rowN, growOk, hiN, fromL, tightN, maxOk]
        try simp (disch := omega) only [wI, wU64, wU32, wU8, Int.toNat_natCast, toNat_succ, toNat_pred, Int.reduceToNat, Option.getD_some, Option.getD_none, Nat.sub_zero, Nat.zero_add]
        refine ⟨?_, ?_⟩
        · trivial
        refine SG.sub [0, 1, 2, 3, 4] [0] ⟨?_, ?_, ?_, by decide, rfl, rfl, rfl, ?_⟩ nx
        · repeat' (first | exact trivial | exact rfl | refine And.intro ?_ ?_)
        · repeat' (first | exact trivial | exact rfl | refine And.intro ?_ ?_)
        · repeat' (first | exact trivial | refine ⟨⟨_, rfl, ⟨rfl, rfl, .inl rfl, (fun h => by first | exact h | cases h), (fun h => by first | exact h | cases h), fun _ _ => rfl⟩, fun _ _ => rfl⟩, ?_⟩ | refine ⟨⟨_, rfl, ⟨rfl, rfl, .inr rfl, (fun h => by first | exact h | cases h), (fun h => by first | exact h | cases h), fun _ _ => rfl⟩, fun _ _ => rfl⟩, ?_⟩ | refine ⟨⟨_, rfl, ⟨rfl, rfl, .inr rfl, (fun h => by first | exact h | cases h), (fun h => by first | exact h | cases h), fun i hi => absurd hi (Nat.not_lt_zero i)⟩, fun i hi => absurd hi (Nat.not_lt_zero i)⟩, ?_⟩ | refine ⟨⟨_, rfl, ⟨rfl, rfl, .inl rfl, (fun h => by first | exact h | cases h), (fun h => by first | exact h | cases h), fun i hi => ren_closed (hQc i hi)⟩, fun i hi => inn_closed (hQc i hi)⟩, ?_⟩)
        · repeat' (first | exact trivial | exact rfl | refine And.intro ?_ ?_)
      | false =>
        rw [if_neg (by decide)] at nx
        refine SG.walk tab_ok mx 400 [true, true] [] ?_
        conv => whnf
        try dsimp only [rowL, rowN, growOk, hiN, fromL, tightN, maxOk]
        try simp (disch := omega) only [wI, wU64, wU32, wU8, Int.toNat_natCast, toNat_succ, toNat_pred, Int.reduceToNat, Option.getD_some, Option.getD_none, Nat.sub_zero, Nat.zero_add]
        refine ⟨?_, ?_⟩
        · repeat' apply And.intro
          all_goals first
            | trivial
            | rfl
            | omega
            | ((try dsimp only [rowL, rowN]); simp only [beq_iff_eq, beq_eq_false_iff_ne, bne_iff_ne, bne_eq_false_iff_eq, decide_eq_true_eq, decide_eq_false_iff_not, ne_eq, Bool.not_eq_true', Bool.not_eq_false', Bool.not_eq_eq_eq_not, Bool.not_true, Bool.not_false, Option.some.injEq, Option.getD_some, Option.getD_none]; omega)
            | (simp; done)
            | (simp; omega)
        refine SG.round hlq rfl rfl rfl rfl rfl rfl rfl ?_
        intro Ty Ry hyy
        refine SG.norm ?_
        conv => whnf
        refine SG.walk tab_ok mx 400 [] [] ?_
        conv => whnf
        try dsimp only [rowL, rowN, growOk, hiN, fromL, tightN, maxOk]
        try simp (disch := omega) only [wI, wU64, wU32, wU8, Int.toNat_natCast, toNat_succ, toNat_pred, Int.reduceToNat, Option.getD_some, Option.getD_none, Nat.sub_zero, Nat.zero_add]
        refine ⟨?_, ?_⟩
        · trivial
        refine SG.begin_ hlq rfl rfl ?_
        refine SG.walk tab_ok mx 400 [] [] ?_
        conv => whnf
        try dsimp only [rowL, rowN, growOk, hiN, fromL, tightN, maxOk]
        refine ⟨?_, ?_⟩
        · repeat' apply And.intro
          all_goals first
            | trivial
            | rfl
            | omega
            | ((try dsimp only [rowL, rowN]); simp only [beq_iff_eq, beq_eq_false_iff_ne, bne_iff_ne, bne_eq_false_iff_eq, decide_eq_true_eq, decide_eq_false_iff_not, ne_eq, Bool.not_eq_true', Bool.not_eq_false', Bool.not_eq_eq_eq_not, Bool.not_true, Bool.not_false, Option.some.injEq, Option.getD_some, Option.getD_none]; omega)
            | (simp; done)
            | (simp; omega)
        refine SG.rend hlq hyy rfl rfl (Nat.le_of_ble_eq_true rfl) ?_
        refine SG.norm ?_
        conv => whnf
        refine SG.walk tab_ok mx 400 [] [] ?_
        conv => whnf
        try dsimp only [rowL, rowN, growOk, hiN, fromL, tightN, maxOk]
        try simp (disch := omega) only [wI, wU64, wU32, wU8, Int.toNat_natCast, toNat_succ, toNat_pred, Int.reduceToNat, Option.getD_some, Option.getD_none, Nat.sub_zero, Nat.zero_add]
        refine ⟨?_, ?_⟩
        · trivial
        refine SG.sub [0, 1, 2, 3, 4] [0] ⟨?_, ?_, ?_, by decide, rfl, rfl, rfl, ?_⟩ nx
        · repeat' (first | exact trivial | exact rfl | refine And.intro ?_ ?_)
        · repeat' (first | exact trivial | exact rfl | refine And.intro ?_ ?_)
        · repeat' (first | exact trivial | refine ⟨⟨_, rfl, ⟨rfl, rfl, .inl rfl, (fun h => by first | exact h | cases h), (fun h => by first | exact h | cases h), fun _ _ => rfl⟩, fun _ _ => rfl⟩, ?_⟩ | refine ⟨⟨_, rfl, ⟨rfl, rfl, .inr rfl, (fun h => by first | exact h | cases h), (fun h => by first | exact h | cases h), fun _ _ => rfl⟩, fun _ _ => rfl⟩, ?_⟩ | refine ⟨⟨_, rfl, ⟨rfl, rfl, .inr rfl, (fun h => by first | exact h | cases h), (fun h => by first | exact h | cases h), fun i hi => absurd hi (Nat.not_lt_zero i)⟩, fun i hi => absurd hi (Nat.not_lt_zero i)⟩, ?_⟩ | refine ⟨⟨_, rfl, ⟨rfl, rfl, .inl rfl, (fun h => by first | exact h | cases h), (fun h => by first | exact h | cases h), fun i hi => ren_closed (hQc i hi)⟩, fun i hi => inn_closed (hQc i hi)⟩, ?_⟩)
        · repeat' (first | exact trivial | exact rfl | refine And.intro ?_ ?_)
    · simp only [gs, if_neg hp] at nx
      refine SG.walk tab_ok mx 400 [true, false] [] ?_
      conv => whnf
      try dsimp only [rowL, rowN, growOk, hiN, fromL, tightN, maxOk]
      try simp (disch := omega) only [wI, wU64, wU32, wU8, Int.toNat_natCast, toNat_succ, toNat_pred, Int.reduceToNat, Option.getD_some, Option.getD_none, Nat.sub_zero, Nat.zero_add]
      refine ⟨?_, ?_⟩
      · repeat' apply And.intro
        all_goals first
          | trivial
          | rfl
          | omega
          | ((try dsimp only [rowL, rowN]); simp only [beq_iff_eq, beq_eq_false_iff_ne, bne_iff_ne, bne_eq_false_iff_eq, decide_eq_true_eq, decide_eq_false_iff_not, ne_eq, Bool.not_eq_true', Bool.not_eq_false', Bool.not_eq_eq_eq_not, Bool.not_true, Bool.not_false, Option.some.injEq, Option.getD_some, Option.getD_none]; omega)
          | (simp; done)
          | (simp; omega)
      refine SG.sub [0, 1, 2, 3, 4] [0] ⟨?_, ?_, ?_, by decide, rfl, rfl, rfl, ?_⟩ nx
      · repeat' (first | exact trivial | exact rfl | refine And.intro ?_ ?_)
      · repeat' (first | exact trivial | exact rfl | refine And.intro ?_ ?_)
      · repeat' (first | exact trivial | refine ⟨⟨_, rfl, ⟨rfl, rfl, .inl rfl, (fun h => by first | exact h | cases h), (fun h => by first | exact h | cases h), fun _ _ => rfl⟩, fun _ _ => rfl⟩, ?_⟩ | refine ⟨⟨_, rfl, ⟨rfl, rfl, .inr rfl, (fun h => by first | exact h | cases h), (fun h => by first | exact h | cases h), fun _ _ => rfl⟩, fun _ _ => rfl⟩, ?_⟩ | refine ⟨⟨_, rfl, ⟨rfl, rfl, .inr rfl, (fun h => by first | exact h | cases h), (fun h => by first | exact h | cases h), fun i hi => absurd hi (Nat.not_lt_zero i)⟩, fun i hi => absurd hi (Nat.not_lt_zero i)⟩, ?_⟩ | refine ⟨⟨_, rfl, ⟨rfl, rfl, .inl rfl, (fun h => by first | exact h | cases h), (fun h => by first | exact h | cases h), fun i hi => ren_closed (hQc i hi)⟩, fun i hi => inn_closed (hQc i hi)⟩, ?_⟩)
      · repeat' (first | exact trivial | exact rfl | refine And.intro ?_ ?_)
  · have hkl : k = L.length := by omega
    subst hkl
    refine SG.walk tab_ok mx 400 [false] [] ?_
    conv => whnf
    try dsimp only [rowL, rowN, growOk, hiN, fromL, tightN, maxOk]
    try simp (disch := omega) only [wI, wU64, wU32, wU8, Int.toNat_natCast, toNat_succ, toNat_pred, Int.reduceToNat, Option.getD_some, Option.getD_none, Nat.sub_zero, Nat.zero_add]
    refine ⟨?_, ?_⟩
    · repeat' apply And.intro
      all_goals first
        | trivial
        | rfl
        | omega
        | ((try dsimp only [rowL, rowN]); simp only [beq_iff_eq, beq_eq_false_iff_ne, bne_iff_ne, bne_eq_false_iff_eq, decide_eq_true_eq, decide_eq_false_iff_not, ne_eq, Bool.not_eq_true', Bool.not_eq_false', Bool.not_eq_eq_eq_not, Bool.not_true, Bool.not_false, Option.some.injEq, Option.getD_some, Option.getD_none]; omega)
        | (simp; done)
        | (simp; omega)
    refine SG.routEnd hlq tab_ok Try.func31 rfl rfl (Nat.le_of_ble_eq_true rfl) ?_
    refine SG.norm ?_
    conv => whnf
    refine SG.walk tab_ok mx 400 [] [] ?_
    conv => whnf
    try dsimp only [rowL, rowN, growOk, hiN, fromL, tightN, maxOk]
    try simp (disch := omega) only [wI, wU64, wU32, wU8, Int.toNat_natCast, toNat_succ, toNat_pred, Int.reduceToNat, Option.getD_some, Option.getD_none, Nat.sub_zero, Nat.zero_add]
    refine ⟨?_, ?_⟩
    · trivial
    refine SG.ret tab_ok Try.func19 rfl ?_
    intro ρ w' v hm hv
    exact Post.mk hm (u64V (gs n L L.length).1) [] none [] hv rfl rows0 rfl (by simp)
set_option maxRecDepth 100000 in
theorem rOfT {r : Nat} {R : Row} {L : List E} {n : Int} (hr : Rs[r]? = some (some R)) (hR : RowLe R (rowE L)) (hl : L.length ≤ 5864062014700) :
    CallOk Try.prog W B Rs 12 [rsV r, intV n] (hdE (L.filter (ofP n))) := by
  refine CallOk.enter Try.func12 (by kernel_rfl) rfl [r] [rowE L] [rsV 0, intV n] rfl (rows1 (.ro_ hr hR rfl rfl (fun _ _ => rfl))) (fun r h => by cases h) rfl rfl ?_
  intro w blk hblk
  refine SG.walk tab_ok mx 400 [] [] ?_
  conv => whnf
  try dsimp only [rowL, rowN, growOk, hiN, fromL, tightN, maxOk]
  try simp (disch := omega) only [wI, wU64, wU32, wU8, Int.toNat_natCast, toNat_succ, toNat_pred, Int.reduceToNat, Option.getD_some, Option.getD_none, Nat.sub_zero, Nat.zero_add]
  refine ⟨?_, ?_⟩
  · trivial
  refine SG.nilRow 5 40 4 rfl ?_
  refine SG.norm ?_
  conv => whnf
  refine SG.loop (fun k : Nat => ⟨puts (List.replicate (Try.f12).ntmps .any) [(0, rsV 0), (1, intV n), (5, rsV 1), (6, intV k)], [], [some (rowE L), some (newE ((L.take k).filter (ofP n)))], []⟩) (fun k => k ≤ L.length) (fun k => L.length - k) (0) (Nat.zero_le _) (fun h => SG.sub [] [0, 1] ⟨?_, ?_, ?_, by decide, rfl, rfl, rfl, ?_⟩ h) ?_
  · repeat' (first | exact trivial | exact rfl | refine And.intro ?_ ?_)
  · repeat' (first | exact trivial | exact rfl | refine And.intro ?_ ?_)
  · repeat' (first | exact trivial | refine ⟨⟨_, rfl, ⟨rfl, rfl, .inl rfl, (fun h => by first | exact h | cases h), (fun h => by first | exact h | cases h), fun _ _ => rfl⟩, fun _ _ => rfl⟩, ?_⟩ | refine ⟨⟨_, rfl, ⟨rfl, rfl, .inr rfl, (fun h => by first | exact h | cases h), (fun h => by first | exact h | cases h), fun _ _ => rfl⟩, fun _ _ => rfl⟩, ?_⟩ | refine ⟨⟨_, rfl, ⟨rfl, rfl, .inr rfl, (fun h => by first | exact h | cases h), (fun h => by first | exact h | cases h), fun i hi => absurd hi (Nat.not_lt_zero i)⟩, fun i hi => absurd hi (Nat.not_lt_zero i)⟩, ?_⟩ | refine ⟨⟨_, rfl, ⟨rfl, rfl, .inl rfl, (fun h => by first | exact h | cases h), (fun h => by first | exact h | cases h), fun i hi => ren_closed (hQc i hi)⟩, fun i hi => inn_closed (hQc i hi)⟩, ?_⟩)
  · repeat' (first | exact trivial | exact rfl | refine And.intro ?_ ?_)
  intro k hk next
  have hln : ((L.take k).filter (ofP n)).length ≤ k := Nat.le_trans (List.length_filter_le _ _) (by simp; omega)
  by_cases hlt : k < L.length
  · by_cases hp : (L.getD k e0).pid = n
    · have e := filt_take_yes (p := ofP n) (d := e0) hlt (by simp [ofP, hp, - List.getD_eq_getElem?_getD])
      refine SG.walk tab_ok mx 400 [true, true] [] ?_
      conv => whnf
      try dsimp only [rowL, rowN, growOk, hiN, fromL, tightN, maxOk]
      try simp (disch := omega) only [wI, wU64, wU32, wU8, Int.toNat_natCast, toNat_succ, toNat_pred, Int.reduceToNat, Option.getD_some, Option.getD_none, Nat.sub_zero, Nat.zero_add]
      refine ⟨?_, ?_⟩
      · repeat' apply And.intro
        all_goals first
          | trivial
          | rfl
          | omega
          | ((try dsimp only [rowL, rowN]); simp only [beq_iff_eq, beq_eq_false_iff_ne, bne_iff_ne, bne_eq_false_iff_eq, decide_eq_true_eq, decide_eq_false_iff_not, ne_eq, Bool.not_eq_true', Bool.not_eq_false', Bool.not_eq_eq_eq_not, Bool.not_true, Bool.not_false, Option.some.injEq, Option.getD_some, Option.getD_none]; omega)
          | (simp; done)
          | (simp; omega)
      refine SG.sub [] [0, 3] ⟨?_, ?_, ?_, by decide, rfl, rfl, rfl, ?_⟩ (next (k + 1) hlt (by omega))
      · repeat' (first | exact trivial | exact rfl | refine And.intro ?_ ?_)
      · repeat' (first | exact trivial | exact rfl | refine And.intro ?_ ?_)
      · first | refine ⟨⟨_, rfl, ⟨rfl, rfl, .inl rfl, (fun h => by first | exact h | cases h), (fun h => by first | exact h | cases h), fun _ _ => rfl⟩, fun _ _ => rfl⟩, ?_⟩ | refine ⟨⟨_, rfl, ⟨rfl, rfl, .inr rfl, (fun h => by first | exact h | cases h), (fun h => by first | exact h | cases h), fun _ _ => rfl⟩, fun _ _ => rfl⟩, ?_⟩ | refine ⟨⟨_, rfl, ⟨rfl, rfl, .inr rfl, (fun h => by first | exact h | cases h), (fun h => by first | exact h | cases h), fun i hi => absurd hi (Nat.not_lt_zero i)⟩, fun i hi => absurd hi (Nat.not_lt_zero i)⟩, ?_⟩ | refine ⟨⟨_, rfl, ⟨rfl, rfl, .inl rfl, (fun h => by first | exact h | cases h), (fun h => by first | exact h | cases h), fun i hi => ren_closed (hQc i hi)⟩, fun i hi => inn_closed (hQc i hi)⟩, ?_⟩
        refine ⟨⟨_, rfl, (RowLe.snoc e rfl (fun i hi => if_pos hi) (by rw [if_neg (Nat.lt_irrefl _), Nat.sub_self]; rfl) (fun _ => rfl)), fun _ _ => rfl⟩, ?_⟩
        exact trivial
      · repeat' (first | exact trivial | exact rfl | refine And.intro ?_ ?_)
    · have e := filt_take_no (p := ofP n) (d := e0) hlt (by simp [ofP, hp, - List.getD_eq_getElem?_getD])
      refine SG.walk tab_ok mx 400 [true, false] [] ?_
      conv => whnf
      try dsimp only [rowL, rowN, growOk, hiN, fromL, tightN, maxOk]
      try simp (disch := omega) only [wI, wU64, wU32, wU8, Int.toNat_natCast, toNat_succ, toNat_pred, Int.reduceToNat, Option.getD_some, Option.getD_none, Nat.sub_zero, Nat.zero_add]
      refine ⟨?_, ?_⟩
      · repeat' apply And.intro
        all_goals first
          | trivial
          | rfl
          | omega
          | ((try dsimp only [rowL, rowN]); simp only [beq_iff_eq, beq_eq_false_iff_ne, bne_iff_ne, bne_eq_false_iff_eq, decide_eq_true_eq, decide_eq_false_iff_not, ne_eq, Bool.not_eq_true', Bool.not_eq_false', Bool.not_eq_eq_eq_not, Bool.not_true, Bool.not_false, Option.some.injEq, Option.getD_some, Option.getD_none]; omega)
          | (simp; done)
          | (simp; omega)
      refine SG.sub [] [0, 1] ⟨?_, ?_, ?_, by decide, rfl, rfl, rfl, ?_⟩ (next (k + 1) hlt (by omega))
      · repeat' (first | exact trivial | exact rfl | refine And.intro ?_ ?_)
      · repeat' (first | exact trivial | exact rfl | refine And.intro ?_ ?_)
      · first | refine ⟨⟨_, rfl, ⟨rfl, rfl, .inl rfl, (fun h => by first | exact h | cases h), (fun h => by first | exact h | cases h), fun _ _ => rfl⟩, fun _ _ => rfl⟩, ?_⟩ | refine ⟨⟨_, rfl, ⟨rfl, rfl, .inr rfl, (fun h => by first | exact h | cases h), (fun h => by first | exact h | cases h), fun _ _ => rfl⟩, fun _ _ => rfl⟩, ?_⟩ | refine ⟨⟨_, rfl, ⟨rfl, rfl, .inr rfl, (fun h => by first | exact h | cases h), (fun h => by first | exact h | cases h), fun i hi => absurd hi (Nat.not_lt_zero i)⟩, fun i hi => absurd hi (Nat.not_lt_zero i)⟩, ?_⟩ | refine ⟨⟨_, rfl, ⟨rfl, rfl, .inl rfl, (fun h => by first | exact h | cases h), (fun h => by first | exact h | cases h), fun i hi => ren_closed (hQc i hi)⟩, fun i hi => inn_closed (hQc i hi)⟩, ?_⟩
        refine ⟨⟨_, rfl, (by rw [e]; exact .refl _), fun _ _ => rfl⟩, ?_⟩
        exact trivial
      · repeat' (first | exact trivial | exact rfl | refine And.intro ?_ ?_)
  · refine SG.walk tab_ok mx 400 [false] [] ?_
    conv => whnf
    try dsimp only [rowL, rowN, growOk, hiN, fromL, tightN, maxOk]
    try simp (disch := omega) only [wI, wU64, wU32, wU8, Int.toNat_natCast, toNat_succ, toNat_pred, Int.reduceToNat, Option.getD_some, Option.getD_none, Nat.sub_zero, Nat.zero_add]
    refine ⟨?_, ?_⟩
    · repeat' apply And.intro
      all_goals first
        | trivial
        | rfl
        | omega
        | ((try dsimp only [rowL, rowN]); simp only [beq_iff_eq, beq_eq_false_iff_ne, bne_iff_ne, bne_eq_false_iff_eq, decide_eq_true_eq, decide_eq_false_iff_not, ne_eq, Bool.not_eq_true', Bool.not_eq_false', Bool.not_eq_eq_eq_not, Bool.not_true, Bool.not_false, Option.some.injEq, Option.getD_some, Option.getD_none]; omega)
        | (simp; done)
        | (simp; omega)
    rw [List.take_of_length_le (by omega)]
    refine SG.ret tab_ok Try.func12 rfl ?_
    intro ρ w' v hm hv
    exact Post.mk hm (rsV 0) [newE (L.filter (ofP n))] none [1] hv rfl (rows1 (.of rfl rfl rfl rfl rfl (fun i hi => rfl) (fun _ => rfl))) rfl (by simp)
set_option maxRecDepth 100000 in
theorem rUntilT {r : Nat} {R : Row} {L : List E} {t : Int} (hr : Rs[r]? = some (some R)) (hR : RowLe R (rowE L)) (hl : L.length ≤ 5864062014700) :
    CallOk Try.prog W B Rs 14 [rsV r, u64V t] (hdE (L.takeWhile (ltP t))) := by
  refine CallOk.enter Try.func14 (by kernel_rfl) rfl [r] [rowE L] [rsV 0, u64V t] rfl (rows1 (.ro_ hr hR rfl rfl (fun _ _ => rfl))) (fun r h => by cases h) rfl rfl ?_
  intro w blk hblk
  refine SG.walk tab_ok mx 400 [] [] ?_
  conv => whnf
  try dsimp only [rowL, rowN, growOk, hiN, fromL, tightN, maxOk]
  try simp (disch := omega) only [wI, wU64, wU32, wU8, Int.toNat_natCast, toNat_succ, toNat_pred, Int.reduceToNat, Option.getD_some, Option.getD_none, Nat.sub_zero, Nat.zero_add]
  refine ⟨?_, ?_⟩
  · trivial
  refine SG.nilRow 5 40 4 rfl ?_
  refine SG.norm ?_
  conv => whnf
  refine SG.loop (fun k : Nat => ⟨puts (List.replicate (Try.f14).ntmps .any) [(0, rsV 0), (1, u64V t), (5, rsV 1), (6, intV k)], [], [some (rowE L), some (newE (L.take k))], []⟩) (fun k => k ≤ L.length ∧ ∀ j, j < k → ltP t (L.getD j e0) = true) (fun k => L.length - k) (0) (⟨Nat.zero_le _, fun j hj => by omega⟩) (fun h => SG.sub [] [0, 1] ⟨?_, ?_, ?_, by decide, rfl, rfl, rfl, ?_⟩ h) ?_
  · repeat' (first | exact trivial | exact rfl | refine And.intro ?_ ?_)
  · repeat' (first | exact trivial | exact rfl | refine And.intro ?_ ?_)
  · repeat' (first | exact trivial | refine ⟨⟨_, rfl, ⟨rfl, rfl, .inl rfl, (fun h => by first | exact h | cases h), (fun h => by first | exact h | cases h), fun _ _ => rfl⟩, fun _ _ => rfl⟩, ?_⟩ | refine ⟨⟨_, rfl, ⟨rfl, rfl, .inr rfl, (fun h => by first | exact h | cases h), (fun h => by first | exact h | cases h), fun _ _ => rfl⟩, fun _ _ => rfl⟩, ?_⟩ | refine ⟨⟨_, rfl, ⟨rfl, rfl, .inr rfl, (fun h => by first | exact h | cases h), (fun h => by first | exact h | cases h), fun i hi => absurd hi (Nat.not_lt_zero i)⟩, fun i hi => absurd hi (Nat.not_lt_zero i)⟩, ?_⟩ | refine ⟨⟨_, rfl, ⟨rfl, rfl, .inl rfl, (fun h => by first | exact h | cases h), (fun h => by first | exact h | cases h), fun i hi => ren_closed (hQc i hi)⟩, fun i hi => inn_closed (hQc i hi)⟩, ?_⟩)
  · repeat' (first | exact trivial | exact rfl | refine And.intro ?_ ?_)
  rintro k ⟨hk, hall⟩ next
  have hln : (L.take k).length = k := by simp; omega
  by_cases hlt : k < L.length
  · by_cases hp : (L.getD k e0).at_ < t
    · have e := take_snoc hlt
      refine SG.walk tab_ok mx 400 [true, true] [] ?_
      conv => whnf
      try dsimp only [rowL, rowN, growOk, hiN, fromL, tightN, maxOk]
      try simp (disch := omega) only [wI, wU64, wU32, wU8, Int.toNat_natCast, toNat_succ, toNat_pred, Int.reduceToNat, Option.getD_some, Option.getD_none, Nat.sub_zero, Nat.zero_add]
      refine ⟨?_, ?_⟩
      · repeat' apply And.intro
        all_goals first
          | trivial
          | rfl
          | omega
          | ((try dsimp only [rowL, rowN]); simp only [beq_iff_eq, beq_eq_false_iff_ne, bne_iff_ne, bne_eq_false_iff_eq, decide_eq_true_eq, decide_eq_false_iff_not, ne_eq, Bool.not_eq_true', Bool.not_eq_false', Bool.not_eq_eq_eq_not, Bool.not_true, Bool.not_false, Option.some.injEq, Option.getD_some, Option.getD_none]; omega)
          | (simp; done)
          | (simp; omega)
      refine SG.sub [] [0, 3] ⟨?_, ?_, ?_, by decide, rfl, rfl, rfl, ?_⟩ (next (k + 1) ⟨hlt, upto_succ hall (by simpa [ltP, - List.getD_eq_getElem?_getD] using hp)⟩ (by omega))
      · repeat' (first | exact trivial | exact rfl | refine And.intro ?_ ?_)
      · repeat' (first | exact trivial | exact rfl | refine And.intro ?_ ?_)
      · first | refine ⟨⟨_, rfl, ⟨rfl, rfl, .inl rfl, (fun h => by first | exact h | cases h), (fun h => by first | exact h | cases h), fun _ _ => rfl⟩, fun _ _ => rfl⟩, ?_⟩ | refine ⟨⟨_, rfl, ⟨rfl, rfl, .inr rfl, (fun h => by first | exact h | cases h), (fun h => by first | exact h | cases h), fun _ _ => rfl⟩, fun _ _ => rfl⟩, ?_⟩ | refine ⟨⟨_, rfl, ⟨rfl, rfl, .inr rfl, (fun h => by first | exact h | cases h), (fun h => by first | exact h | cases h), fun i hi => absurd hi (Nat.not_lt_zero i)⟩, fun i hi => absurd hi (Nat.not_lt_zero i)⟩, ?_⟩ | refine ⟨⟨_, rfl, ⟨rfl, rfl, .inl rfl, (fun h => by first | exact h | cases h), (fun h => by first | exact h | cases h), fun i hi => ren_closed (hQc i hi)⟩, fun i hi => inn_closed (hQc i hi)⟩, ?_⟩
        refine ⟨⟨_, rfl, (RowLe.snoc e rfl (fun i hi => if_pos hi) (by rw [if_neg (Nat.lt_irrefl _), Nat.sub_self]; rfl) (fun _ => rfl)), fun _ _ => rfl⟩, ?_⟩
        exact trivial
      · repeat' (first | exact trivial | exact rfl | refine And.intro ?_ ?_)
    · refine SG.walk tab_ok mx 400 [true, false] [] ?_
      conv => whnf
      try dsimp only [rowL, rowN, growOk, hiN, fromL, tightN, maxOk]
      try simp (disch := omega) only [wI, wU64, wU32, wU8, Int.toNat_natCast, toNat_succ, toNat_pred, Int.reduceToNat, Option.getD_some, Option.getD_none, Nat.sub_zero, Nat.zero_add]
      refine ⟨?_, ?_⟩
      · repeat' apply And.intro
        all_goals first
          | trivial
          | rfl
          | omega
          | ((try dsimp only [rowL, rowN]); simp only [beq_iff_eq, beq_eq_false_iff_ne, bne_iff_ne, bne_eq_false_iff_eq, decide_eq_true_eq, decide_eq_false_iff_not, ne_eq, Bool.not_eq_true', Bool.not_eq_false', Bool.not_eq_eq_eq_not, Bool.not_true, Bool.not_false, Option.some.injEq, Option.getD_some, Option.getD_none]; omega)
          | (simp; done)
          | (simp; omega)
      rw [tw_yes hlt hall (by simpa [ltP, - List.getD_eq_getElem?_getD] using hp)]
      refine SG.ret tab_ok Try.func14 rfl ?_
      intro ρ w' v hm hv
      exact Post.mk hm (rsV 0) [newE (L.take k)] none [1] hv rfl (rows1 (.of rfl rfl rfl rfl rfl (fun i hi => rfl) (fun _ => rfl))) rfl (by simp)
  · refine SG.walk tab_ok mx 400 [false] [] ?_
    conv => whnf
    try dsimp only [rowL, rowN, growOk, hiN, fromL, tightN, maxOk]
    try simp (disch := omega) only [wI, wU64, wU32, wU8, Int.toNat_natCast, toNat_succ, toNat_pred, Int.reduceToNat, Option.getD_some, Option.getD_none, Nat.sub_zero, Nat.zero_add]
    refine ⟨?_, ?_⟩
    · repeat' apply And.intro
      all_goals first
        | trivial
        | rfl
        | omega
        | ((try dsimp only [rowL, rowN]); simp only [beq_iff_eq, beq_eq_false_iff_ne, bne_iff_ne, bne_eq_false_iff_eq, decide_eq_true_eq, decide_eq_false_iff_not, ne_eq, Bool.not_eq_true', Bool.not_eq_false', Bool.not_eq_eq_eq_not, Bool.not_true, Bool.not_false, Option.some.injEq, Option.getD_some, Option.getD_none]; omega)
        | (simp; done)
        | (simp; omega)
    rw [List.take_of_length_le (by omega), tw_all fun j hj => hall j (by omega)]
    refine SG.ret tab_ok Try.func14 rfl ?_
    intro ρ w' v hm hv
    exact Post.mk hm (rsV 0) [newE L] none [1] hv rfl (rows1 (.of rfl rfl rfl rfl rfl (fun i hi => rfl) (fun _ => rfl))) rfl (by simp)
set_option maxRecDepth 100000 in
theorem rRisesT {r : Nat} {R : Row} {L : List E} {b : Bool} (hr : Rs[r]? = some (some R)) (hR : RowLe R (rowE L)) (hl : L.length ≤ 5864062014700) (hb : b = true ↔ Ris L) :
    CallOk Try.prog W B Rs 16 [rsV r] (hdB b) := by
  refine CallOk.enter Try.func16 (by kernel_rfl) rfl [r] [rowE L] [rsV 0] rfl (rows1 (.ro_ hr hR rfl rfl (fun _ _ => rfl))) (fun r h => by cases h) rfl rfl ?_
  intro w blk hblk
  refine SG.walk tab_ok mx 400 [] [] ?_
  conv => whnf
  try dsimp only [rowL, rowN, growOk, hiN, fromL, tightN, maxOk]
  try simp (disch := omega) only [wI, wU64, wU32, wU8, Int.toNat_natCast, toNat_succ, toNat_pred, Int.reduceToNat, Option.getD_some, Option.getD_none, Nat.sub_zero, Nat.zero_add]
  refine ⟨?_, ?_⟩
  · trivial
  refine SG.loop (fun k : Nat => ⟨puts (List.replicate (Try.f16).ntmps .any) [(0, rsV 0), (3, intV k)], [], [some (rowE L)], []⟩) (fun k => k ≤ L.length ∧ ∀ j, j < k → j + 1 < L.length → (L.getD j e0).at_ ≤ (L.getD (j + 1) e0).at_) (fun k => L.length - k) (0) (⟨Nat.zero_le _, fun j hj => by omega⟩) (fun h => SG.sub [] [0] ⟨?_, ?_, ?_, by decide, rfl, rfl, rfl, ?_⟩ h) ?_
  · repeat' (first | exact trivial | exact rfl | refine And.intro ?_ ?_)
  · repeat' (first | exact trivial | exact rfl | refine And.intro ?_ ?_)
  · repeat' (first | exact trivial | refine ⟨⟨_, rfl, ⟨rfl, rfl, .inl rfl, (fun h => by first | exact h | cases h), (fun h => by first | exact h | cases h), fun _ _ => rfl⟩, fun _ _ => rfl⟩, ?_⟩ | refine ⟨⟨_, rfl, ⟨rfl, rfl, .inr rfl, (fun h => by first | exact h | cases h), (fun h => by first | exact h | cases h), fun _ _ => rfl⟩, fun _ _ => rfl⟩, ?_⟩ | refine ⟨⟨_, rfl, ⟨rfl, rfl, .inr rfl, (fun h => by first | exact h | cases h), (fun h => by first | exact h | cases h), fun i hi => absurd hi (Nat.not_lt_zero i)⟩, fun i hi => absurd hi (Nat.not_lt_zero i)⟩, ?_⟩ | refine ⟨⟨_, rfl, ⟨rfl, rfl, .inl rfl, (fun h => by first | exact h | cases h), (fun h => by first | exact h | cases h), fun i hi => ren_closed (hQc i hi)⟩, fun i hi => inn_closed (hQc i hi)⟩, ?_⟩)
  · repeat' (first | exact trivial | exact rfl | refine And.intro ?_ ?_)
  rintro k ⟨hk, hall⟩ next
  by_cases hlt : k + 1 < L.length
  · by_cases hp : (L.getD k e0).at_ > (L.getD (k + 1) e0).at_
    · have : b = false := by
        cases b
        · rfl
        · have := hb.1 rfl k hlt; omega
      subst this
      refine SG.walk tab_ok mx 400 [true, true] [] ?_
      conv => whnf
      try dsimp only [rowL, rowN, growOk, hiN, fromL, tightN, maxOk]
      try simp (disch := omega) only [wI, wU64, wU32, wU8, Int.toNat_natCast, toNat_succ, toNat_pred, Int.reduceToNat, Option.getD_some, Option.getD_none, Nat.sub_zero, Nat.zero_add]
      refine ⟨?_, ?_⟩
      · repeat' apply And.intro
        all_goals first
          | trivial
          | rfl
          | omega
          | ((try dsimp only [rowL, rowN]); simp only [beq_iff_eq, beq_eq_false_iff_ne, bne_iff_ne, bne_eq_false_iff_eq, decide_eq_true_eq, decide_eq_false_iff_not, ne_eq, Bool.not_eq_true', Bool.not_eq_false', Bool.not_eq_eq_eq_not, Bool.not_true, Bool.not_false, Option.some.injEq, Option.getD_some, Option.getD_none]; omega)
          | (simp; done)
          | (simp; omega)
      refine SG.ret tab_ok Try.func16 rfl ?_
      intro ρ w' v hm hv
      exact Post.mk hm (.cv (.one (.lb false))) [] none [] hv rfl rows0 rfl (by simp)
    · refine SG.walk tab_ok mx 400 [true, false] [] ?_
      conv => whnf
      try dsimp only [rowL, rowN, growOk, hiN, fromL, tightN, maxOk]
      try simp (disch := omega) only [wI, wU64, wU32, wU8, Int.toNat_natCast, toNat_succ, toNat_pred, Int.reduceToNat, Option.getD_some, Option.getD_none, Nat.sub_zero, Nat.zero_add]
      refine ⟨?_, ?_⟩
      · repeat' apply And.intro
        all_goals first
          | trivial
          | rfl
          | omega
          | ((try dsimp only [rowL, rowN]); simp only [beq_iff_eq, beq_eq_false_iff_ne, bne_iff_ne, bne_eq_false_iff_eq, decide_eq_true_eq, decide_eq_false_iff_not, ne_eq, Bool.not_eq_true', Bool.not_eq_false', Bool.not_eq_eq_eq_not, Bool.not_true, Bool.not_false, Option.some.injEq, Option.getD_some, Option.getD_none]; omega)
          | (simp; done)
          | (simp; omega)
      refine SG.sub [] [0] ⟨?_, ?_, ?_, by decide, rfl, rfl, rfl, ?_⟩ (next (k + 1) ⟨by omega, upto_succ hall (fun _ => by omega)⟩ (by omega))
      · repeat' (first | exact trivial | exact rfl | refine And.intro ?_ ?_)
      · repeat' (first | exact trivial | exact rfl | refine And.intro ?_ ?_)
      · repeat' (first | exact trivial | refine ⟨⟨_, rfl, ⟨rfl, rfl, .inl rfl, (fun h => by first | exact h | cases h), (fun h => by first | exact h | cases h), fun _ _ => rfl⟩, fun _ _ => rfl⟩, ?_⟩ | refine ⟨⟨_, rfl, ⟨rfl, rfl, .inr rfl, (fun h => by first | exact h | cases h), (fun h => by first | exact h | cases h), fun _ _ => rfl⟩, fun _ _ => rfl⟩, ?_⟩ | refine ⟨⟨_, rfl, ⟨rfl, rfl, .inr rfl, (fun h => by first | exact h | cases h), (fun h => by first | exact h | cases h), fun i hi => absurd hi (Nat.not_lt_zero i)⟩, fun i hi => absurd hi (Nat.not_lt_zero i)⟩, ?_⟩ | refine ⟨⟨_, rfl, ⟨rfl, rfl, .inl rfl, (fun h => by first | exact h | cases h), (fun h => by first | exact h | cases h), fun i hi => ren_closed (hQc i hi)⟩, fun i hi => inn_closed (hQc i hi)⟩, ?_⟩)
      · repeat' (first | exact trivial | exact rfl | refine And.intro ?_ ?_)
  · have : b = true := hb.2 fun j hj => hall j (by omega) hj
    subst this
    refine SG.walk tab_ok mx 400 [false] [] ?_
    conv => whnf
    try dsimp only [rowL, rowN, growOk, hiN, fromL, tightN, maxOk]
    try simp (disch := omega) only [wI, wU64, wU32, wU8, Int.toNat_natCast, toNat_succ, toNat_pred, Int.reduceToNat, Option.getD_some, Option.getD_none, Nat.sub_zero, Nat.zero_add]
    refine ⟨?_, ?_⟩
    · repeat' apply And.intro
      all_goals first
        | trivial
        | rfl
        | omega
        | ((try dsimp only [rowL, rowN]); simp only [beq_iff_eq, beq_eq_false_iff_ne, bne_iff_ne, bne_eq_false_iff_eq, decide_eq_true_eq, decide_eq_false_iff_not, ne_eq, Bool.not_eq_true', Bool.not_eq_false', Bool.not_eq_eq_eq_not, Bool.not_true, Bool.not_false, Option.some.injEq, Option.getD_some, Option.getD_none]; omega)
        | (simp; done)
        | (simp; omega)
    refine SG.ret tab_ok Try.func16 rfl ?_
    intro ρ w' v hm hv
    exact Post.mk hm (.cv (.one (.lb true))) [] none [] hv rfl rows0 rfl (by simp)
set_option maxRecDepth 100000 in
theorem rCountT {r : Nat} {R : Row} {L : List E} {n : Int} (hr : Rs[r]? = some (some R)) (hR : RowLe R (rowE L)) (hl : L.length ≤ 5864062014700) :
    CallOk Try.prog W B Rs 22 [rsV r, u32V n] (hdInt (cntL (asP n) L)) := by
  refine CallOk.enter Try.func22 (by kernel_rfl) rfl [r] [rowE L] [rsV 0, u32V n] rfl (rows1 (.ro_ hr hR rfl rfl (fun _ _ => rfl))) (fun r h => by cases h) rfl rfl ?_
  intro w blk hblk
  refine SG.walk tab_ok mx 400 [] [] ?_
  conv => whnf
  try dsimp only [rowL, rowN, growOk, hiN, fromL, tightN, maxOk]
  try simp (disch := omega) only [wI, wU64, wU32, wU8, Int.toNat_natCast, toNat_succ, toNat_pred, Int.reduceToNat, Option.getD_some, Option.getD_none, Nat.sub_zero, Nat.zero_add]
  refine ⟨?_, ?_⟩
  · trivial
  refine SG.loop (fun k : Nat => ⟨puts (List.replicate (Try.f22).ntmps .any) [(0, rsV 0), (1, u32V n), (5, intV (cntL (asP n) (L.take k))), (6, intV k)], [], [some (rowE L)], []⟩) (fun k => k ≤ L.length) (fun k => L.length - k) (0) (Nat.zero_le _) (fun h => SG.sub [] [0] ⟨?_, ?_, ?_, by decide, rfl, rfl, rfl, ?_⟩ h) ?_
  · repeat' (first | exact trivial | exact rfl | refine And.intro ?_ ?_)
  · repeat' (first | exact trivial | exact rfl | refine And.intro ?_ ?_)
  · repeat' (first | exact trivial | refine ⟨⟨_, rfl, ⟨rfl, rfl, .inl rfl, (fun h => by first | exact h | cases h), (fun h => by first | exact h | cases h), fun _ _ => rfl⟩, fun _ _ => rfl⟩, ?_⟩ | refine ⟨⟨_, rfl, ⟨rfl, rfl, .inr rfl, (fun h => by first | exact h | cases h), (fun h => by first | exact h | cases h), fun _ _ => rfl⟩, fun _ _ => rfl⟩, ?_⟩ | refine ⟨⟨_, rfl, ⟨rfl, rfl, .inr rfl, (fun h => by first | exact h | cases h), (fun h => by first | exact h | cases h), fun i hi => absurd hi (Nat.not_lt_zero i)⟩, fun i hi => absurd hi (Nat.not_lt_zero i)⟩, ?_⟩ | refine ⟨⟨_, rfl, ⟨rfl, rfl, .inl rfl, (fun h => by first | exact h | cases h), (fun h => by first | exact h | cases h), fun i hi => ren_closed (hQc i hi)⟩, fun i hi => inn_closed (hQc i hi)⟩, ?_⟩)
  · repeat' (first | exact trivial | exact rfl | refine And.intro ?_ ?_)
  intro k hk next
  have hln : ((L.take k).filter (asP n)).length ≤ k := Nat.le_trans (List.length_filter_le _ _) (by simp; omega)
  by_cases hlt : k < L.length
  · have nx := next (k + 1) hlt (by omega)
    simp only [cntL] at nx ⊢
    by_cases hp : (L.getD k e0).n = n
    · rw [filt_take_yes (p := asP n) (d := e0) hlt (by simp [asP, hp, - List.getD_eq_getElem?_getD]), List.length_append] at nx
      refine SG.walk tab_ok mx 400 [true, true] [] ?_
      conv => whnf
      try dsimp only [rowL, rowN, growOk, hiN, fromL, tightN, maxOk]
      try simp (disch := omega) only [wI, wU64, wU32, wU8, Int.toNat_natCast, toNat_succ, toNat_pred, Int.reduceToNat, Option.getD_some, Option.getD_none, Nat.sub_zero, Nat.zero_add]
      refine ⟨?_, ?_⟩
      · repeat' apply And.intro
        all_goals first
          | trivial
          | rfl
          | omega
          | ((try dsimp only [rowL, rowN]); simp only [beq_iff_eq, beq_eq_false_iff_ne, bne_iff_ne, bne_eq_false_iff_eq, decide_eq_true_eq, decide_eq_false_iff_not, ne_eq, Bool.not_eq_true', Bool.not_eq_false', Bool.not_eq_eq_eq_not, Bool.not_true, Bool.not_false, Option.some.injEq, Option.getD_some, Option.getD_none]; omega)
          | (simp; done)
          | (simp; omega)
      refine SG.sub [] [0] ⟨?_, ?_, ?_, by decide, rfl, rfl, rfl, ?_⟩ nx
      · repeat' (first | exact trivial | exact rfl | refine And.intro ?_ ?_)
      · repeat' (first | exact trivial | exact rfl | refine And.intro ?_ ?_)
      · repeat' (first | exact trivial | refine ⟨⟨_, rfl, ⟨rfl, rfl, .inl rfl, (fun h => by first | exact h | cases h), (fun h => by first | exact h | cases h), fun _ _ => rfl⟩, fun _ _ => rfl⟩, ?_⟩ | refine ⟨⟨_, rfl, ⟨rfl, rfl, .inr rfl, (fun h => by first | exact h | cases h), (fun h => by first | exact h | cases h), fun _ _ => rfl⟩, fun _ _ => rfl⟩, ?_⟩ | refine ⟨⟨_, rfl, ⟨rfl, rfl, .inr rfl, (fun h => by first | exact h | cases h), (fun h => by first | exact h | cases h), fun i hi => absurd hi (Nat.not_lt_zero i)⟩, fun i hi => absurd hi (Nat.not_lt_zero i)⟩, ?_⟩ | refine ⟨⟨_, rfl, ⟨rfl, rfl, .inl rfl, (fun h => by first | exact h | cases h), (fun h => by first | exact h | cases h), fun i hi => ren_closed (hQc i hi)⟩, fun i hi => inn_closed (hQc i hi)⟩, ?_⟩)
      · repeat' (first | exact trivial | exact rfl | refine And.intro ?_ ?_)
    · rw [filt_take_no (p := asP n) (d := e0) hlt (by simp [asP, hp, - List.getD_eq_getElem?_getD])] at nx
      refine SG.walk tab_ok mx 400 [true, false] [] ?_
      conv => whnf
      try dsimp only [rowL, rowN, growOk, hiN, fromL, tightN, maxOk]
      try simp (disch := omega) only [wI, wU64, wU32, wU8, Int.toNat_natCast, toNat_succ, toNat_pred, Int.reduceToNat, Option.getD_some, Option.getD_none, Nat.sub_zero, Nat.zero_add]
      refine ⟨?_, ?_⟩
      · repeat' apply And.intro
        all_goals first
          | trivial
          | rfl
          | omega
          | ((try dsimp only [rowL, rowN]); simp only [beq_iff_eq, beq_eq_false_iff_ne, bne_iff_ne, bne_eq_false_iff_eq, decide_eq_true_eq, decide_eq_false_iff_not, ne_eq, Bool.not_eq_true', Bool.not_eq_false', Bool.not_eq_eq_eq_not, Bool.not_true, Bool.not_false, Option.some.injEq, Option.getD_some, Option.getD_none]; omega)
          | (simp; done)
          | (simp; omega)
      refine SG.sub [] [0] ⟨?_, ?_, ?_, by decide, rfl, rfl, rfl, ?_⟩ nx
      · repeat' (first | exact trivial | exact rfl | refine And.intro ?_ ?_)
      · repeat' (first | exact trivial | exact rfl | refine And.intro ?_ ?_)
      · repeat' (first | exact trivial | refine ⟨⟨_, rfl, ⟨rfl, rfl, .inl rfl, (fun h => by first | exact h | cases h), (fun h => by first | exact h | cases h), fun _ _ => rfl⟩, fun _ _ => rfl⟩, ?_⟩ | refine ⟨⟨_, rfl, ⟨rfl, rfl, .inr rfl, (fun h => by first | exact h | cases h), (fun h => by first | exact h | cases h), fun _ _ => rfl⟩, fun _ _ => rfl⟩, ?_⟩ | refine ⟨⟨_, rfl, ⟨rfl, rfl, .inr rfl, (fun h => by first | exact h | cases h), (fun h => by first | exact h | cases h), fun i hi => absurd hi (Nat.not_lt_zero i)⟩, fun i hi => absurd hi (Nat.not_lt_zero i)⟩, ?_⟩ | refine ⟨⟨_, rfl, ⟨rfl, rfl, .inl rfl, (fun h => by first | exact h | cases h), (fun h => by first | exact h | cases h), fun i hi => ren_closed (hQc i hi)⟩, fun i hi => inn_closed (hQc i hi)⟩, ?_⟩)
      · repeat' (first | exact trivial | exact rfl | refine And.intro ?_ ?_)
  · refine SG.walk tab_ok mx 400 [false] [] ?_
    conv => whnf
    try dsimp only [rowL, rowN, growOk, hiN, fromL, tightN, maxOk]
    try simp (disch := omega) only [wI, wU64, wU32, wU8, Int.toNat_natCast, toNat_succ, toNat_pred, Int.reduceToNat, Option.getD_some, Option.getD_none, Nat.sub_zero, Nat.zero_add]
    refine ⟨?_, ?_⟩
    · repeat' apply And.intro
      all_goals first
        | trivial
        | rfl
        | omega
        | ((try dsimp only [rowL, rowN]); simp only [beq_iff_eq, beq_eq_false_iff_ne, bne_iff_ne, bne_eq_false_iff_eq, decide_eq_true_eq, decide_eq_false_iff_not, ne_eq, Bool.not_eq_true', Bool.not_eq_false', Bool.not_eq_eq_eq_not, Bool.not_true, Bool.not_false, Option.some.injEq, Option.getD_some, Option.getD_none]; omega)
        | (simp; done)
        | (simp; omega)
    rw [List.take_of_length_le (by omega)]
    refine SG.ret tab_ok Try.func22 rfl ?_
    intro ρ w' v hm hv
    exact Post.mk hm (intV (cntL (asP n) L)) [] none [] hv rfl rows0 rfl (by simp)
theorem fail_at {v e : Int} (h0 : 0 ≤ v) (h1 : v ≤ 4294967295) (he : 1 ≤ e) (he2 : e ≤ 14) (h : IntKind.u32.wrap (0 - e) = v) : failB v = true := by
  simp only [failB, IntKind.wrap_u32, Bool.and_eq_true, decide_eq_true_eq] at *
  omega
theorem fail_no {v : Int} (h0 : 0 ≤ v) (h1 : v ≤ 4294967295) (h : ∀ e : Nat, e < 15 → 1 ≤ e → IntKind.u32.wrap (0 - (e : Int)) ≠ v) : failB v = false := by
  cases hb : failB v with
  | false => rfl
  | true =>
    exfalso
    simp only [failB, IntKind.wrap_u32, Bool.and_eq_true, decide_eq_true_eq] at hb
    have := h (4294967296 - v).toNat (by omega) (by omega)
    rw [IntKind.wrap_u32] at this
    omega
set_option maxRecDepth 100000 in
theorem rFailT {v : Int} (h0 : 0 ≤ v) (h1 : v ≤ 4294967295) {x : Int} (hx : failB v = false → x = 0) (hx2 : failB v = true → x = IntKind.u32.wrap (0 - v)) : CallOk Try.prog W B Rs 29 [u32V v] (mkHd (.tup [.one (.v (.int .i64 x)), .one (.lb (failB v))]) []) := by
  refine CallOk.enter Try.func29 (by kernel_rfl) rfl [] [] [u32V v] rfl rows0 (fun r h => by cases h) rfl rfl ?_
  intro w blk hblk
  refine SG.walk tab_ok mx 400 [] [] ?_
  conv => whnf
  try dsimp only [rowL, rowN, growOk, hiN, fromL, tightN, maxOk]
  try simp (disch := omega) only [wI, wU64, wU32, wU8, Int.toNat_natCast, toNat_succ, toNat_pred, Int.reduceToNat, Option.getD_some, Option.getD_none, Nat.sub_zero, Nat.zero_add]
  refine ⟨?_, ?_⟩
  · trivial
  refine SG.loop (fun k : Nat => ⟨puts (List.replicate (Try.f29).ntmps .any) [(0, u32V v), (4, u32V k)], [], [], []⟩) (fun k => 1 ≤ k ∧ k ≤ 15 ∧ ∀ j : Nat, j < k → 1 ≤ j → IntKind.u32.wrap (0 - (j : Int)) ≠ v) (fun k => 15 - k) (1) (⟨Nat.le_refl _, by decide, fun j hj hj2 => by omega⟩) (fun h => SG.sub [] [] ⟨?_, ?_, ?_, by decide, rfl, rfl, rfl, ?_⟩ h) ?_
  · repeat' (first | exact trivial | exact rfl | refine And.intro ?_ ?_)
  · repeat' (first | exact trivial | exact rfl | refine And.intro ?_ ?_)
  · repeat' (first | exact trivial | refine ⟨⟨_, rfl, ⟨rfl, rfl, .inl rfl, (fun h => by first | exact h | cases h), (fun h => by first | exact h | cases h), fun _ _ => rfl⟩, fun _ _ => rfl⟩, ?_⟩ | refine ⟨⟨_, rfl, ⟨rfl, rfl, .inr rfl, (fun h => by first | exact h | cases h), (fun h => by first | exact h | cases h), fun _ _ => rfl⟩, fun _ _ => rfl⟩, ?_⟩ | refine ⟨⟨_, rfl, ⟨rfl, rfl, .inr rfl, (fun h => by first | exact h | cases h), (fun h => by first | exact h | cases h), fun i hi => absurd hi (Nat.not_lt_zero i)⟩, fun i hi => absurd hi (Nat.not_lt_zero i)⟩, ?_⟩ | refine ⟨⟨_, rfl, ⟨rfl, rfl, .inl rfl, (fun h => by first | exact h | cases h), (fun h => by first | exact h | cases h), fun i hi => ren_closed (hQc i hi)⟩, fun i hi => inn_closed (hQc i hi)⟩, ?_⟩)
  · repeat' (first | exact trivial | exact rfl | refine And.intro ?_ ?_)
  rintro k ⟨hk1, hk, hall⟩ next
  by_cases hlt : k ≤ 14
  · by_cases hp : IntKind.u32.wrap (0 - (k : Int)) = v
    · have hf := fail_at h0 h1 (e := k) (by omega) (by omega) hp
      have hxe := hx2 hf
      have hxk : x = k := by
        rw [hxe, ← hp]
        simp only [IntKind.wrap_u32]
        omega
      rw [hf, hxk]
      refine SG.walk tab_ok mx 400 [true, true] [] ?_
      conv => whnf
      try dsimp only [rowL, rowN, growOk, hiN, fromL, tightN, maxOk]
      try simp (disch := omega) only [wI, wU64, wU32, wU8, Int.toNat_natCast, toNat_succ, toNat_pred, Int.reduceToNat, Option.getD_some, Option.getD_none, Nat.sub_zero, Nat.zero_add]
      refine ⟨?_, ?_⟩
      · repeat' apply And.intro
        all_goals first
          | exact hp
          | exact beq_iff_eq.2 hp
          | trivial
          | rfl
          | omega
          | ((try dsimp only [rowL, rowN]); simp only [beq_iff_eq, beq_eq_false_iff_ne, bne_iff_ne, bne_eq_false_iff_eq, decide_eq_true_eq, decide_eq_false_iff_not, ne_eq, Bool.not_eq_true', Bool.not_eq_false', Bool.not_eq_eq_eq_not, Bool.not_true, Bool.not_false, Option.some.injEq, Option.getD_some, Option.getD_none]; omega)
          | (simp; done)
          | (simp; omega)
      refine SG.ret tab_ok Try.func29 rfl ?_
      intro ρ w' v hm hv
      exact Post.mk hm (.tup [.one (.v (.int .i64 k)), .one (.lb true)]) [] none [] hv rfl rows0 rfl (by simp)
    · refine SG.walk tab_ok mx 400 [true, false] [] ?_
      conv => whnf
      try dsimp only [rowL, rowN, growOk, hiN, fromL, tightN, maxOk]
      try simp (disch := omega) only [wI, wU64, wU32, wU8, Int.toNat_natCast, toNat_succ, toNat_pred, Int.reduceToNat, Option.getD_some, Option.getD_none, Nat.sub_zero, Nat.zero_add]
      refine ⟨?_, ?_⟩
      · repeat' apply And.intro
        all_goals first
          | exact beq_eq_false_iff_ne.2 hp
          | trivial
          | rfl
          | omega
          | ((try dsimp only [rowL, rowN]); simp only [beq_iff_eq, beq_eq_false_iff_ne, bne_iff_ne, bne_eq_false_iff_eq, decide_eq_true_eq, decide_eq_false_iff_not, ne_eq, Bool.not_eq_true', Bool.not_eq_false', Bool.not_eq_eq_eq_not, Bool.not_true, Bool.not_false, Option.some.injEq, Option.getD_some, Option.getD_none]; omega)
          | (simp; done)
          | (simp; omega)
      refine SG.sub [] [] ⟨?_, ?_, ?_, by decide, rfl, rfl, rfl, ?_⟩ (next (k + 1) ⟨by omega, by omega, upto_succ (A := fun j => 1 ≤ j → IntKind.u32.wrap (0 - (j : Int)) ≠ v) hall (fun _ => hp)⟩ (by omega))
      · repeat' (first | exact trivial | exact rfl | refine And.intro ?_ ?_)
      · repeat' (first | exact trivial | exact rfl | refine And.intro ?_ ?_)
      · repeat' (first | exact trivial | refine ⟨⟨_, rfl, ⟨rfl, rfl, .inl rfl, (fun h => by first | exact h | cases h), (fun h => by first | exact h | cases h), fun _ _ => rfl⟩, fun _ _ => rfl⟩, ?_⟩ | refine ⟨⟨_, rfl, ⟨rfl, rfl, .inr rfl, (fun h => by first | exact h | cases h), (fun h => by first | exact h | cases h), fun _ _ => rfl⟩, fun _ _ => rfl⟩, ?_⟩ | refine ⟨⟨_, rfl, ⟨rfl, rfl, .inr rfl, (fun h => by first | exact h | cases h), (fun h => by first | exact h | cases h), fun i hi => absurd hi (Nat.not_lt_zero i)⟩, fun i hi => absurd hi (Nat.not_lt_zero i)⟩, ?_⟩ | refine ⟨⟨_, rfl, ⟨rfl, rfl, .inl rfl, (fun h => by first | exact h | cases h), (fun h => by first | exact h | cases h), fun i hi => ren_closed (hQc i hi)⟩, fun i hi => inn_closed (hQc i hi)⟩, ?_⟩)
      · repeat' (first | exact trivial | exact rfl | refine And.intro ?_ ?_)
  · have hf : failB v = false := fail_no h0 h1 fun j hj hj1 => hall j (by omega) hj1
    rw [hf, hx hf]
    refine SG.walk tab_ok mx 400 [false] [] ?_
    conv => whnf
    try dsimp only [rowL, rowN, growOk, hiN, fromL, tightN, maxOk]
    try simp (disch := omega) only [wI, wU64, wU32, wU8, Int.toNat_natCast, toNat_succ, toNat_pred, Int.reduceToNat, Option.getD_some, Option.getD_none, Nat.sub_zero, Nat.zero_add]
    refine ⟨?_, ?_⟩
    · repeat' apply And.intro
      all_goals first
        | trivial
        | rfl
        | omega
        | ((try dsimp only [rowL, rowN]); simp only [beq_iff_eq, beq_eq_false_iff_ne, bne_iff_ne, bne_eq_false_iff_eq, decide_eq_true_eq, decide_eq_false_iff_not, ne_eq, Bool.not_eq_true', Bool.not_eq_false', Bool.not_eq_eq_eq_not, Bool.not_true, Bool.not_false, Option.some.injEq, Option.getD_some, Option.getD_none]; omega)
        | (simp; done)
        | (simp; omega)
    refine SG.ret tab_ok Try.func29 rfl ?_
    intro ρ w' v hm hv
    exact Post.mk hm (.tup [.one (.v (.int .i64 0)), .one (.lb false)]) [] none [] hv rfl rows0 rfl (by simp)
set_option maxRecDepth 100000 in
theorem rErrorsT {r : Nat} {R : Row} {L : List E} (hr : Rs[r]? = some (some R)) (hR : RowLe R (rowE L)) (hl : L.length ≤ 5864062014700) (h0 : ∀ x ∈ L, 0 ≤ x.r ∧ x.r ≤ 4294967295) :
    CallOk Try.prog W B Rs 18 [rsV r] (hdInt (cntL failP L)) := by
  refine CallOk.enter Try.func18 (by kernel_rfl) rfl [r] [rowE L] [rsV 0] rfl (rows1 (.ro_ hr hR rfl rfl (fun _ _ => rfl))) (fun r h => by cases h) rfl rfl ?_
  intro w blk hblk
  refine SG.walk tab_ok mx 400 [] [] ?_
  conv => whnf
  try dsimp only [rowL, rowN, growOk, hiN, fromL, tightN, maxOk]
  try simp (disch := omega) only [wI, wU64, wU32, wU8, Int.toNat_natCast, toNat_succ, toNat_pred, Int.reduceToNat, Option.getD_some, Option.getD_none, Nat.sub_zero, Nat.zero_add]
  refine ⟨?_, ?_⟩
  · trivial
  refine SG.loop (fun k : Nat => ⟨puts (List.replicate (Try.f18).ntmps .any) [(0, rsV 0), (3, intV (cntL failP (L.take k))), (4, intV k)], [], [some (rowE L)], []⟩) (fun k => k ≤ L.length) (fun k => L.length - k) (0) (Nat.zero_le _) (fun h => SG.sub [] [0] ⟨?_, ?_, ?_, by decide, rfl, rfl, rfl, ?_⟩ h) ?_
  · repeat' (first | exact trivial | exact rfl | refine And.intro ?_ ?_)
  · repeat' (first | exact trivial | exact rfl | refine And.intro ?_ ?_)
  · repeat' (first | exact trivial | refine ⟨⟨_, rfl, ⟨rfl, rfl, .inl rfl, (fun h => by first | exact h | cases h), (fun h => by first | exact h | cases h), fun _ _ => rfl⟩, fun _ _ => rfl⟩, ?_⟩ | refine ⟨⟨_, rfl, ⟨rfl, rfl, .inr rfl, (fun h => by first | exact h | cases h), (fun h => by first | exact h | cases h), fun _ _ => rfl⟩, fun _ _ => rfl⟩, ?_⟩ | refine ⟨⟨_, rfl, ⟨rfl, rfl, .inr rfl, (fun h => by first | exact h | cases h), (fun h => by first | exact h | cases h), fun i hi => absurd hi (Nat.not_lt_zero i)⟩, fun i hi => absurd hi (Nat.not_lt_zero i)⟩, ?_⟩ | refine ⟨⟨_, rfl, ⟨rfl, rfl, .inl rfl, (fun h => by first | exact h | cases h), (fun h => by first | exact h | cases h), fun i hi => ren_closed (hQc i hi)⟩, fun i hi => inn_closed (hQc i hi)⟩, ?_⟩)
  · repeat' (first | exact trivial | exact rfl | refine And.intro ?_ ?_)
  intro k hk next
  have hln : ((L.take k).filter failP).length ≤ k := Nat.le_trans (List.length_filter_le _ _) (by simp; omega)
  by_cases hlt : k < L.length
  · have nx := next (k + 1) hlt (by omega)
    obtain ⟨b0, b1⟩ := h0 (L.getD k e0) (by rw [getD_mem hlt]; exact List.getElem_mem hlt)
    simp only [cntL] at nx ⊢
    cases hp : failP (L.getD k e0) with
    | true =>
      rw [filt_take_yes (p := failP) (d := e0) hlt hp, List.length_append] at nx
      refine SG.walk tab_ok mx 400 [true] [mkHd (.tup [.one (.v (.int .i64 (IntKind.u32.wrap (0 - (L.getD k e0).r)))), .one (.lb true)]) []] ?_
      conv => whnf
      try dsimp only [rowL, rowN, growOk, hiN, fromL, tightN, maxOk]
      try simp (disch := omega) only [wI, wU64, wU32, wU8, Int.toNat_natCast, toNat_succ, toNat_pred, Int.reduceToNat, Option.getD_some, Option.getD_none, Nat.sub_zero, Nat.zero_add]
      refine ⟨?_, ?_⟩
      · repeat' apply And.intro
        all_goals first
          | exact (show failB (L.getD k e0).r = true from hp) ▸ rFailT b0 b1 (fun h => by rw [show failB (L.getD k e0).r = true from hp] at h; cases h) (fun _ => rfl)
          | trivial
          | rfl
          | omega
          | ((try dsimp only [rowL, rowN]); simp only [beq_iff_eq, beq_eq_false_iff_ne, bne_iff_ne, bne_eq_false_iff_eq, decide_eq_true_eq, decide_eq_false_iff_not, ne_eq, Bool.not_eq_true', Bool.not_eq_false', Bool.not_eq_eq_eq_not, Bool.not_true, Bool.not_false, Option.some.injEq, Option.getD_some, Option.getD_none]; omega)
          | (simp; done)
          | (simp; omega)
      refine SG.sub [] [0] ⟨?_, ?_, ?_, by decide, rfl, rfl, rfl, ?_⟩ nx
      · repeat' (first | exact trivial | exact rfl | refine And.intro ?_ ?_)
      · repeat' (first | exact trivial | exact rfl | refine And.intro ?_ ?_)
      · repeat' (first | exact trivial | refine ⟨⟨_, rfl, ⟨rfl, rfl, .inl rfl, (fun h => by first | exact h | cases h), (fun h => by first | exact h | cases h), fun _ _ => rfl⟩, fun _ _ => rfl⟩, ?_⟩ | refine ⟨⟨_, rfl, ⟨rfl, rfl, .inr rfl, (fun h => by first | exact h | cases h), (fun h => by first | exact h | cases h), fun _ _ => rfl⟩, fun _ _ => rfl⟩, ?_⟩ | refine ⟨⟨_, rfl, ⟨rfl, rfl, .inr rfl, (fun h => by first | exact h | cases h), (fun h => by first | exact h | cases h), fun i hi => absurd hi (Nat.not_lt_zero i)⟩, fun i hi => absurd hi (Nat.not_lt_zero i)⟩, ?_⟩ | refine ⟨⟨_, rfl, ⟨rfl, rfl, .inl rfl, (fun h => by first | exact h | cases h), (fun h => by first | exact h | cases h), fun i hi => ren_closed (hQc i hi)⟩, fun i hi => inn_closed (hQc i hi)⟩, ?_⟩)
      · repeat' (first | exact trivial | exact rfl | refine And.intro ?_ ?_)
    | false =>
      rw [filt_take_no (p := failP) (d := e0) hlt hp] at nx
      refine SG.walk tab_ok mx 400 [true] [mkHd (.tup [.one (.v (.int .i64 0)), .one (.lb false)]) []] ?_
      conv => whnf
      try dsimp only [rowL, rowN, growOk, hiN, fromL, tightN, maxOk]
      try simp (disch := omega) only [wI, wU64, wU32, wU8, Int.toNat_natCast, toNat_succ, toNat_pred, Int.reduceToNat, Option.getD_some, Option.getD_none, Nat.sub_zero, Nat.zero_add]
      refine ⟨?_, ?_⟩
      · repeat' apply And.intro
        all_goals first
          | exact (show failB (L.getD k e0).r = false from hp) ▸ rFailT b0 b1 (fun _ => rfl) (fun h => by rw [show failB (L.getD k e0).r = false from hp] at h; cases h)
          | trivial
          | rfl
          | omega
          | ((try dsimp only [rowL, rowN]); simp only [beq_iff_eq, beq_eq_false_iff_ne, bne_iff_ne, bne_eq_false_iff_eq, decide_eq_true_eq, decide_eq_false_iff_not, ne_eq, Bool.not_eq_true', Bool.not_eq_false', Bool.not_eq_eq_eq_not, Bool.not_true, Bool.not_false, Option.some.injEq, Option.getD_some, Option.getD_none]; omega)
          | (simp; done)
          | (simp; omega)
      refine SG.sub [] [0] ⟨?_, ?_, ?_, by decide, rfl, rfl, rfl, ?_⟩ nx
      · repeat' (first | exact trivial | exact rfl | refine And.intro ?_ ?_)
      · repeat' (first | exact trivial | exact rfl | refine And.intro ?_ ?_)
      · repeat' (first | exact trivial | refine ⟨⟨_, rfl, ⟨rfl, rfl, .inl rfl, (fun h => by first | exact h | cases h), (fun h => by first | exact h | cases h), fun _ _ => rfl⟩, fun _ _ => rfl⟩, ?_⟩ | refine ⟨⟨_, rfl, ⟨rfl, rfl, .inr rfl, (fun h => by first | exact h | cases h), (fun h => by first | exact h | cases h), fun _ _ => rfl⟩, fun _ _ => rfl⟩, ?_⟩ | refine ⟨⟨_, rfl, ⟨rfl, rfl, .inr rfl, (fun h => by first | exact h | cases h), (fun h => by first | exact h | cases h), fun i hi => absurd hi (Nat.not_lt_zero i)⟩, fun i hi => absurd hi (Nat.not_lt_zero i)⟩, ?_⟩ | refine ⟨⟨_, rfl, ⟨rfl, rfl, .inl rfl, (fun h => by first | exact h | cases h), (fun h => by first | exact h | cases h), fun i hi => ren_closed (hQc i hi)⟩, fun i hi => inn_closed (hQc i hi)⟩, ?_⟩)
      · repeat' (first | exact trivial | exact rfl | refine And.intro ?_ ?_)
  · refine SG.walk tab_ok mx 400 [false] [] ?_
    conv => whnf
    try dsimp only [rowL, rowN, growOk, hiN, fromL, tightN, maxOk]
    try simp (disch := omega) only [wI, wU64, wU32, wU8, Int.toNat_natCast, toNat_succ, toNat_pred, Int.reduceToNat, Option.getD_some, Option.getD_none, Nat.sub_zero, Nat.zero_add]
    refine ⟨?_, ?_⟩
    · repeat' apply And.intro
      all_goals first
        | trivial
        | rfl
        | omega
        | ((try dsimp only [rowL, rowN]); simp only [beq_iff_eq, beq_eq_false_iff_ne, bne_iff_ne, bne_eq_false_iff_eq, decide_eq_true_eq, decide_eq_false_iff_not, ne_eq, Bool.not_eq_true', Bool.not_eq_false', Bool.not_eq_eq_eq_not, Bool.not_true, Bool.not_false, Option.some.injEq, Option.getD_some, Option.getD_none]; omega)
        | (simp; done)
        | (simp; omega)
    rw [List.take_of_length_le (by omega)]
    refine SG.ret tab_ok Try.func18 rfl ?_
    intro ρ w' v hm hv
    exact Post.mk hm (intV (cntL failP L)) [] none [] hv rfl rows0 rfl (by simp)
set_option maxRecDepth 100000 in
theorem rGapT {r : Nat} {R : Row} {L : List E} {n : Int} (hr : Rs[r]? = some (some R)) (hR : RowLe R (rowE L)) (hl : L.length ≤ 5864062014700) :
    CallOk Try.prog W B Rs 20 [rsV r, intV n] (hdU (gs n L L.length).1) := by
  refine CallOk.enter Try.func20 (by kernel_rfl) rfl [r] [rowE L] [rsV 0, intV n] rfl (rows1 (.ro_ hr hR rfl rfl (fun _ _ => rfl))) (fun r h => by cases h) rfl rfl ?_
  intro w blk hblk
  refine SG.walk tab_ok mx 400 [] [] ?_
  conv => whnf
  try dsimp only [rowL, rowN, growOk, hiN, fromL, tightN, maxOk]
  try simp (disch := omega) only [wI, wU64, wU32, wU8, Int.toNat_natCast, toNat_succ, toNat_pred, Int.reduceToNat, Option.getD_some, Option.getD_none, Nat.sub_zero, Nat.zero_add]
  refine ⟨?_, ?_⟩
  · trivial
  refine SG.loop (fun k : Nat => ⟨puts (List.replicate (Try.f20).ntmps .any) [(0, rsV 0), (1, intV n), (5, u64V (gs n L k).1), (6, u64V (gs n L k).2.1), (7, .cv (.one (.lb (!(gs n L k).2.2)))), (8, intV k)], [], [some (rowE L)], []⟩) (fun k => k ≤ L.length) (fun k => L.length - k) (0) (Nat.zero_le _) (fun h => SG.sub [] [0] ⟨?_, ?_, ?_, by decide, rfl, rfl, rfl, ?_⟩ h) ?_
  · repeat' (first | exact trivial | exact rfl | refine And.intro ?_ ?_)
  · repeat' (first | exact trivial | exact rfl | refine And.intro ?_ ?_)
  · repeat' (first | exact trivial | refine ⟨⟨_, rfl, ⟨rfl, rfl, .inl rfl, (fun h => by first | exact h | cases h), (fun h => by first | exact h | cases h), fun _ _ => rfl⟩, fun _ _ => rfl⟩, ?_⟩ | refine ⟨⟨_, rfl, ⟨rfl, rfl, .inr rfl, (fun h => by first | exact h | cases h), (fun h => by first | exact h | cases h), fun _ _ => rfl⟩, fun _ _ => rfl⟩, ?_⟩ | refine ⟨⟨_, rfl, ⟨rfl, rfl, .inr rfl, (fun h => by first | exact h | cases h), (fun h => by first | exact h | cases h), fun i hi => absurd hi (Nat.not_lt_zero i)⟩, fun i hi => absurd hi (Nat.not_lt_zero i)⟩, ?_⟩ | refine ⟨⟨_, rfl, ⟨rfl, rfl, .inl rfl, (fun h => by first | exact h | cases h), (fun h => by first | exact h | cases h), fun i hi => ren_closed (hQc i hi)⟩, fun i hi => inn_closed (hQc i hi)⟩, ?_⟩)
  · repeat' (first | exact trivial | exact rfl | refine And.intro ?_ ?_)
  intro k hk next
  by_cases hlt : k < L.length
  · have nx := next (k + 1) hlt (by omega)
    by_cases hp : (L.getD k e0).pid = n
    · simp only [gs, if_pos hp] at nx
      obtain ⟨⟨g, l, f⟩, hg⟩ : ∃ x, gs n L k = x := ⟨_, rfl⟩
      rw [hg] at nx ⊢
      dsimp only at nx ⊢
      cases f with
      | true =>
        rw [if_pos rfl] at nx
        refine SG.walk tab_ok mx 400 [true, false] [] ?_
        conv => whnf
        try dsimp only [rowL, rowN, growOk, hiN, fromL, tightN, maxOk]
        try simp (disch := omega) only [wI, wU64, wU32, wU8, Int.toNat_natCast, toNat_succ, toNat_pred, Int.reduceToNat, Option.getD_some, Option.getD_none, Nat.sub_zero, Nat.zero_add]
        refine ⟨?_, ?_⟩
        · repeat' apply And.intro
          all_goals first
            | exact bne_eq_false_iff_eq.2 hp
            | trivial
            | rfl
            | omega
            | ((try dsimp only [rowL, rowN]); simp only [beq_iff_eq, beq_eq_false_iff_ne, bne_iff_ne, bne_eq_false_iff_eq, decide_eq_true_eq, decide_eq_false_iff_not, ne_eq, Bool.not_eq_true', Bool.not_eq_false', Bool.not_eq_eq_eq_not, Bool.not_true, Bool.not_false, Option.some.injEq, Option.getD_some, Option.getD_none]; omega)
            | (simp; done)
            | (simp; omega)
        refine SG.sub [] [0] ⟨?_, ?_, ?_, by decide, rfl, rfl, rfl, ?_⟩ nx
        · repeat' (first | exact trivial | exact rfl | refine And.intro ?_ ?_)
        · repeat' (first | exact trivial | exact rfl | refine And.intro ?_ ?_)
        · repeat' (first | exact trivial | refine ⟨⟨_, rfl, ⟨rfl, rfl, .inl rfl, (fun h => by first | exact h | cases h), (fun h => by first | exact h | cases h), fun _ _ => rfl⟩, fun _ _ => rfl⟩, ?_⟩ | refine ⟨⟨_, rfl, ⟨rfl, rfl, .inr rfl, (fun h => by first | exact h | cases h), (fun h => by first | exact h | cases h), fun _ _ => rfl⟩, fun _ _ => rfl⟩, ?_⟩ | refine ⟨⟨_, rfl, ⟨rfl, rfl, .inr rfl, (fun h => by first | exact h | cases h), (fun h => by first | exact h | cases h), fun i hi => absurd hi (Nat.not_lt_zero i)⟩, fun i hi => absurd hi (Nat.not_lt_zero i)⟩, ?_⟩ | refine ⟨⟨_, rfl, ⟨rfl, rfl, .inl rfl, (fun h => by first | exact h | cases h), (fun h => by first | exact h | cases h), fun i hi => ren_closed (hQc i hi)⟩, fun i hi => inn_closed (hQc i hi)⟩, ?_⟩)
        · repeat' (first | exact trivial | exact rfl | refine And.intro ?_ ?_)
      | false =>
        rw [if_neg (by decide)] at nx
        by_cases hd : IntKind.u64.wrap ((L.getD k e0).at_ - l) > g
        · rw [if_pos hd] at nx
          refine SG.walk tab_ok mx 400 [true, false, true] [] ?_
          conv => whnf
          try dsimp only [rowL, rowN, growOk, hiN, fromL, tightN, maxOk]
          try simp (disch := omega) only [wI, wU64, wU32, wU8, Int.toNat_natCast, toNat_succ, toNat_pred, Int.reduceToNat, Option.getD_some, Option.getD_none, Nat.sub_zero, Nat.zero_add]
          refine ⟨?_, ?_⟩
          · repeat' apply And.intro
            all_goals first
              | exact bne_eq_false_iff_eq.2 hp
              | exact decide_eq_true hd
              | trivial
              | rfl
              | omega
              | ((try dsimp only [rowL, rowN]); simp only [beq_iff_eq, beq_eq_false_iff_ne, bne_iff_ne, bne_eq_false_iff_eq, decide_eq_true_eq, decide_eq_false_iff_not, ne_eq, Bool.not_eq_true', Bool.not_eq_false', Bool.not_eq_eq_eq_not, Bool.not_true, Bool.not_false, Option.some.injEq, Option.getD_some, Option.getD_none]; omega)
              | (simp; done)
              | (simp; omega)
          refine SG.sub [] [0] ⟨?_, ?_, ?_, by decide, rfl, rfl, rfl, ?_⟩ nx
          · repeat' (first | exact trivial | exact rfl | refine And.intro ?_ ?_)
          · repeat' (first | exact trivial | exact rfl | refine And.intro ?_ ?_)
          · repeat' (first | exact trivial | refine ⟨⟨_, rfl, ⟨rfl, rfl, .inl rfl, (fun h => by first | exact h | cases h), (fun h => by first | exact h | cases h), fun _ _ => rfl⟩, fun _ _ => rfl⟩, ?_⟩ | refine ⟨⟨_, rfl, ⟨rfl, rfl, .inr rfl, (fun h => by first | exact h | cases h), (fun h => by first | exact h | cases h), fun _ _ => rfl⟩, fun _ _ => rfl⟩, ?_⟩ | refine ⟨⟨_, rfl, ⟨rfl, rfl, .inr rfl, (fun h => by first | exact h | cases h), (fun h => by first | exact h | cases h), fun i hi => absurd hi (Nat.not_lt_zero i)⟩, fun i hi => absurd hi (Nat.not_lt_zero i)⟩, ?_⟩ | refine ⟨⟨_, rfl, ⟨rfl, rfl, .inl rfl, (fun h => by first | exact h | cases h), (fun h => by first | exact h | cases h), fun i hi => ren_closed (hQc i hi)⟩, fun i hi => inn_closed (hQc i hi)⟩, ?_⟩)
          · repeat' (first | exact trivial | exact rfl | refine And.intro ?_ ?_)
        · rw [if_neg hd] at nx
          refine SG.walk tab_ok mx 400 [true, false, false] [] ?_
          conv => whnf
          try dsimp only [rowL, rowN, growOk, hiN, fromL, tightN, maxOk]
          try simp (disch := omega) only [wI, wU64, wU32, wU8, Int.toNat_natCast, toNat_succ, toNat_pred, Int.reduceToNat, Option.getD_some, Option.getD_none, Nat.sub_zero, Nat.zero_add]
          refine ⟨?_, ?_⟩
          · repeat' apply And.intro
            all_goals first
              | exact bne_eq_false_iff_eq.2 hp
              | exact decide_eq_false hd
              | trivial
              | rfl
              | omega
              | ((try dsimp only [rowL, rowN]); simp only [beq_iff_eq, beq_eq_false_iff_ne, bne_iff_ne, bne_eq_false_iff_eq, decide_eq_true_eq, decide_eq_false_iff_not, ne_eq, Bool.not_eq_true', Bool.not_eq_false', Bool.not_eq_eq_eq_not, Bool.not_true, Bool.not_false, Option.some.injEq, Option.getD_some, Option.getD_none]; omega)
              | (simp; done)
              | (simp; omega)
          refine SG.sub [] [0] ⟨?_, ?_, ?_, by decide, rfl, rfl, rfl, ?_⟩ nx
          · repeat' (first | exact trivial | exact rfl | refine And.intro ?_ ?_)
          · repeat' (first | exact trivial | exact rfl | refine And.intro ?_ ?_)
          · repeat' (first | exact trivial | refine ⟨⟨_, rfl, ⟨rfl, rfl, .inl rfl, (fun h => by first | exact h | cases h), (fun h => by first | exact h | cases h), fun _ _ => rfl⟩, fun _ _ => rfl⟩, ?_⟩ | refine ⟨⟨_, rfl, ⟨rfl, rfl, .inr rfl, (fun h => by first | exact h | cases h), (fun h => by first | exact h | cases h), fun _ _ => rfl⟩, fun _ _ => rfl⟩, ?_⟩ | refine ⟨⟨_, rfl, ⟨rfl, rfl, .inr rfl, (fun h => by first | exact h | cases h), (fun h => by first | exact h | cases h), fun i hi => absurd hi (Nat.not_lt_zero i)⟩, fun i hi => absurd hi (Nat.not_lt_zero i)⟩, ?_⟩ | refine ⟨⟨_, rfl, ⟨rfl, rfl, .inl rfl, (fun h => by first | exact h | cases h), (fun h => by first | exact h | cases h), fun i hi => ren_closed (hQc i hi)⟩, fun i hi => inn_closed (hQc i hi)⟩, ?_⟩)
          · repeat' (first | exact trivial | exact rfl | refine And.intro ?_ ?_)
    · simp only [gs, if_neg hp] at nx
      refine SG.walk tab_ok mx 400 [true, true] [] ?_
      conv => whnf
      try dsimp only [rowL, rowN, growOk, hiN, fromL, tightN, maxOk]
      try simp (disch := omega) only [wI, wU64, wU32, wU8, Int.toNat_natCast, toNat_succ, toNat_pred, Int.reduceToNat, Option.getD_some, Option.getD_none, Nat.sub_zero, Nat.zero_add]
      refine ⟨?_, ?_⟩
      · repeat' apply And.intro
        all_goals first
          | exact bne_iff_ne.2 hp
          | trivial
          | rfl
          | omega
          | ((try dsimp only [rowL, rowN]); simp only [beq_iff_eq, beq_eq_false_iff_ne, bne_iff_ne, bne_eq_false_iff_eq, decide_eq_true_eq, decide_eq_false_iff_not, ne_eq, Bool.not_eq_true', Bool.not_eq_false', Bool.not_eq_eq_eq_not, Bool.not_true, Bool.not_false, Option.some.injEq, Option.getD_some, Option.getD_none]; omega)
          | (simp; done)
          | (simp; omega)
      refine SG.sub [] [0] ⟨?_, ?_, ?_, by decide, rfl, rfl, rfl, ?_⟩ nx
      · repeat' (first | exact trivial | exact rfl | refine And.intro ?_ ?_)
      · repeat' (first | exact trivial | exact rfl | refine And.intro ?_ ?_)
      · repeat' (first | exact trivial | refine ⟨⟨_, rfl, ⟨rfl, rfl, .inl rfl, (fun h => by first | exact h | cases h), (fun h => by first | exact h | cases h), fun _ _ => rfl⟩, fun _ _ => rfl⟩, ?_⟩ | refine ⟨⟨_, rfl, ⟨rfl, rfl, .inr rfl, (fun h => by first | exact h | cases h), (fun h => by first | exact h | cases h), fun _ _ => rfl⟩, fun _ _ => rfl⟩, ?_⟩ | refine ⟨⟨_, rfl, ⟨rfl, rfl, .inr rfl, (fun h => by first | exact h | cases h), (fun h => by first | exact h | cases h), fun i hi => absurd hi (Nat.not_lt_zero i)⟩, fun i hi => absurd hi (Nat.not_lt_zero i)⟩, ?_⟩ | refine ⟨⟨_, rfl, ⟨rfl, rfl, .inl rfl, (fun h => by first | exact h | cases h), (fun h => by first | exact h | cases h), fun i hi => ren_closed (hQc i hi)⟩, fun i hi => inn_closed (hQc i hi)⟩, ?_⟩)
      · repeat' (first | exact trivial | exact rfl | refine And.intro ?_ ?_)
  · have hkl : k = L.length := by omega
    subst hkl
    refine SG.walk tab_ok mx 400 [false] [] ?_
    conv => whnf
    try dsimp only [rowL, rowN, growOk, hiN, fromL, tightN, maxOk]
    try simp (disch := omega) only [wI, wU64, wU32, wU8, Int.toNat_natCast, toNat_succ, toNat_pred, Int.reduceToNat, Option.getD_some, Option.getD_none, Nat.sub_zero, Nat.zero_add]
    refine ⟨?_, ?_⟩
    · repeat' apply And.intro
      all_goals first
        | trivial
        | rfl
        | omega
        | ((try dsimp only [rowL, rowN]); simp only [beq_iff_eq, beq_eq_false_iff_ne, bne_iff_ne, bne_eq_false_iff_eq, decide_eq_true_eq, decide_eq_false_iff_not, ne_eq, Bool.not_eq_true', Bool.not_eq_false', Bool.not_eq_eq_eq_not, Bool.not_true, Bool.not_false, Option.some.injEq, Option.getD_some, Option.getD_none]; omega)
        | (simp; done)
        | (simp; omega)
    refine SG.ret tab_ok Try.func20 rfl ?_
    intro ρ w' v hm hv
    exact Post.mk hm (u64V (gs n L L.length).1) [] none [] hv rfl rows0 rfl (by simp)
set_option maxRecDepth 100000 in
theorem eventsT {r q : Nat} {R Rq : Row} {L : List E} (hr : Rs[r]? = some (some R)) (hR : RowLe R (rowE L)) (hq : Rs[q]? = some (some Rq)) (hRq : RowLe Rq (rowE L)) (hl : L.length ≤ 9000000000000) :
    CallOk Try.prog W B Rs 10 [rsV r, rsV q] (hdB true) := by
  refine CallOk.enter Try.func10 (by kernel_rfl) rfl [r, q] [rowE L, rowE L] [rsV 0, rsV 1] rfl (rows2 (.ro_ hr hR rfl rfl (fun _ _ => rfl)) (.ro_ hq hRq rfl rfl (fun _ _ => rfl))) (fun r h => by cases h) rfl rfl ?_
  intro w blk hblk
  refine SG.walk tab_ok mx 400 [false] [] ?_
  conv => whnf
  try dsimp only [rowL, rowN, growOk, hiN, fromL, tightN, maxOk]
  try simp (disch := omega) only [wI, wU64, wU32, wU8, Int.toNat_natCast, toNat_succ, toNat_pred, Int.reduceToNat, Option.getD_some, Option.getD_none, Nat.sub_zero, Nat.zero_add]
  refine ⟨?_, ?_⟩
  · repeat' apply And.intro
    all_goals first
      | trivial
      | rfl
      | omega
      | ((try dsimp only [rowL, rowN]); simp only [beq_iff_eq, beq_eq_false_iff_ne, bne_iff_ne, bne_eq_false_iff_eq, decide_eq_true_eq, decide_eq_false_iff_not, ne_eq, Bool.not_eq_true', Bool.not_eq_false', Bool.not_eq_eq_eq_not, Bool.not_true, Bool.not_false, Option.some.injEq, Option.getD_some, Option.getD_none]; omega)
      | (simp; done)
      | (simp; omega)
  refine SG.loop (fun k : Nat => ⟨puts (List.replicate (Try.f10).ntmps .any) [(0, rsV 0), (1, rsV 1), (5, intV k)], [], [some (rowE L), some (rowE L)], []⟩) (fun k => k ≤ L.length) (fun k => L.length - k) (0) (Nat.zero_le _) (fun h => SG.sub [] [0, 1] ⟨?_, ?_, ?_, by decide, rfl, rfl, rfl, ?_⟩ h) ?_
  · repeat' (first | exact trivial | exact rfl | refine And.intro ?_ ?_)
  · repeat' (first | exact trivial | exact rfl | refine And.intro ?_ ?_)
  · repeat' (first | exact trivial | refine ⟨⟨_, rfl, ⟨rfl, rfl, .inl rfl, (fun h => by first | exact h | cases h), (fun h => by first | exact h | cases h), fun _ _ => rfl⟩, fun _ _ => rfl⟩, ?_⟩ | refine ⟨⟨_, rfl, ⟨rfl, rfl, .inr rfl, (fun h => by first | exact h | cases h), (fun h => by first | exact h | cases h), fun _ _ => rfl⟩, fun _ _ => rfl⟩, ?_⟩ | refine ⟨⟨_, rfl, ⟨rfl, rfl, .inr rfl, (fun h => by first | exact h | cases h), (fun h => by first | exact h | cases h), fun i hi => absurd hi (Nat.not_lt_zero i)⟩, fun i hi => absurd hi (Nat.not_lt_zero i)⟩, ?_⟩ | refine ⟨⟨_, rfl, ⟨rfl, rfl, .inl rfl, (fun h => by first | exact h | cases h), (fun h => by first | exact h | cases h), fun i hi => ren_closed (hQc i hi)⟩, fun i hi => inn_closed (hQc i hi)⟩, ?_⟩)
  · repeat' (first | exact trivial | exact rfl | refine And.intro ?_ ?_)
  intro k hk next
  by_cases hlt : k < L.length
  · refine SG.walk tab_ok mx 400 [true, false] [] ?_
    conv => whnf
    try dsimp only [rowL, rowN, growOk, hiN, fromL, tightN, maxOk]
    try simp (disch := omega) only [wI, wU64, wU32, wU8, Int.toNat_natCast, toNat_succ, toNat_pred, Int.reduceToNat, Option.getD_some, Option.getD_none, Nat.sub_zero, Nat.zero_add]
    refine ⟨?_, ?_⟩
    · repeat' apply And.intro
      all_goals first
        | exact show (!eqB (L.getD k e0) (L.getD k e0)) = false by rw [eqB_refl]; rfl
        | trivial
        | rfl
        | omega
        | ((try dsimp only [rowL, rowN]); simp only [beq_iff_eq, beq_eq_false_iff_ne, bne_iff_ne, bne_eq_false_iff_eq, decide_eq_true_eq, decide_eq_false_iff_not, ne_eq, Bool.not_eq_true', Bool.not_eq_false', Bool.not_eq_eq_eq_not, Bool.not_true, Bool.not_false, Option.some.injEq, Option.getD_some, Option.getD_none]; omega)
        | (simp; done)
        | (simp; omega)
    refine SG.sub [] [0, 1] ⟨?_, ?_, ?_, by decide, rfl, rfl, rfl, ?_⟩ (next (k + 1) hlt (by omega))
    · repeat' (first | exact trivial | exact rfl | refine And.intro ?_ ?_)
    · repeat' (first | exact trivial | exact rfl | refine And.intro ?_ ?_)
    · repeat' (first | exact trivial | refine ⟨⟨_, rfl, ⟨rfl, rfl, .inl rfl, (fun h => by first | exact h | cases h), (fun h => by first | exact h | cases h), fun _ _ => rfl⟩, fun _ _ => rfl⟩, ?_⟩ | refine ⟨⟨_, rfl, ⟨rfl, rfl, .inr rfl, (fun h => by first | exact h | cases h), (fun h => by first | exact h | cases h), fun _ _ => rfl⟩, fun _ _ => rfl⟩, ?_⟩ | refine ⟨⟨_, rfl, ⟨rfl, rfl, .inr rfl, (fun h => by first | exact h | cases h), (fun h => by first | exact h | cases h), fun i hi => absurd hi (Nat.not_lt_zero i)⟩, fun i hi => absurd hi (Nat.not_lt_zero i)⟩, ?_⟩ | refine ⟨⟨_, rfl, ⟨rfl, rfl, .inl rfl, (fun h => by first | exact h | cases h), (fun h => by first | exact h | cases h), fun i hi => ren_closed (hQc i hi)⟩, fun i hi => inn_closed (hQc i hi)⟩, ?_⟩)
    · repeat' (first | exact trivial | exact rfl | refine And.intro ?_ ?_)
  · refine SG.walk tab_ok mx 400 [false] [] ?_
    conv => whnf
    try dsimp only [rowL, rowN, growOk, hiN, fromL, tightN, maxOk]
    try simp (disch := omega) only [wI, wU64, wU32, wU8, Int.toNat_natCast, toNat_succ, toNat_pred, Int.reduceToNat, Option.getD_some, Option.getD_none, Nat.sub_zero, Nat.zero_add]
    refine ⟨?_, ?_⟩
    · repeat' apply And.intro
      all_goals first
        | trivial
        | rfl
        | omega
        | ((try dsimp only [rowL, rowN]); simp only [beq_iff_eq, beq_eq_false_iff_ne, bne_iff_ne, bne_eq_false_iff_eq, decide_eq_true_eq, decide_eq_false_iff_not, ne_eq, Bool.not_eq_true', Bool.not_eq_false', Bool.not_eq_eq_eq_not, Bool.not_true, Bool.not_false, Option.some.injEq, Option.getD_some, Option.getD_none]; omega)
        | (simp; done)
        | (simp; omega)
    refine SG.ret tab_ok Try.func10 rfl ?_
    intro ρ w' v hm hv
    exact Post.mk hm (.cv (.one (.lb true))) [] none [] hv rfl rows0 rfl (by simp)
end
end Go.Proofs.Ytajfcpehhhpgeaa
