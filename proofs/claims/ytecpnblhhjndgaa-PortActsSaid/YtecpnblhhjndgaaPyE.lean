/- Channels and boxes: statements, on: whatever channel, whatever waits. -/
import Derived.Test.YtecpnblhhjndgaaPyD
namespace Go.Proofs.Ytecpnblhhjndgaa
open Go.Sx Go.RowKit
set_option linter.unusedVariables false
set_option linter.unusedSimpArgs false
set_option maxRecDepth 100000 in
theorem a6 (w : World) (c c2 : Value) (N : List MM) (k f t s d l now l2 : Int) (body : ByteArray) (hs : body.size ≤ s) (hk : k ≠ 1) (hd : d ≤ (([] : List MM)).length) (hrow : ∀ W' ρ, RowOk W' ρ w c (rowM ([] : List MM))) (hrow2 : ∀ W' ρ, RowOk W' ρ w c2 (rowM N)) (hl : (([] : List MM)).length ≤ 5864062014650) :
    Calls Try.prog 3 #[.agg #[.int .i64 k, .int .i64 f, .int .i64 t, .int .i64 s, .int .i64 d, c, .int .i64 l, .int .u64 now, .string body, c2, .int .i64 l2]] w fun e w' => e = .returned (.bool true) ∧ Below w.heap.size w w' := by
  obtain ⟨A, cap, rfl, _⟩ := (hrow ⟨w, none, [], []⟩ ⟨fun _ => none, fun _ => none⟩).form
  obtain ⟨A2, cap2, rfl, _⟩ := (hrow2 ⟨w, none, [], []⟩ ⟨fun _ => none, fun _ => none⟩).form
  refine calls_top Try.func3 rfl [.slice A (([] : List MM)).length cap, .slice A2 N.length cap2] [rowM ([] : List MM), rowM N] [.cv (.agg [.v (.int .i64 k), .v (.int .i64 f), .v (.int .i64 t), .v (.int .i64 s), .v (.int .i64 d), .rs 0, .v (.int .i64 l), .v (.int .u64 now), .v (.string body), .rs 1, .v (.int .i64 l2)])] (.cons hrow rfl (.cons hrow2 rfl .nil)) ⟨rfl, trivial⟩ ?_
  clear hrow hrow2
  obtain ⟨b, hb⟩ := same_b ([] : List MM) l N l2
  refine SG.walk tab_ok mx 400 [] [hdB true, mkHd (sentV (IntKind.wrap .i64 (l + 1)) 0) [newM ([] : List MM)]] ?_
  conv => whnf
  try dsimp only [rowL, rowN, growOk, hiN, fromL, tightN, maxOk]
  try simp (disch := omega) only [wI, wU64, wU32, wU8, Int.toNat_natCast, toNat_succ, toNat_pred, Int.reduceToNat, Option.getD_some, Option.getD_none, Nat.sub_zero, Nat.zero_add]
  refine ⟨?_, ?_⟩
  · repeat' apply And.intro
    all_goals first
      | exact shownP
      | exact sendFull (r := 0) rfl (.of rfl rfl (fun _ _ => rfl)) (by simp) hs hk hd
      | trivial
      | rfl
      | omega
      | ((try dsimp only [rowL, rowN]); simp only [beq_iff_eq, beq_eq_false_iff_ne, bne_iff_ne, bne_eq_false_iff_eq, decide_eq_true_eq, decide_eq_false_iff_not, ne_eq, Bool.not_eq_true', Bool.not_eq_false', Bool.not_eq_eq_eq_not, Bool.not_true, Bool.not_false, Option.some.injEq, Option.getD_some, Option.getD_none]; omega)
      | (simp; done)
      | (simp; omega)
  refine SG.inline rfl rfl rfl Try.func12 (by kernel_rfl) rfl ?_
  intro Ws Rs hbs
  refine SG.norm ?_
  conv => whnf
  refine SG.walk tab_ok mx 400 [false, false, true] [] ?_
  conv => whnf
  try dsimp only [rowL, rowN, growOk, hiN, fromL, tightN, maxOk]
  try simp (disch := omega) only [wI, wU64, wU32, wU8, Int.toNat_natCast, toNat_succ, toNat_pred, Int.reduceToNat, Option.getD_some, Option.getD_none, Nat.sub_zero, Nat.zero_add]
  refine ⟨?_, ?_⟩
  · repeat' apply And.intro
    all_goals first
      | trivial
      | rfl
      | omega
      | ((try dsimp only [rowL, rowN]); simp only [beq_iff_eq, beq_eq_false_iff_ne, bne_iff_ne, bne_eq_false_iff_eq, decide_eq_true_eq, decide_eq_false_iff_not, ne_eq, Bool.not_eq_true', Bool.not_eq_false', Bool.not_eq_eq_eq_not, Bool.not_true, Bool.not_false, Option.some.injEq, Option.getD_some, Option.getD_none]; omega)
      | (simp; done)
      | (simp; omega)
  refine SG.back hbs tab_ok Try.func12 rfl (Nat.le_of_ble_eq_true rfl) ?_
  refine SG.norm ?_
  conv => whnf
  refine SG.walk tab_ok mx 400 [] [mkHd (tookV l 7 mm0) [newM ([] : List MM)]] ?_
  conv => whnf
  try dsimp only [rowL, rowN, growOk, hiN, fromL, tightN, maxOk]
  try simp (disch := omega) only [wI, wU64, wU32, wU8, Int.toNat_natCast, toNat_succ, toNat_pred, Int.reduceToNat, Option.getD_some, Option.getD_none, Nat.sub_zero, Nat.zero_add]
  refine ⟨?_, ?_⟩
  · repeat' apply And.intro
    all_goals first
      | exact takeNone (r := 0) rfl (.of rfl rfl (fun _ _ => rfl))
      | trivial
      | rfl
      | omega
      | ((try dsimp only [rowL, rowN]); simp only [beq_iff_eq, beq_eq_false_iff_ne, bne_iff_ne, bne_eq_false_iff_eq, decide_eq_true_eq, decide_eq_false_iff_not, ne_eq, Bool.not_eq_true', Bool.not_eq_false', Bool.not_eq_eq_eq_not, Bool.not_true, Bool.not_false, Option.some.injEq, Option.getD_some, Option.getD_none]; omega)
      | (simp; done)
      | (simp; omega)
  refine SG.inline rfl rfl rfl Try.func14 (by kernel_rfl) rfl ?_
  intro Wq Rq hbq
  refine SG.norm ?_
  conv => whnf
  refine SG.walk tab_ok mx 400 [true] [] ?_
  conv => whnf
  try dsimp only [rowL, rowN, growOk, hiN, fromL, tightN, maxOk]
  try simp (disch := omega) only [wI, wU64, wU32, wU8, Int.toNat_natCast, toNat_succ, toNat_pred, Int.reduceToNat, Option.getD_some, Option.getD_none, Nat.sub_zero, Nat.zero_add]
  refine ⟨?_, ?_⟩
  · repeat' apply And.intro
    all_goals first
      | trivial
      | rfl
      | omega
      | ((try dsimp only [rowL, rowN]); simp only [beq_iff_eq, beq_eq_false_iff_ne, bne_iff_ne, bne_eq_false_iff_eq, decide_eq_true_eq, decide_eq_false_iff_not, ne_eq, Bool.not_eq_true', Bool.not_eq_false', Bool.not_eq_eq_eq_not, Bool.not_true, Bool.not_false, Option.some.injEq, Option.getD_some, Option.getD_none]; omega)
      | (simp; done)
      | (simp; omega)
  refine SG.back hbq tab_ok Try.func14 rfl (Nat.le_of_ble_eq_true rfl) ?_
  refine SG.norm ?_
  conv => whnf
  refine SG.walk tab_ok mx 400 [true, true, true, true, true, true, true, true, true, true, true, true] [hdB true, hdB true, mkHd (.tup [.agg (mmC mm0), .one (.lb false)]) [], mkHd (intV (([] : List MM)).length) [], hdB b, hdB b, hdB true] ?_
  conv => whnf
  try dsimp only [rowL, rowN, growOk, hiN, fromL, tightN, maxOk]
  try simp (disch := omega) only [wI, wU64, wU32, wU8, Int.toNat_natCast, toNat_succ, toNat_pred, Int.reduceToNat, Option.getD_some, Option.getD_none, Nat.sub_zero, Nat.zero_add]
  refine ⟨?_, ?_⟩
  · repeat' apply And.intro
    all_goals first
      | exact rSameP (r := 2) (q := 0) (L := ([] : List MM)) (M := ([] : List MM)) rfl (.of rfl rfl (fun _ _ => rfl)) rfl (.of rfl rfl (fun _ _ => rfl)) (by simp) (by simp [same_refl])
      | exact rSameP (r := 3) (q := 0) (L := ([] : List MM)) (M := ([] : List MM)) rfl (.of rfl rfl (fun _ _ => rfl)) rfl (.of rfl rfl (fun _ _ => rfl)) (by simp) (by simp [same_refl])
      | exact peekNone (r := 0) rfl (.of rfl rfl (fun _ _ => rfl))
      | exact waitsB (r := 0) rfl (.of rfl rfl (fun _ _ => rfl))
      | exact sameP (r := 0) (q := 1) rfl (.of rfl rfl (fun _ _ => rfl)) rfl (.of rfl rfl (fun _ _ => rfl)) (by simp) hb
      | exact rSameP (r := 0) (q := 1) rfl (.of rfl rfl (fun _ _ => rfl)) rfl (.of rfl rfl (fun _ _ => rfl)) (by simp) hb
      | exact sameP (r := 0) (q := 0) (L := ([] : List MM)) (M := ([] : List MM)) rfl (.of rfl rfl (fun _ _ => rfl)) rfl (.of rfl rfl (fun _ _ => rfl)) (by simp) (by simp [same_refl])
      | exact beq_self_eq_true b
      | exact eqM_refl x
      | exact eqM_refl mm0
      | trivial
      | rfl
      | omega
      | ((try dsimp only [rowL, rowN]); simp only [beq_iff_eq, beq_eq_false_iff_ne, bne_iff_ne, bne_eq_false_iff_eq, decide_eq_true_eq, decide_eq_false_iff_not, ne_eq, Bool.not_eq_true', Bool.not_eq_false', Bool.not_eq_eq_eq_not, Bool.not_true, Bool.not_false, Option.some.injEq, Option.getD_some, Option.getD_none]; omega)
      | (simp; done)
      | (simp; omega)
  refine SG.ret tab_ok Try.func3 rfl ?_
  intro ρ w' v hm hv
  exact top_true hm hv rfl
set_option maxRecDepth 100000 in
theorem a7 (w : World) (c c2 : Value) (x : MM) (M N : List MM) (k f t s d l now l2 : Int) (body : ByteArray) (hs : body.size ≤ s) (hk : k ≠ 1) (hd : d ≤ ((x :: M)).length) (hrow : ∀ W' ρ, RowOk W' ρ w c (rowM (x :: M))) (hrow2 : ∀ W' ρ, RowOk W' ρ w c2 (rowM N)) (hl : ((x :: M)).length ≤ 5864062014650) :
    Calls Try.prog 3 #[.agg #[.int .i64 k, .int .i64 f, .int .i64 t, .int .i64 s, .int .i64 d, c, .int .i64 l, .int .u64 now, .string body, c2, .int .i64 l2]] w fun e w' => e = .returned (.bool true) ∧ Below w.heap.size w w' := by
  obtain ⟨A, cap, rfl, _⟩ := (hrow ⟨w, none, [], []⟩ ⟨fun _ => none, fun _ => none⟩).form
  obtain ⟨A2, cap2, rfl, _⟩ := (hrow2 ⟨w, none, [], []⟩ ⟨fun _ => none, fun _ => none⟩).form
  refine calls_top Try.func3 rfl [.slice A ((x :: M)).length cap, .slice A2 N.length cap2] [rowM (x :: M), rowM N] [.cv (.agg [.v (.int .i64 k), .v (.int .i64 f), .v (.int .i64 t), .v (.int .i64 s), .v (.int .i64 d), .rs 0, .v (.int .i64 l), .v (.int .u64 now), .v (.string body), .rs 1, .v (.int .i64 l2)])] (.cons hrow rfl (.cons hrow2 rfl .nil)) ⟨rfl, trivial⟩ ?_
  clear hrow hrow2
  obtain ⟨b, hb⟩ := same_b (x :: M) l N l2
  refine SG.walk tab_ok mx 400 [] [hdB true, mkHd (sentV (IntKind.wrap .i64 (l + 1)) 0) [newM (x :: M)]] ?_
  conv => whnf
  try dsimp only [rowL, rowN, growOk, hiN, fromL, tightN, maxOk]
  try simp (disch := omega) only [wI, wU64, wU32, wU8, Int.toNat_natCast, toNat_succ, toNat_pred, Int.reduceToNat, Option.getD_some, Option.getD_none, Nat.sub_zero, Nat.zero_add]
  refine ⟨?_, ?_⟩
  · repeat' apply And.intro
    all_goals first
      | exact shownP
      | exact sendFull (r := 0) rfl (.of rfl rfl (fun _ _ => rfl)) (by simp at hl ⊢ <;> omega) hs hk hd
      | trivial
      | rfl
      | omega
      | ((try dsimp only [rowL, rowN]); simp only [beq_iff_eq, beq_eq_false_iff_ne, bne_iff_ne, bne_eq_false_iff_eq, decide_eq_true_eq, decide_eq_false_iff_not, ne_eq, Bool.not_eq_true', Bool.not_eq_false', Bool.not_eq_eq_eq_not, Bool.not_true, Bool.not_false, Option.some.injEq, Option.getD_some, Option.getD_none]; omega)
      | (simp; done)
      | (simp; omega)
  refine SG.inline rfl rfl rfl Try.func12 (by kernel_rfl) rfl ?_
  intro Ws Rs hbs
  refine SG.norm ?_
  conv => whnf
  refine SG.walk tab_ok mx 400 [false, false, true] [] ?_
  conv => whnf
  try dsimp only [rowL, rowN, growOk, hiN, fromL, tightN, maxOk]
  try simp (disch := omega) only [wI, wU64, wU32, wU8, Int.toNat_natCast, toNat_succ, toNat_pred, Int.reduceToNat, Option.getD_some, Option.getD_none, Nat.sub_zero, Nat.zero_add]
  refine ⟨?_, ?_⟩
  · repeat' apply And.intro
    all_goals first
      | trivial
      | rfl
      | omega
      | ((try dsimp only [rowL, rowN]); simp only [beq_iff_eq, beq_eq_false_iff_ne, bne_iff_ne, bne_eq_false_iff_eq, decide_eq_true_eq, decide_eq_false_iff_not, ne_eq, Bool.not_eq_true', Bool.not_eq_false', Bool.not_eq_eq_eq_not, Bool.not_true, Bool.not_false, Option.some.injEq, Option.getD_some, Option.getD_none]; omega)
      | (simp; done)
      | (simp; omega)
  refine SG.back hbs tab_ok Try.func12 rfl (Nat.le_of_ble_eq_true rfl) ?_
  refine SG.norm ?_
  conv => whnf
  refine SG.walk tab_ok mx 400 [true, true, true, true, true, true, true, true, true, true, true, true] [mkHd (tookV l 0 x) [newM M], mkHd (tookV l 0 x) [newM M], hdB true, hdB true, mkHd (.tup [.agg (mmC x), .one (.lb true)]) [], mkHd (intV ((x :: M)).length) [], hdB b, hdB b, hdB true] ?_
  conv => whnf
  try dsimp only [rowL, rowN, growOk, hiN, fromL, tightN, maxOk]
  try simp (disch := omega) only [wI, wU64, wU32, wU8, Int.toNat_natCast, toNat_succ, toNat_pred, Int.reduceToNat, Option.getD_some, Option.getD_none, Nat.sub_zero, Nat.zero_add]
  refine ⟨?_, ?_⟩
  · repeat' apply And.intro
    all_goals first
      | exact takeSome (r := 0) rfl (.of rfl rfl (fun _ _ => rfl)) (by simp at hl ⊢ <;> omega) hk
      | exact rTakeSome (r := 0) rfl (.of rfl rfl (fun _ _ => rfl)) (by simp at hl ⊢ <;> omega) hk
      | exact rSameP (r := 2) (q := 0) (L := (x :: M)) (M := (x :: M)) rfl (.of rfl rfl (fun _ _ => rfl)) rfl (.of rfl rfl (fun _ _ => rfl)) (by simp at hl ⊢ <;> omega) (by simp [same_refl])
      | exact rSameP (r := 3) (q := 4) (L := M) (M := M) rfl (.of rfl rfl (fun _ _ => rfl)) rfl (.of rfl rfl (fun _ _ => rfl)) (by simp at hl ⊢ <;> omega) (by simp [same_refl])
      | exact peekSome (r := 0) (L := (x :: M)) rfl (.of rfl rfl (fun _ _ => rfl)) (by simp)
      | exact waitsB (r := 0) rfl (.of rfl rfl (fun _ _ => rfl))
      | exact sameP (r := 0) (q := 1) rfl (.of rfl rfl (fun _ _ => rfl)) rfl (.of rfl rfl (fun _ _ => rfl)) (by simp at hl ⊢ <;> omega) hb
      | exact rSameP (r := 0) (q := 1) rfl (.of rfl rfl (fun _ _ => rfl)) rfl (.of rfl rfl (fun _ _ => rfl)) (by simp at hl ⊢ <;> omega) hb
      | exact sameP (r := 0) (q := 0) (L := (x :: M)) (M := (x :: M)) rfl (.of rfl rfl (fun _ _ => rfl)) rfl (.of rfl rfl (fun _ _ => rfl)) (by simp at hl ⊢ <;> omega) (by simp [same_refl])
      | exact beq_self_eq_true b
      | exact eqM_refl x
      | exact eqM_refl mm0
      | trivial
      | rfl
      | omega
      | ((try dsimp only [rowL, rowN]); simp only [beq_iff_eq, beq_eq_false_iff_ne, bne_iff_ne, bne_eq_false_iff_eq, decide_eq_true_eq, decide_eq_false_iff_not, ne_eq, Bool.not_eq_true', Bool.not_eq_false', Bool.not_eq_eq_eq_not, Bool.not_true, Bool.not_false, Option.some.injEq, Option.getD_some, Option.getD_none]; omega)
      | (simp; done)
      | (simp; omega)
  refine SG.ret tab_ok Try.func3 rfl ?_
  intro ρ w' v hm hv
  exact top_true hm hv rfl
set_option maxRecDepth 100000 in
theorem a8 (w : World) (c c2 : Value) (N : List MM) (k f t s d l now l2 : Int) (body : ByteArray) (hs : body.size ≤ s) (hk : k ≠ 1) (hd : (([] : List MM)).length < d) (hrow : ∀ W' ρ, RowOk W' ρ w c (rowM ([] : List MM))) (hrow2 : ∀ W' ρ, RowOk W' ρ w c2 (rowM N)) (hl : (([] : List MM)).length ≤ 5864062014650) :
    Calls Try.prog 3 #[.agg #[.int .i64 k, .int .i64 f, .int .i64 t, .int .i64 s, .int .i64 d, c, .int .i64 l, .int .u64 now, .string body, c2, .int .i64 l2]] w fun e w' => e = .returned (.bool true) ∧ Below w.heap.size w w' := by
  obtain ⟨A, cap, rfl, _⟩ := (hrow ⟨w, none, [], []⟩ ⟨fun _ => none, fun _ => none⟩).form
  obtain ⟨A2, cap2, rfl, _⟩ := (hrow2 ⟨w, none, [], []⟩ ⟨fun _ => none, fun _ => none⟩).form
  refine calls_top Try.func3 rfl [.slice A (([] : List MM)).length cap, .slice A2 N.length cap2] [rowM ([] : List MM), rowM N] [.cv (.agg [.v (.int .i64 k), .v (.int .i64 f), .v (.int .i64 t), .v (.int .i64 s), .v (.int .i64 d), .rs 0, .v (.int .i64 l), .v (.int .u64 now), .v (.string body), .rs 1, .v (.int .i64 l2)])] (.cons hrow rfl (.cons hrow2 rfl .nil)) ⟨rfl, trivial⟩ ?_
  clear hrow hrow2
  obtain ⟨b, hb⟩ := same_b ([] : List MM) l N l2
  refine SG.walk tab_ok mx 400 [] [hdB true, mkHd (sentV l 0) [newM (([] : List MM) ++ [(now, body)])], mkHd (sentV l 0) [newM (([] : List MM) ++ [(now, body)])], mkHd (tookV l 7 mm0) [newM ([] : List MM)]] ?_
  conv => whnf
  try dsimp only [rowL, rowN, growOk, hiN, fromL, tightN, maxOk]
  try simp (disch := omega) only [wI, wU64, wU32, wU8, Int.toNat_natCast, toNat_succ, toNat_pred, Int.reduceToNat, Option.getD_some, Option.getD_none, Nat.sub_zero, Nat.zero_add]
  refine ⟨?_, ?_⟩
  · repeat' apply And.intro
    all_goals first
      | exact shownP
      | exact sendRoom (r := 0) rfl (.of rfl rfl (fun _ _ => rfl)) (by simp) hs hk hd
      | exact rSendRoom (r := 0) rfl (.of rfl rfl (fun _ _ => rfl)) (by simp) hs hk hd
      | exact takeNone (r := 0) rfl (.of rfl rfl (fun _ _ => rfl))
      | trivial
      | rfl
      | omega
      | ((try dsimp only [rowL, rowN]); simp only [beq_iff_eq, beq_eq_false_iff_ne, bne_iff_ne, bne_eq_false_iff_eq, decide_eq_true_eq, decide_eq_false_iff_not, ne_eq, Bool.not_eq_true', Bool.not_eq_false', Bool.not_eq_eq_eq_not, Bool.not_true, Bool.not_false, Option.some.injEq, Option.getD_some, Option.getD_none]; omega)
      | (simp; done)
      | (simp; omega)
  refine SG.inline rfl rfl rfl Try.func14 (by kernel_rfl) rfl ?_
  intro Wq Rq hbq
  refine SG.norm ?_
  conv => whnf
  refine SG.walk tab_ok mx 400 [true] [] ?_
  conv => whnf
  try dsimp only [rowL, rowN, growOk, hiN, fromL, tightN, maxOk]
  try simp (disch := omega) only [wI, wU64, wU32, wU8, Int.toNat_natCast, toNat_succ, toNat_pred, Int.reduceToNat, Option.getD_some, Option.getD_none, Nat.sub_zero, Nat.zero_add]
  refine ⟨?_, ?_⟩
  · repeat' apply And.intro
    all_goals first
      | trivial
      | rfl
      | omega
      | ((try dsimp only [rowL, rowN]); simp only [beq_iff_eq, beq_eq_false_iff_ne, bne_iff_ne, bne_eq_false_iff_eq, decide_eq_true_eq, decide_eq_false_iff_not, ne_eq, Bool.not_eq_true', Bool.not_eq_false', Bool.not_eq_eq_eq_not, Bool.not_true, Bool.not_false, Option.some.injEq, Option.getD_some, Option.getD_none]; omega)
      | (simp; done)
      | (simp; omega)
  refine SG.back hbq tab_ok Try.func14 rfl (Nat.le_of_ble_eq_true rfl) ?_
  refine SG.norm ?_
  conv => whnf
  refine SG.walk tab_ok mx 400 [true, true, true, true, true, true, true, true, true, true, true, true] [hdB true, hdB true, mkHd (.tup [.agg (mmC mm0), .one (.lb false)]) [], mkHd (intV (([] : List MM)).length) [], hdB b, hdB b, hdB true] ?_
  conv => whnf
  try dsimp only [rowL, rowN, growOk, hiN, fromL, tightN, maxOk]
  try simp (disch := omega) only [wI, wU64, wU32, wU8, Int.toNat_natCast, toNat_succ, toNat_pred, Int.reduceToNat, Option.getD_some, Option.getD_none, Nat.sub_zero, Nat.zero_add]
  refine ⟨?_, ?_⟩
  · repeat' apply And.intro
    all_goals first
      | exact rSameP (r := 2) (q := 3) (L := (([] : List MM) ++ [(now, body)])) (M := (([] : List MM) ++ [(now, body)])) rfl (.of rfl rfl (fun _ _ => rfl)) rfl (.of rfl rfl (fun _ _ => rfl)) (by simp) (by simp [same_refl])
      | exact rSameP (r := 4) (q := 0) (L := ([] : List MM)) (M := ([] : List MM)) rfl (.of rfl rfl (fun _ _ => rfl)) rfl (.of rfl rfl (fun _ _ => rfl)) (by simp) (by simp [same_refl])
      | exact peekNone (r := 0) rfl (.of rfl rfl (fun _ _ => rfl))
      | exact waitsB (r := 0) rfl (.of rfl rfl (fun _ _ => rfl))
      | exact sameP (r := 0) (q := 1) rfl (.of rfl rfl (fun _ _ => rfl)) rfl (.of rfl rfl (fun _ _ => rfl)) (by simp) hb
      | exact rSameP (r := 0) (q := 1) rfl (.of rfl rfl (fun _ _ => rfl)) rfl (.of rfl rfl (fun _ _ => rfl)) (by simp) hb
      | exact sameP (r := 0) (q := 0) (L := ([] : List MM)) (M := ([] : List MM)) rfl (.of rfl rfl (fun _ _ => rfl)) rfl (.of rfl rfl (fun _ _ => rfl)) (by simp) (by simp [same_refl])
      | exact beq_self_eq_true b
      | exact eqM_refl x
      | exact eqM_refl mm0
      | trivial
      | rfl
      | omega
      | ((try dsimp only [rowL, rowN]); simp only [beq_iff_eq, beq_eq_false_iff_ne, bne_iff_ne, bne_eq_false_iff_eq, decide_eq_true_eq, decide_eq_false_iff_not, ne_eq, Bool.not_eq_true', Bool.not_eq_false', Bool.not_eq_eq_eq_not, Bool.not_true, Bool.not_false, Option.some.injEq, Option.getD_some, Option.getD_none]; omega)
      | (simp; done)
      | (simp; omega)
  refine SG.ret tab_ok Try.func3 rfl ?_
  intro ρ w' v hm hv
  exact top_true hm hv rfl
set_option maxRecDepth 100000 in
theorem a9 (w : World) (c c2 : Value) (x : MM) (M N : List MM) (k f t s d l now l2 : Int) (body : ByteArray) (hs : body.size ≤ s) (hk : k ≠ 1) (hd : ((x :: M)).length < d) (hrow : ∀ W' ρ, RowOk W' ρ w c (rowM (x :: M))) (hrow2 : ∀ W' ρ, RowOk W' ρ w c2 (rowM N)) (hl : ((x :: M)).length ≤ 5864062014650) :
    Calls Try.prog 3 #[.agg #[.int .i64 k, .int .i64 f, .int .i64 t, .int .i64 s, .int .i64 d, c, .int .i64 l, .int .u64 now, .string body, c2, .int .i64 l2]] w fun e w' => e = .returned (.bool true) ∧ Below w.heap.size w w' := by
  obtain ⟨A, cap, rfl, _⟩ := (hrow ⟨w, none, [], []⟩ ⟨fun _ => none, fun _ => none⟩).form
  obtain ⟨A2, cap2, rfl, _⟩ := (hrow2 ⟨w, none, [], []⟩ ⟨fun _ => none, fun _ => none⟩).form
  refine calls_top Try.func3 rfl [.slice A ((x :: M)).length cap, .slice A2 N.length cap2] [rowM (x :: M), rowM N] [.cv (.agg [.v (.int .i64 k), .v (.int .i64 f), .v (.int .i64 t), .v (.int .i64 s), .v (.int .i64 d), .rs 0, .v (.int .i64 l), .v (.int .u64 now), .v (.string body), .rs 1, .v (.int .i64 l2)])] (.cons hrow rfl (.cons hrow2 rfl .nil)) ⟨rfl, trivial⟩ ?_
  clear hrow hrow2
  obtain ⟨b, hb⟩ := same_b (x :: M) l N l2
  refine SG.walk tab_ok mx 400 [true, true, true, true, true, true, true, true, true, true, true, true] [hdB true, mkHd (sentV l 0) [newM ((x :: M) ++ [(now, body)])], mkHd (sentV l 0) [newM ((x :: M) ++ [(now, body)])], mkHd (tookV l 0 x) [newM M], mkHd (tookV l 0 x) [newM M], hdB true, hdB true, mkHd (.tup [.agg (mmC x), .one (.lb true)]) [], mkHd (intV ((x :: M)).length) [], hdB b, hdB b, hdB true] ?_
  conv => whnf
  try dsimp only [rowL, rowN, growOk, hiN, fromL, tightN, maxOk]
  try simp (disch := omega) only [wI, wU64, wU32, wU8, Int.toNat_natCast, toNat_succ, toNat_pred, Int.reduceToNat, Option.getD_some, Option.getD_none, Nat.sub_zero, Nat.zero_add]
  refine ⟨?_, ?_⟩
  · repeat' apply And.intro
    all_goals first
      | exact shownP
      | exact sendRoom (r := 0) rfl (.of rfl rfl (fun _ _ => rfl)) (by simp at hl ⊢ <;> omega) hs hk hd
      | exact rSendRoom (r := 0) rfl (.of rfl rfl (fun _ _ => rfl)) (by simp at hl ⊢ <;> omega) hs hk hd
      | exact takeSome (r := 0) rfl (.of rfl rfl (fun _ _ => rfl)) (by simp at hl ⊢ <;> omega) hk
      | exact rTakeSome (r := 0) rfl (.of rfl rfl (fun _ _ => rfl)) (by simp at hl ⊢ <;> omega) hk
      | exact rSameP (r := 2) (q := 3) (L := ((x :: M) ++ [(now, body)])) (M := ((x :: M) ++ [(now, body)])) rfl (.of rfl rfl (fun _ _ => rfl)) rfl (.of rfl rfl (fun _ _ => rfl)) (by simp at hl ⊢ <;> omega) (by simp [same_refl])
      | exact rSameP (r := 4) (q := 5) (L := M) (M := M) rfl (.of rfl rfl (fun _ _ => rfl)) rfl (.of rfl rfl (fun _ _ => rfl)) (by simp at hl ⊢ <;> omega) (by simp [same_refl])
      | exact peekSome (r := 0) (L := (x :: M)) rfl (.of rfl rfl (fun _ _ => rfl)) (by simp)
      | exact waitsB (r := 0) rfl (.of rfl rfl (fun _ _ => rfl))
      | exact sameP (r := 0) (q := 1) rfl (.of rfl rfl (fun _ _ => rfl)) rfl (.of rfl rfl (fun _ _ => rfl)) (by simp at hl ⊢ <;> omega) hb
      | exact rSameP (r := 0) (q := 1) rfl (.of rfl rfl (fun _ _ => rfl)) rfl (.of rfl rfl (fun _ _ => rfl)) (by simp at hl ⊢ <;> omega) hb
      | exact sameP (r := 0) (q := 0) (L := (x :: M)) (M := (x :: M)) rfl (.of rfl rfl (fun _ _ => rfl)) rfl (.of rfl rfl (fun _ _ => rfl)) (by simp at hl ⊢ <;> omega) (by simp [same_refl])
      | exact beq_self_eq_true b
      | exact eqM_refl x
      | exact eqM_refl mm0
      | trivial
      | rfl
      | omega
      | ((try dsimp only [rowL, rowN]); simp only [beq_iff_eq, beq_eq_false_iff_ne, bne_iff_ne, bne_eq_false_iff_eq, decide_eq_true_eq, decide_eq_false_iff_not, ne_eq, Bool.not_eq_true', Bool.not_eq_false', Bool.not_eq_eq_eq_not, Bool.not_true, Bool.not_false, Option.some.injEq, Option.getD_some, Option.getD_none]; omega)
      | (simp; done)
      | (simp; omega)
  refine SG.ret tab_ok Try.func3 rfl ?_
  intro ρ w' v hm hv
  exact top_true hm hv rfl
end Go.Proofs.Ytecpnblhhjndgaa
