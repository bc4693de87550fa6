/- Rows of pipes: statements: whatever pipes there are. -/
import Derived.Test.YtlhjlomfpgmdmaaPxD
import Derived.Test.YtlhjlomfpgmdmaaPxE
namespace Go.Proofs.Ytlhjlomfpgmdmaa
open Go.Sx Go.RowKit
set_option linter.unusedVariables false
set_option linter.unusedSimpArgs false
abbrev fdsC (p0 p1 p2 p3 : Int) (w0 w1 w2 w3 : Bool) : List At := [.v (.int .i64 p0), .v (.bool w0), .v (.int .i64 p1), .v (.bool w1), .v (.int .i64 p2), .v (.bool w2), .v (.int .i64 p3), .v (.bool w3)]
set_option maxHeartbeats 2000000 in
set_option maxRecDepth 100000 in
theorem rows_walk (w : World) (c : Value) (L : List PP) (p y p0 p1 p2 p3 : Int) (b w0 w1 w2 w3 : Bool) (hrow : ∀ W' ρ, RowOk W' ρ w c (rowP L)) (hl : L.length ≤ 4398046511000) (hp : -9223372036854775808 ≤ p) :
    Calls Try.prog 4 #[.agg #[c, .int .i64 p, .bool b, .int .i64 y, .int .i64 p0, .bool w0, .int .i64 p1, .bool w1, .int .i64 p2, .bool w2, .int .i64 p3, .bool w3]] w fun e w' => e = .returned (.bool true) ∧ Below w.heap.size w w' := by
  obtain ⟨A, cap, rfl, _⟩ := (hrow ⟨w, none, [], []⟩ ⟨fun _ => none, fun _ => none⟩).form
  refine calls_top Try.func4 rfl [.slice A L.length cap] [rowP L] [.cv (.agg (.rs 0 :: .v (.int .i64 p) :: .v (.bool b) :: .v (.int .i64 y) :: fdsC p0 p1 p2 p3 w0 w1 w2 w3))] (.cons hrow rfl .nil) ⟨rfl, trivial⟩ ?_
  clear hrow
  obtain ⟨q0, q1, q2, q3, n, e, x0, x1, x2, x3, hset, hrset, he, hn1, hn2⟩ := set_ex p0 p1 p2 p3 p w0 w1 w2 w3 b
  have hcl := cntL_len L p b y
  have hcp := fun {W : Base} {B : List (Option (List At))} {Rs : List (Option Row)} {R : Row} (h1 : Rs[0]? = some (some R)) (h2 : RowLe R (rowP L)) => @countP W B Rs 0 R L p y b h1 h2 (by omega) hp
  have hrc := fun {W : Base} {B : List (Option (List At))} {Rs : List (Option Row)} {R : Row} (h1 : Rs[0]? = some (some R)) (h2 : RowLe R (rowP L)) => @rCountP W B Rs 0 R L p y b h1 h2 (by omega)
  generalize cntL L p b y = C at *
  have hew : IntKind.i64.wrap e = e := by rcases he with rfl | rfl <;> rfl
  by_cases hfr : ∃ k, k < L.length ∧ Free (L.getD k pp0) ∧ ∀ j, j < k → ¬ Free (L.getD j pp0)
  · obtain ⟨k, hk, hf, hno⟩ := hfr
    have hSl : (L.set k pp1).length = L.length := by simp
    have hm1 := fun {W : Base} {B : List (Option (List At))} {Rs : List (Option Row)} {R : Row} (h1 : Rs[0]? = some (some R)) (h2 : RowLe R (rowP L)) => @makeAt W B Rs 0 R L k h1 h2 (by omega) (.inl ⟨k, rfl, hk, hf, hno⟩) hk
    have hm2 := fun {W : Base} {B : List (Option (List At))} {Rs : List (Option Row)} {R : Row} (h1 : Rs[0]? = some (some R)) (h2 : RowLe R (rowP L)) => @rMakeAt W B Rs 0 R L k h1 h2 (by omega) hf hno hk
    generalize L.set k pp1 = S at *
    refine SG.walk tab_ok mx 400 [true, true, true, true, true, true] [mkHd trueV [], mkHd (madeV (k + 1) 0) [newP S], mkHd (madeV (k + 1) 0) [newP S], mkHd (.tup [.agg (fdsC q0 q1 q2 q3 x0 x1 x2 x3), .one (.v (.int .i64 n)), .one (.v (.int .i64 e))]) [], mkHd (.tup [.agg (fdsC q0 q1 q2 q3 x0 x1 x2 x3), .one (.v (.int .i64 n)), .one (.v (.int .i64 e))]) [], mkHd trueV [], mkHd (rsV 0) [newP C], mkHd (rsV 0) [newP C], mkHd trueV []] ?_
    conv => whnf
    try dsimp only [rowL, rowN, growOk, hiN, fromL, tightN, maxOk]
    try simp (disch := omega) only [wI, wU64, wU32, wU8, Int.toNat_natCast, toNat_succ, toNat_pred, Int.reduceToNat, Option.getD_some, Option.getD_none, Nat.sub_zero, Nat.zero_add]
    refine ⟨?_, ?_⟩
    · repeat' apply And.intro
      all_goals first
        | exact shownX
        | exact hm1 rfl (.of rfl rfl (fun _ _ => rfl))
        | exact hm2 rfl (.of rfl rfl (fun _ _ => rfl))
        | exact hset
        | exact hrset
        | exact sameP (r := 1) (q := 2) (L := S) (M := S) rfl (.of rfl rfl (fun _ _ => rfl)) rfl (.of rfl rfl (fun _ _ => rfl)) (by omega) (by simp)
        | exact hcp rfl (.of rfl rfl (fun _ _ => rfl))
        | exact hrc rfl (.of rfl rfl (fun _ _ => rfl))
        | exact sameP (r := 3) (q := 4) (L := C) (M := C) rfl (.of rfl rfl (fun _ _ => rfl)) rfl (.of rfl rfl (fun _ _ => rfl)) (by omega) (by simp)
        | trivial
        | rfl
        | omega
        | ((try dsimp only [rowL, rowN]); simp only [beq_iff_eq, beq_eq_false_iff_ne, bne_iff_ne, bne_eq_false_iff_eq, decide_eq_true_eq, decide_eq_false_iff_not, ne_eq, Bool.not_eq_true', Bool.not_eq_false', Bool.not_eq_eq_eq_not, Bool.not_true, Bool.not_false, Option.some.injEq, Option.getD_some, Option.getD_none]; omega)
        | (simp; done)
        | (simp; omega)
    refine SG.ret tab_ok Try.func4 rfl ?_
    intro ρ w' v hm hv
    exact top_v hm hv (by simp [hew])
  · have hno : ∀ j, j < L.length → ¬ Free (L.getD j pp0) := by
      intro j
      induction j using Nat.strongRecOn with
      | _ j ih => exact fun hj hf => hfr ⟨j, hj, hf, fun i hi => ih i hi (by omega)⟩
    by_cases h4 : 4 ≤ L.length
    · have hm1 := fun {W : Base} {B : List (Option (List At))} {Rs : List (Option Row)} {R : Row} (h1 : Rs[0]? = some (some R)) (h2 : RowLe R (rowP L)) => @makeFull W B Rs 0 R L h1 h2 (by omega) h4 (.inr ⟨rfl, hno⟩)
      refine SG.walk tab_ok mx 400 [true, true, true, true, true, true] [mkHd trueV [], mkHd (madeV 0 5) [newP L], hdBackM 0, mkHd (.tup [.agg (fdsC q0 q1 q2 q3 x0 x1 x2 x3), .one (.v (.int .i64 n)), .one (.v (.int .i64 e))]) [], mkHd (.tup [.agg (fdsC q0 q1 q2 q3 x0 x1 x2 x3), .one (.v (.int .i64 n)), .one (.v (.int .i64 e))]) [], mkHd trueV [], mkHd (rsV 0) [newP C], mkHd (rsV 0) [newP C], mkHd trueV []] ?_
      conv => whnf
      try dsimp only [rowL, rowN, growOk, hiN, fromL, tightN, maxOk]
      try simp (disch := omega) only [wI, wU64, wU32, wU8, Int.toNat_natCast, toNat_succ, toNat_pred, Int.reduceToNat, Option.getD_some, Option.getD_none, Nat.sub_zero, Nat.zero_add]
      refine ⟨?_, ?_⟩
      · repeat' apply And.intro
        all_goals first
          | exact shownX
          | exact hm1 rfl (.of rfl rfl (fun _ _ => rfl))
          | exact rMakeFull (r := 0) rfl (.of rfl rfl (fun _ _ => rfl)) (by omega) h4 hno
          | exact hset
          | exact hrset
          | exact sameP (r := 1) (q := 0) (L := L) (M := L) rfl (.of rfl rfl (fun _ _ => rfl)) rfl (.of rfl rfl (fun _ _ => rfl)) (by omega) (by simp)
          | exact hcp rfl (.of rfl rfl (fun _ _ => rfl))
          | exact hrc rfl (.of rfl rfl (fun _ _ => rfl))
          | exact sameP (r := 2) (q := 3) (L := C) (M := C) rfl (.of rfl rfl (fun _ _ => rfl)) rfl (.of rfl rfl (fun _ _ => rfl)) (by omega) (by simp)
          | trivial
          | rfl
          | omega
          | ((try dsimp only [rowL, rowN]); simp only [beq_iff_eq, beq_eq_false_iff_ne, bne_iff_ne, bne_eq_false_iff_eq, decide_eq_true_eq, decide_eq_false_iff_not, ne_eq, Bool.not_eq_true', Bool.not_eq_false', Bool.not_eq_eq_eq_not, Bool.not_true, Bool.not_false, Option.some.injEq, Option.getD_some, Option.getD_none]; omega)
          | (simp; done)
          | (simp; omega)
      refine SG.ret tab_ok Try.func4 rfl ?_
      intro ρ w' v hm hv
      exact top_v hm hv (by simp [hew])
    · have hm1 := fun {W : Base} {B : List (Option (List At))} {Rs : List (Option Row)} {R : Row} (h1 : Rs[0]? = some (some R)) (h2 : RowLe R (rowP L)) => @makeNew W B Rs 0 R L h1 h2 (by omega) (.inr ⟨rfl, hno⟩)
      have hm2 := fun {W : Base} {B : List (Option (List At))} {Rs : List (Option Row)} {R : Row} (h1 : Rs[0]? = some (some R)) (h2 : RowLe R (rowP L)) => @rMakeNew W B Rs 0 R L h1 h2 (by omega) hno
      have hSl : (L ++ [pp1]).length = L.length + 1 := by simp
      generalize L ++ [pp1] = S at *
      refine SG.walk tab_ok mx 400 [true, true, true, true, true, true] [mkHd trueV [], mkHd (madeV ((L.length + 1 : Nat) : Int) 0) [newP S], mkHd (madeV ((L.length + 1 : Nat) : Int) 0) [newP S], mkHd (.tup [.agg (fdsC q0 q1 q2 q3 x0 x1 x2 x3), .one (.v (.int .i64 n)), .one (.v (.int .i64 e))]) [], mkHd (.tup [.agg (fdsC q0 q1 q2 q3 x0 x1 x2 x3), .one (.v (.int .i64 n)), .one (.v (.int .i64 e))]) [], mkHd trueV [], mkHd (rsV 0) [newP C], mkHd (rsV 0) [newP C], mkHd trueV []] ?_
      conv => whnf
      try dsimp only [rowL, rowN, growOk, hiN, fromL, tightN, maxOk]
      try simp (disch := omega) only [wI, wU64, wU32, wU8, Int.toNat_natCast, toNat_succ, toNat_pred, Int.reduceToNat, Option.getD_some, Option.getD_none, Nat.sub_zero, Nat.zero_add]
      refine ⟨?_, ?_⟩
      · repeat' apply And.intro
        all_goals first
          | exact shownX
          | exact hm1 rfl (.of rfl rfl (fun _ _ => rfl))
          | exact hm2 rfl (.of rfl rfl (fun _ _ => rfl))
          | exact hset
          | exact hrset
          | exact sameP (r := 1) (q := 2) (L := S) (M := S) rfl (.of rfl rfl (fun _ _ => rfl)) rfl (.of rfl rfl (fun _ _ => rfl)) (by omega) (by simp)
          | exact hcp rfl (.of rfl rfl (fun _ _ => rfl))
          | exact hrc rfl (.of rfl rfl (fun _ _ => rfl))
          | exact sameP (r := 3) (q := 4) (L := C) (M := C) rfl (.of rfl rfl (fun _ _ => rfl)) rfl (.of rfl rfl (fun _ _ => rfl)) (by omega) (by simp)
          | trivial
          | rfl
          | omega
          | ((try dsimp only [rowL, rowN]); simp only [beq_iff_eq, beq_eq_false_iff_ne, bne_iff_ne, bne_eq_false_iff_eq, decide_eq_true_eq, decide_eq_false_iff_not, ne_eq, Bool.not_eq_true', Bool.not_eq_false', Bool.not_eq_eq_eq_not, Bool.not_true, Bool.not_false, Option.some.injEq, Option.getD_some, Option.getD_none]; omega)
          | (simp; done)
          | (simp; omega)
      refine SG.ret tab_ok Try.func4 rfl ?_
      intro ρ w' v hm hv
      exact top_v hm hv (by simp [hew])
end Go.Proofs.Ytlhjlomfpgmdmaa
