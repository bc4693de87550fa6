/- Traces: statements. -/
import Derived.Test.YtajfcpehhhpgeaaTrC
import Derived.Test.YtajfcpehhhpgeaaSxR
namespace Go.Proofs.Ytajfcpehhhpgeaa
open Go.Sx Go.RowKit
set_option linter.unusedVariables false
set_option linter.unusedSimpArgs false
/-- Numbers as they may be. -/
def okE (x : E) : Prop := (0 ≤ x.r ∧ x.r ≤ 4294967295) ∧ 0 ≤ x.at_ ∧ x.at_ ≤ 18446744073709551615
theorem wI' {n : Int} (h0 : -9223372036854775808 ≤ n) (h1 : n ≤ 9223372036854775807) : IntKind.i64.wrap n = n := by
  rw [IntKind.wrap_i64]; omega
theorem ris_b (L : List E) : ∃ b : Bool, b = true ↔ Ris L := by
  rcases Classical.em (Ris L) with h | h
  · exact ⟨true, by simp [h]⟩
  · exact ⟨false, by simp [h]⟩
section
variable {W : Base} {B : List (Option (List At))} {Rs : List (Option Row)}
set_option maxRecDepth 100000 in
theorem errorsT {r : Nat} {R : Row} {L : List E} (hr : Rs[r]? = some (some R)) (hR : RowLe R (rowE L)) (hl : L.length ≤ 5864062014700) :
    CallOk Try.prog W B Rs 17 [rsV r] (hdInt (cntL failP L)) := by
  refine CallOk.enter Try.func17 (by kernel_rfl) rfl [r] [rowE L] [rsV 0] rfl (rows1 (.ro_ hr hR rfl rfl (fun _ _ => rfl))) (fun r h => by cases h) rfl rfl ?_
  intro w blk hblk
  refine SG.walk tab_ok mx 400 [] [hdInt (cntL failP L)] ?_
  conv => whnf
  try dsimp only [rowL, rowN, growOk, hiN, fromL, tightN, maxOk]
  try simp (disch := omega) only [wI, wU64, wU32, wU8, Int.toNat_natCast, toNat_succ, toNat_pred, Int.reduceToNat, Option.getD_some, Option.getD_none, Nat.sub_zero, Nat.zero_add]
  refine ⟨?_, ?_⟩
  · exact sumT (r := 0) (g := 28) (pre := []) (.inl ⟨rfl, rfl⟩) (fun {W B Rs x} => refusedV) rfl (.of rfl rfl (fun _ _ => rfl)) hl
  refine SG.ret tab_ok Try.func17 rfl ?_
  intro ρ w' v hm hv
  exact Post.mk hm (intV (cntL failP L)) [] none [] hv rfl rows0 rfl (by simp)
set_option maxRecDepth 100000 in
theorem countT {r : Nat} {R : Row} {L : List E} {n : Int} (hr : Rs[r]? = some (some R)) (hR : RowLe R (rowE L)) (hl : L.length ≤ 5864062014700) :
    CallOk Try.prog W B Rs 21 [rsV r, u32V n] (hdInt (cntL (asP n) L)) := by
  refine CallOk.enter Try.func21 (by kernel_rfl) rfl [r] [rowE L] [rsV 0, u32V n] rfl (rows1 (.ro_ hr hR rfl rfl (fun _ _ => rfl))) (fun r h => by cases h) rfl rfl ?_
  intro w blk hblk
  refine SG.walk tab_ok mx 400 [] [hdInt (cntL (asP n) L)] ?_
  conv => whnf
  try dsimp only [rowL, rowN, growOk, hiN, fromL, tightN, maxOk]
  try simp (disch := omega) only [wI, wU64, wU32, wU8, Int.toNat_natCast, toNat_succ, toNat_pred, Int.reduceToNat, Option.getD_some, Option.getD_none, Nat.sub_zero, Nat.zero_add]
  refine ⟨?_, ?_⟩
  · exact sumT (r := 0) (g := 30) (pre := [u32V n]) (.inr ⟨n, rfl, rfl⟩) (fun {W B Rs x} => askedT) rfl (.of rfl rfl (fun _ _ => rfl)) hl
  refine SG.ret tab_ok Try.func21 rfl ?_
  intro ρ w' v hm hv
  exact Post.mk hm (intV (cntL (asP n) L)) [] none [] hv rfl rows0 rfl (by simp)
set_option maxRecDepth 100000 in
theorem shownE : CallOk Try.prog W B Rs 9 [] (hdB true) := by
  refine CallOk.enter Try.func9 (by kernel_rfl) rfl [] [] [] rfl rows0 (fun r h => by cases h) rfl rfl ?_
  intro w blk hblk
  refine SG.walk tab_ok mx 400 [] [hdU 5] ?_
  conv => whnf
  try dsimp only [rowL, rowN, growOk, hiN, fromL, tightN, maxOk]
  try simp (disch := omega) only [wI, wU64, wU32, wU8, Int.toNat_natCast, toNat_succ, toNat_pred, Int.reduceToNat, Option.getD_some, Option.getD_none, Nat.sub_zero, Nat.zero_add]
  refine ⟨?_, ?_⟩
  · repeat' apply And.intro
    all_goals first
      | exact (show (gs 1 [⟨1, 0, 0, 3⟩, ⟨1, 0, 0, 8⟩] 2).1 = 5 by decide) ▸ gapT (r := 0) (L := [⟨1, 0, 0, 3⟩, ⟨1, 0, 0, 8⟩]) rfl (.of rfl rfl (fun i hi => by match i, hi with | 0, _ => rfl | 1, _ => rfl)) (by decide)
      | trivial
      | rfl
      | omega
      | ((try dsimp only [rowL, rowN]); simp only [beq_iff_eq, beq_eq_false_iff_ne, bne_iff_ne, bne_eq_false_iff_eq, decide_eq_true_eq, decide_eq_false_iff_not, ne_eq, Bool.not_eq_true', Bool.not_eq_false', Bool.not_eq_eq_eq_not, Bool.not_true, Bool.not_false, Option.some.injEq, Option.getD_some, Option.getD_none]; omega)
      | (simp; done)
      | (simp; omega)
  refine SG.ret tab_ok Try.func9 rfl ?_
  intro ρ w' v hm hv
  exact Post.mk hm (.cv (.one (.lb true))) [] none [] hv rfl rows0 rfl (by simp)
end
set_option maxRecDepth 100000 in
theorem tells_walk (w : World) (c : Value) (L : List E) (pid t n : Int) (hok : ∀ x ∈ L, okE x) (hrow : ∀ W' ρ, RowOk W' ρ w c (rowE L)) (hl : L.length ≤ 5864062014650) :
    Calls Try.prog 3 #[.agg #[c, .int .i64 pid, .int .u64 t, .int .u32 n]] w fun e w' => e = .returned (.bool true) ∧ Below w.heap.size w w' := by
  obtain ⟨A, cap, rfl, _⟩ := (hrow ⟨w, none, [], []⟩ ⟨fun _ => none, fun _ => none⟩).form
  refine calls_top Try.func3 rfl [.slice A L.length cap] [rowE L] [.cv (.agg [.rs 0, .v (.int .i64 pid), .v (.int .u64 t), .v (.int .u32 n)])] (.cons hrow rfl .nil) ⟨rfl, trivial⟩ ?_
  clear hrow
  obtain ⟨b, hb⟩ := ris_b L
  have hF : (L.filter (ofP pid)).length ≤ L.length := List.length_filter_le _ _
  have hU : (L.takeWhile (ltP t)).length ≤ L.length := (List.takeWhile_sublist _).length_le
  refine SG.walk tab_ok mx 400 [true, true, true, true, true, true, true] [hdB true, hdE (L.filter (ofP pid)), hdE (L.filter (ofP pid)), hdB true, hdE (L.takeWhile (ltP t)), hdE (L.takeWhile (ltP t)), hdB true, hdB b, hdB b, hdInt (cntL failP L), hdInt (cntL failP L), hdU (gs pid L L.length).1, hdU (gs pid L L.length).1, hdInt (cntL (asP n) L), hdInt (cntL (asP n) L)] ?_
  conv => whnf
  try dsimp only [rowL, rowN, growOk, hiN, fromL, tightN, maxOk]
  try simp (disch := omega) only [wI, wU64, wU32, wU8, Int.toNat_natCast, toNat_succ, toNat_pred, Int.reduceToNat, Option.getD_some, Option.getD_none, Nat.sub_zero, Nat.zero_add]
  refine ⟨?_, ?_⟩
  · repeat' apply And.intro
    all_goals first
      | exact shownE
      | exact ofT (r := 0) rfl (.of rfl rfl (fun _ _ => rfl)) (by omega)
      | exact rOfT (r := 0) rfl (.of rfl rfl (fun _ _ => rfl)) (by omega)
      | exact eventsT (r := 1) (q := 2) (L := L.filter (ofP pid)) rfl (.of rfl rfl (fun _ _ => rfl)) rfl (.of rfl rfl (fun _ _ => rfl)) (by omega)
      | exact untilT (r := 0) rfl (.of rfl rfl (fun _ _ => rfl)) (by omega)
      | exact rUntilT (r := 0) rfl (.of rfl rfl (fun _ _ => rfl)) (by omega)
      | exact eventsT (r := 3) (q := 4) (L := L.takeWhile (ltP t)) rfl (.of rfl rfl (fun _ _ => rfl)) rfl (.of rfl rfl (fun _ _ => rfl)) (by omega)
      | exact risesT (r := 0) rfl (.of rfl rfl (fun _ _ => rfl)) (by omega) (fun x hx => (hok x hx).2.1) hb
      | exact rRisesT (r := 0) rfl (.of rfl rfl (fun _ _ => rfl)) (by omega) hb
      | exact errorsT (r := 0) rfl (.of rfl rfl (fun _ _ => rfl)) (by omega)
      | exact rErrorsT (r := 0) rfl (.of rfl rfl (fun _ _ => rfl)) (by omega) (fun x hx => (hok x hx).1)
      | exact gapT (r := 0) rfl (.of rfl rfl (fun _ _ => rfl)) (by omega)
      | exact rGapT (r := 0) rfl (.of rfl rfl (fun _ _ => rfl)) (by omega)
      | exact countT (r := 0) rfl (.of rfl rfl (fun _ _ => rfl)) (by omega)
      | exact rCountT (r := 0) rfl (.of rfl rfl (fun _ _ => rfl)) (by omega)
      | exact beq_self_eq_true b
      | trivial
      | rfl
      | omega
      | ((try dsimp only [rowL, rowN]); simp only [beq_iff_eq, beq_eq_false_iff_ne, bne_iff_ne, bne_eq_false_iff_eq, decide_eq_true_eq, decide_eq_false_iff_not, ne_eq, Bool.not_eq_true', Bool.not_eq_false', Bool.not_eq_eq_eq_not, Bool.not_true, Bool.not_false, Option.some.injEq, Option.getD_some, Option.getD_none]; omega)
      | (simp; done)
      | (simp; omega)
  refine SG.ret tab_ok Try.func3 rfl ?_
  intro ρ w' v hm hv
  exact top_v hm hv (by simp)
end Go.Proofs.Ytajfcpehhhpgeaa
