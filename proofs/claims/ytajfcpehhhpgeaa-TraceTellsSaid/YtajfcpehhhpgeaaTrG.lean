/- Traces: statements, on: rows, one behind the other. -/
import Derived.Test.YtajfcpehhhpgeaaTrF
namespace Go.Proofs.Ytajfcpehhhpgeaa
open Go.Sx Go.RowKit
set_option linter.unusedVariables false
set_option linter.unusedSimpArgs false
theorem join_row (L M : List E) (i : Nat) : eC ((L ++ M).getD i e0) = if i < L.length then (if i < 0 then ([][i]?).getD [] else eC (L.getD i e0)) else eC (M.getD (i - L.length) e0) := by
  simp only [List.getD_eq_getElem?_getD]
  by_cases h : i < L.length
  · rw [if_pos h, if_neg (Nat.not_lt_zero i), List.getElem?_append_left h]
  · rw [if_neg h, List.getElem?_append_right (by omega)]
theorem cnt_app (p : E → Bool) (L M : List E) : cntL p (L ++ M) = cntL p L + cntL p M := by
  unfold cntL; rw [List.filter_append, List.length_append]; omega
set_option maxHeartbeats 1000000 in
set_option maxRecDepth 100000 in
theorem joins_walk (w : World) (c c2 : Value) (L M : List E) (pid n : Int) (hrow : ∀ W' ρ, RowOk W' ρ w c (rowE L)) (hrow2 : ∀ W' ρ, RowOk W' ρ w c2 (rowE M)) (hl : L.length ≤ 1048576) (hl2 : M.length ≤ 1048576) :
    Calls Try.prog 4 #[.agg #[c, c2, .int .i64 pid, .int .u32 n]] w fun e w' => e = .returned (.bool true) ∧ Below w.heap.size w w' := by
  obtain ⟨A, cap, rfl, _⟩ := (hrow ⟨w, none, [], []⟩ ⟨fun _ => none, fun _ => none⟩).form
  obtain ⟨A2, cap2, rfl, _⟩ := (hrow2 ⟨w, none, [], []⟩ ⟨fun _ => none, fun _ => none⟩).form
  refine calls_top Try.func4 rfl [.slice A L.length cap, .slice A2 M.length cap2] [rowE L, rowE M] [.cv (.agg [.rs 0, .rs 1, .v (.int .i64 pid), .v (.int .u32 n)])] (.cons hrow rfl (.cons hrow2 rfl .nil)) ⟨rfl, trivial⟩ ?_
  clear hrow hrow2
  have hF : (L.filter (ofP pid)).length ≤ L.length := List.length_filter_le _ _
  have hG : (M.filter (ofP pid)).length ≤ M.length := List.length_filter_le _ _
  have hof1 := fun {W : Base} {B : List (Option (List At))} {Rs : List (Option Row)} {R : Row} (h1 : Rs[0]? = some (some R)) (h2 : RowLe R (rowE L)) => @ofT W B Rs 0 R L pid h1 h2 (by omega)
  have hof2 := fun {W : Base} {B : List (Option (List At))} {Rs : List (Option Row)} {R : Row} (h1 : Rs[1]? = some (some R)) (h2 : RowLe R (rowE M)) => @ofT W B Rs 1 R M pid h1 h2 (by omega)
  have hof3 := fun {W : Base} {B : List (Option (List At))} {Rs : List (Option Row)} {R : Row} (h1 : Rs[4]? = some (some R)) (h2 : RowLe R (rowE (L ++ M))) => (List.filter_append (p := ofP pid) L M) ▸ @ofT W B Rs 4 R (L ++ M) pid h1 h2 (by simp; omega)
  have hc := cnt_app (asP n) L M
  have he := cnt_app failP L M
  obtain ⟨a0, a1⟩ := cnt_nn (asP n) L
  obtain ⟨b0, b1⟩ := cnt_nn (asP n) M
  obtain ⟨c0, c1⟩ := cnt_nn failP L
  obtain ⟨d0, d1⟩ := cnt_nn failP M
  generalize L.filter (ofP pid) = FA at *
  generalize M.filter (ofP pid) = FB at *
  refine SG.walk tab_ok mx 400 [true, true] [hdB true, hdE FA, hdE FB, hdE (FA ++ FB), hdB true, hdInt (cntL (asP n) (L ++ M)), hdInt (cntL (asP n) L), hdInt (cntL (asP n) M), hdInt (cntL failP (L ++ M)), hdInt (cntL failP L), hdInt (cntL failP M)] ?_
  conv => whnf
  try dsimp only [rowL, rowN, growOk, hiN, fromL, tightN, maxOk]
  try simp (disch := omega) only [wI, wU64, wU32, wU8, Int.toNat_natCast, toNat_succ, toNat_pred, Int.reduceToNat, Option.getD_some, Option.getD_none, Nat.sub_zero, Nat.zero_add]
  refine ⟨?_, ?_⟩
  · repeat' apply And.intro
    all_goals first
      | exact shownE
      | exact hof1 rfl (.of rfl rfl (fun _ _ => rfl))
      | exact hof2 rfl (.of rfl rfl (fun _ _ => rfl))
      | exact hof3 rfl (.of rfl (by simp) (fun i _ => join_row L M i))
      | exact eventsT (r := 10) (q := 9) (L := FA ++ FB) rfl (.of rfl rfl (fun _ _ => rfl)) rfl (.of rfl (by simp) (fun i _ => join_row FA FB i)) (by simp; omega)
      | exact countT (r := 4) (L := L ++ M) rfl (.of rfl (by simp) (fun i _ => join_row L M i)) (by simp; omega)
      | exact countT (r := 0) rfl (.of rfl rfl (fun _ _ => rfl)) (by omega)
      | exact countT (r := 1) rfl (.of rfl rfl (fun _ _ => rfl)) (by omega)
      | exact errorsT (r := 4) (L := L ++ M) rfl (.of rfl (by simp) (fun i _ => join_row L M i)) (by simp; omega)
      | exact errorsT (r := 0) rfl (.of rfl rfl (fun _ _ => rfl)) (by omega)
      | exact errorsT (r := 1) rfl (.of rfl rfl (fun _ _ => rfl)) (by omega)
      | trivial
      | rfl
      | omega
      | ((try dsimp only [rowL, rowN]); simp only [beq_iff_eq, beq_eq_false_iff_ne, bne_iff_ne, bne_eq_false_iff_eq, decide_eq_true_eq, decide_eq_false_iff_not, ne_eq, Bool.not_eq_true', Bool.not_eq_false', Bool.not_eq_eq_eq_not, Bool.not_true, Bool.not_false, Option.some.injEq, Option.getD_some, Option.getD_none]; omega)
      | (simp; done)
      | (simp; omega)
  refine SG.ret tab_ok Try.func4 rfl ?_
  intro ρ w' v hm hv
  exact top_v hm hv (by simp [he])
end Go.Proofs.Ytajfcpehhhpgeaa
