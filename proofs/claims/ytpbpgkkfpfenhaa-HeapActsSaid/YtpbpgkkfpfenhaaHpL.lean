/- Heaps: statements: whatever heap there is. -/
import Derived.Test.YtpbpgkkfpfenhaaHpK
namespace Go.Proofs.Ytpbpgkkfpfenhaa
open Go.Sx Go.RowKit
set_option linter.unusedVariables false
set_option linter.unusedSimpArgs false
set_option maxHeartbeats 4000000 in
set_option maxRecDepth 100000 in
theorem h_argNeg_yes (w : World) (c : Value) (L : List E) (sz n who : Int) (hn0 : n < 0) (he : L.any (atB n) = true) (hs : sz ≤ 9223372036854775807) (hrow : ∀ W' ρ, RowOk W' ρ w c (rowE L)) (hl : L.length ≤ 5864062014650) :
    Calls Try.prog 3 #[.agg #[.int .i64 sz, c], .int .i64 n, .int .i64 who] w fun e w' => e = .returned (.bool true) ∧ Below w.heap.size w w' := by
  obtain ⟨A, cap, rfl, _⟩ := (hrow ⟨w, none, [], []⟩ ⟨fun _ => none, fun _ => none⟩).form
  refine calls_top Try.func3 rfl [.slice A L.length cap] [rowE L] [heapV 0 sz, intV n, intV who] (.cons hrow rfl .nil) ⟨rfl, rfl, rfl, trivial⟩ ?_
  clear hrow
  have hfl : (freeL n L).length ≤ L.length := List.length_eraseP_le
  have hdl : (dropL who L).length ≤ L.length := List.length_filter_le _ _
  obtain ⟨b, hb⟩ := rt_b sz L
  have hhl := hol_len b sz L
  have ht : n < 1 ∨ ¬ Rt sz L := .inl (by omega)
  refine SG.walk tab_ok mx 400 [true, true, true, true, true, true, true, true] [hdB true, hdTake sz 0 1 L, hdBackT 0 sz 1, hdFree sz 0 (freeL n L), hdFree2 sz 0 (freeL n L), hdNew 0 1, hdNew 0 1, hdB true, hdB true, hdB true, hdHeap sz (dropL who L), hdHeap sz (dropL who L), hdB true, hdE (hol b sz L), hdE (hol b sz L), hdB true, hdInt (sumN (hol b sz L)), hdInt (sumN (hol b sz L)), hdB b, hdB b] ?_
  conv => whnf
  try dsimp only [rowL, rowN, growOk, hiN, fromL, tightN, maxOk]
  try simp (disch := omega) only [wI, wU64, wU32, wU8, Int.toNat_natCast, toNat_succ, toNat_pred, Int.reduceToNat, Option.getD_some, Option.getD_none, Nat.sub_zero, Nat.zero_add]
  refine ⟨?_, ?_⟩
  · repeat' apply And.intro
    all_goals first
      | exact shownE
      | exact takeArg (r := 0) rfl (.of rfl rfl (fun _ _ => rfl)) (by omega) hs ht
      | exact rTakeArg (r := 0) rfl (.of rfl rfl (fun _ _ => rfl)) (by omega) hs hb ht
      | exact freeM (r := 0) rfl (.of rfl rfl (fun _ _ => rfl)) (by omega) (by rw [he]; rfl) rfl
      | exact rFreeOk (r := 0) rfl (.of rfl rfl (fun _ _ => rfl)) (by omega) he
      | exact newM0 hn0
      | exact newN0 hn0
      | exact rSame (r := 1) (q := 0) (L := L) (M := L) rfl (.of rfl rfl (fun _ _ => rfl)) rfl (.of rfl rfl (fun _ _ => rfl)) (by omega) rfl rfl
      | exact rSame (r := 2) (q := 3) (L := (freeL n L)) (M := (freeL n L)) rfl (.of rfl rfl (fun _ _ => rfl)) rfl (.of rfl rfl (fun _ _ => rfl)) (by omega) rfl rfl
      | exact rSame (r := 4) (q := 5) (L := []) (M := []) rfl (.of rfl rfl (fun _ _ => rfl)) rfl (.of rfl rfl (fun _ _ => rfl)) (by simp) rfl rfl
      | exact dropH (r := 0) rfl (.of rfl rfl (fun _ _ => rfl)) (by omega)
      | exact rDrop (r := 0) rfl (.of rfl rfl (fun _ _ => rfl)) (by omega)
      | exact rSame (r := 6) (q := 7) (L := dropL who L) (M := dropL who L) rfl (.of rfl rfl (fun _ _ => rfl)) rfl (.of rfl rfl (fun _ _ => rfl)) (by omega) rfl rfl
      | exact holesB (r := 0) rfl (.of rfl rfl (fun _ _ => rfl)) (by omega) hs hb
      | exact rHolesB (r := 0) rfl (.of rfl rfl (fun _ _ => rfl)) (by omega) hs hb
      | exact rSpans (r := 8) (q := 9) (L := hol b sz L) (M := hol b sz L) rfl (.of rfl rfl (fun _ _ => rfl)) rfl (.of rfl rfl (fun _ _ => rfl)) (by omega) (by simp)
      | exact leftH (r := 0) rfl (.of rfl rfl (fun _ _ => rfl)) (by omega) hs hb
      | exact rLeft (r := 0) rfl (.of rfl rfl (fun _ _ => rfl)) (by omega) hs hb
      | exact rightH (r := 0) rfl (.of rfl rfl (fun _ _ => rfl)) (by omega) hs hb
      | exact rRight (r := 0) rfl (.of rfl rfl (fun _ _ => rfl)) (by omega) hs hb
      | exact beq_self_eq_true b
      | trivial
      | rfl
      | omega
      | ((try dsimp only [rowL, rowN]); simp only [beq_iff_eq, beq_eq_false_iff_ne, bne_iff_ne, bne_eq_false_iff_eq, decide_eq_true_eq, decide_eq_false_iff_not, ne_eq, Bool.not_eq_true', Bool.not_eq_false', Bool.not_eq_eq_eq_not, Bool.not_true, Bool.not_false, Option.some.injEq, Option.getD_some, Option.getD_none]; omega)
      | (simp; done)
      | (simp; omega)
  refine SG.ret tab_ok Try.func3 rfl ?_
  intro ρ w' v hm hv
  exact top_v hm hv (by simp)
set_option maxHeartbeats 4000000 in
set_option maxRecDepth 100000 in
theorem h_argNeg_no (w : World) (c : Value) (L : List E) (sz n who : Int) (hn0 : n < 0) (he : L.any (atB n) = false) (hs : sz ≤ 9223372036854775807) (hrow : ∀ W' ρ, RowOk W' ρ w c (rowE L)) (hl : L.length ≤ 5864062014650) :
    Calls Try.prog 3 #[.agg #[.int .i64 sz, c], .int .i64 n, .int .i64 who] w fun e w' => e = .returned (.bool true) ∧ Below w.heap.size w w' := by
  obtain ⟨A, cap, rfl, _⟩ := (hrow ⟨w, none, [], []⟩ ⟨fun _ => none, fun _ => none⟩).form
  refine calls_top Try.func3 rfl [.slice A L.length cap] [rowE L] [heapV 0 sz, intV n, intV who] (.cons hrow rfl .nil) ⟨rfl, rfl, rfl, trivial⟩ ?_
  clear hrow
  have hfl : (freeL n L).length ≤ L.length := List.length_eraseP_le
  have hdl : (dropL who L).length ≤ L.length := List.length_filter_le _ _
  obtain ⟨b, hb⟩ := rt_b sz L
  have hhl := hol_len b sz L
  have ht : n < 1 ∨ ¬ Rt sz L := .inl (by omega)
  have hfr : freeL n L = L := er_id he
  refine SG.walk tab_ok mx 400 [true, true, true, true, true, true, true, true] [hdB true, hdTake sz 0 1 L, hdBackT 0 sz 1, hdFree sz 7 L, hdBackF 0 sz 7, hdNew 0 1, hdNew 0 1, hdB true, hdB true, hdB true, hdHeap sz (dropL who L), hdHeap sz (dropL who L), hdB true, hdE (hol b sz L), hdE (hol b sz L), hdB true, hdInt (sumN (hol b sz L)), hdInt (sumN (hol b sz L)), hdB b, hdB b] ?_
  conv => whnf
  try dsimp only [rowL, rowN, growOk, hiN, fromL, tightN, maxOk]
  try simp (disch := omega) only [wI, wU64, wU32, wU8, Int.toNat_natCast, toNat_succ, toNat_pred, Int.reduceToNat, Option.getD_some, Option.getD_none, Nat.sub_zero, Nat.zero_add]
  refine ⟨?_, ?_⟩
  · repeat' apply And.intro
    all_goals first
      | exact shownE
      | exact takeArg (r := 0) rfl (.of rfl rfl (fun _ _ => rfl)) (by omega) hs ht
      | exact rTakeArg (r := 0) rfl (.of rfl rfl (fun _ _ => rfl)) (by omega) hs hb ht
      | exact freeM (r := 0) rfl (.of rfl rfl (fun _ _ => rfl)) (by omega) (by rw [he]; rfl) hfr
      | exact rFreeNo (r := 0) rfl (.of rfl rfl (fun _ _ => rfl)) (by omega) he
      | exact newM0 hn0
      | exact newN0 hn0
      | exact rSame (r := 1) (q := 0) (L := L) (M := L) rfl (.of rfl rfl (fun _ _ => rfl)) rfl (.of rfl rfl (fun _ _ => rfl)) (by omega) rfl rfl
      | exact rSame (r := 2) (q := 0) (L := L) (M := L) rfl (.of rfl rfl (fun _ _ => rfl)) rfl (.of rfl rfl (fun _ _ => rfl)) (by omega) rfl rfl
      | exact rSame (r := 3) (q := 4) (L := []) (M := []) rfl (.of rfl rfl (fun _ _ => rfl)) rfl (.of rfl rfl (fun _ _ => rfl)) (by simp) rfl rfl
      | exact dropH (r := 0) rfl (.of rfl rfl (fun _ _ => rfl)) (by omega)
      | exact rDrop (r := 0) rfl (.of rfl rfl (fun _ _ => rfl)) (by omega)
      | exact rSame (r := 5) (q := 6) (L := dropL who L) (M := dropL who L) rfl (.of rfl rfl (fun _ _ => rfl)) rfl (.of rfl rfl (fun _ _ => rfl)) (by omega) rfl rfl
      | exact holesB (r := 0) rfl (.of rfl rfl (fun _ _ => rfl)) (by omega) hs hb
      | exact rHolesB (r := 0) rfl (.of rfl rfl (fun _ _ => rfl)) (by omega) hs hb
      | exact rSpans (r := 7) (q := 8) (L := hol b sz L) (M := hol b sz L) rfl (.of rfl rfl (fun _ _ => rfl)) rfl (.of rfl rfl (fun _ _ => rfl)) (by omega) (by simp)
      | exact leftH (r := 0) rfl (.of rfl rfl (fun _ _ => rfl)) (by omega) hs hb
      | exact rLeft (r := 0) rfl (.of rfl rfl (fun _ _ => rfl)) (by omega) hs hb
      | exact rightH (r := 0) rfl (.of rfl rfl (fun _ _ => rfl)) (by omega) hs hb
      | exact rRight (r := 0) rfl (.of rfl rfl (fun _ _ => rfl)) (by omega) hs hb
      | exact beq_self_eq_true b
      | trivial
      | rfl
      | omega
      | ((try dsimp only [rowL, rowN]); simp only [beq_iff_eq, beq_eq_false_iff_ne, bne_iff_ne, bne_eq_false_iff_eq, decide_eq_true_eq, decide_eq_false_iff_not, ne_eq, Bool.not_eq_true', Bool.not_eq_false', Bool.not_eq_eq_eq_not, Bool.not_true, Bool.not_false, Option.some.injEq, Option.getD_some, Option.getD_none]; omega)
      | (simp; done)
      | (simp; omega)
  refine SG.ret tab_ok Try.func3 rfl ?_
  intro ρ w' v hm hv
  exact top_v hm hv (by simp)
set_option maxHeartbeats 4000000 in
set_option maxRecDepth 100000 in
theorem h_argPos_yes (w : World) (c : Value) (L : List E) (sz n who : Int) (hn0 : ¬ n < 0) (ht : n < 1 ∨ ¬ Rt sz L) (he : L.any (atB n) = true) (hs : sz ≤ 9223372036854775807) (hrow : ∀ W' ρ, RowOk W' ρ w c (rowE L)) (hl : L.length ≤ 5864062014650) :
    Calls Try.prog 3 #[.agg #[.int .i64 sz, c], .int .i64 n, .int .i64 who] w fun e w' => e = .returned (.bool true) ∧ Below w.heap.size w w' := by
  obtain ⟨A, cap, rfl, _⟩ := (hrow ⟨w, none, [], []⟩ ⟨fun _ => none, fun _ => none⟩).form
  refine calls_top Try.func3 rfl [.slice A L.length cap] [rowE L] [heapV 0 sz, intV n, intV who] (.cons hrow rfl .nil) ⟨rfl, rfl, rfl, trivial⟩ ?_
  clear hrow
  have hfl : (freeL n L).length ≤ L.length := List.length_eraseP_le
  have hdl : (dropL who L).length ≤ L.length := List.length_filter_le _ _
  obtain ⟨b, hb⟩ := rt_b sz L
  have hhl := hol_len b sz L
  refine SG.walk tab_ok mx 400 [true, true, true, true, true, true, true, true] [hdB true, hdTake sz 0 1 L, hdBackT 0 sz 1, hdFree sz 0 (freeL n L), hdFree2 sz 0 (freeL n L), hdNew n 0, hdNew n 0, hdB true, hdB true, hdB true, hdHeap sz (dropL who L), hdHeap sz (dropL who L), hdB true, hdE (hol b sz L), hdE (hol b sz L), hdB true, hdInt (sumN (hol b sz L)), hdInt (sumN (hol b sz L)), hdB b, hdB b] ?_
  conv => whnf
  try dsimp only [rowL, rowN, growOk, hiN, fromL, tightN, maxOk]
  try simp (disch := omega) only [wI, wU64, wU32, wU8, Int.toNat_natCast, toNat_succ, toNat_pred, Int.reduceToNat, Option.getD_some, Option.getD_none, Nat.sub_zero, Nat.zero_add]
  refine ⟨?_, ?_⟩
  · repeat' apply And.intro
    all_goals first
      | exact shownE
      | exact takeArg (r := 0) rfl (.of rfl rfl (fun _ _ => rfl)) (by omega) hs ht
      | exact rTakeArg (r := 0) rfl (.of rfl rfl (fun _ _ => rfl)) (by omega) hs hb ht
      | exact freeM (r := 0) rfl (.of rfl rfl (fun _ _ => rfl)) (by omega) (by rw [he]; rfl) rfl
      | exact rFreeOk (r := 0) rfl (.of rfl rfl (fun _ _ => rfl)) (by omega) he
      | exact newR hn0
      | exact newN hn0
      | exact rSame (r := 1) (q := 0) (L := L) (M := L) rfl (.of rfl rfl (fun _ _ => rfl)) rfl (.of rfl rfl (fun _ _ => rfl)) (by omega) rfl rfl
      | exact rSame (r := 2) (q := 3) (L := (freeL n L)) (M := (freeL n L)) rfl (.of rfl rfl (fun _ _ => rfl)) rfl (.of rfl rfl (fun _ _ => rfl)) (by omega) rfl rfl
      | exact rSame (r := 4) (q := 5) (L := []) (M := []) rfl (.of rfl rfl (fun _ _ => rfl)) rfl (.of rfl rfl (fun _ _ => rfl)) (by simp) rfl rfl
      | exact dropH (r := 0) rfl (.of rfl rfl (fun _ _ => rfl)) (by omega)
      | exact rDrop (r := 0) rfl (.of rfl rfl (fun _ _ => rfl)) (by omega)
      | exact rSame (r := 6) (q := 7) (L := dropL who L) (M := dropL who L) rfl (.of rfl rfl (fun _ _ => rfl)) rfl (.of rfl rfl (fun _ _ => rfl)) (by omega) rfl rfl
      | exact holesB (r := 0) rfl (.of rfl rfl (fun _ _ => rfl)) (by omega) hs hb
      | exact rHolesB (r := 0) rfl (.of rfl rfl (fun _ _ => rfl)) (by omega) hs hb
      | exact rSpans (r := 8) (q := 9) (L := hol b sz L) (M := hol b sz L) rfl (.of rfl rfl (fun _ _ => rfl)) rfl (.of rfl rfl (fun _ _ => rfl)) (by omega) (by simp)
      | exact leftH (r := 0) rfl (.of rfl rfl (fun _ _ => rfl)) (by omega) hs hb
      | exact rLeft (r := 0) rfl (.of rfl rfl (fun _ _ => rfl)) (by omega) hs hb
      | exact rightH (r := 0) rfl (.of rfl rfl (fun _ _ => rfl)) (by omega) hs hb
      | exact rRight (r := 0) rfl (.of rfl rfl (fun _ _ => rfl)) (by omega) hs hb
      | exact beq_self_eq_true b
      | trivial
      | rfl
      | omega
      | ((try dsimp only [rowL, rowN]); simp only [beq_iff_eq, beq_eq_false_iff_ne, bne_iff_ne, bne_eq_false_iff_eq, decide_eq_true_eq, decide_eq_false_iff_not, ne_eq, Bool.not_eq_true', Bool.not_eq_false', Bool.not_eq_eq_eq_not, Bool.not_true, Bool.not_false, Option.some.injEq, Option.getD_some, Option.getD_none]; omega)
      | (simp; done)
      | (simp; omega)
  refine SG.ret tab_ok Try.func3 rfl ?_
  intro ρ w' v hm hv
  exact top_v hm hv (by simp)
set_option maxHeartbeats 4000000 in
set_option maxRecDepth 100000 in
theorem h_argPos_no (w : World) (c : Value) (L : List E) (sz n who : Int) (hn0 : ¬ n < 0) (ht : n < 1 ∨ ¬ Rt sz L) (he : L.any (atB n) = false) (hs : sz ≤ 9223372036854775807) (hrow : ∀ W' ρ, RowOk W' ρ w c (rowE L)) (hl : L.length ≤ 5864062014650) :
    Calls Try.prog 3 #[.agg #[.int .i64 sz, c], .int .i64 n, .int .i64 who] w fun e w' => e = .returned (.bool true) ∧ Below w.heap.size w w' := by
  obtain ⟨A, cap, rfl, _⟩ := (hrow ⟨w, none, [], []⟩ ⟨fun _ => none, fun _ => none⟩).form
  refine calls_top Try.func3 rfl [.slice A L.length cap] [rowE L] [heapV 0 sz, intV n, intV who] (.cons hrow rfl .nil) ⟨rfl, rfl, rfl, trivial⟩ ?_
  clear hrow
  have hfl : (freeL n L).length ≤ L.length := List.length_eraseP_le
  have hdl : (dropL who L).length ≤ L.length := List.length_filter_le _ _
  obtain ⟨b, hb⟩ := rt_b sz L
  have hhl := hol_len b sz L
  have hfr : freeL n L = L := er_id he
  refine SG.walk tab_ok mx 400 [true, true, true, true, true, true, true, true] [hdB true, hdTake sz 0 1 L, hdBackT 0 sz 1, hdFree sz 7 L, hdBackF 0 sz 7, hdNew n 0, hdNew n 0, hdB true, hdB true, hdB true, hdHeap sz (dropL who L), hdHeap sz (dropL who L), hdB true, hdE (hol b sz L), hdE (hol b sz L), hdB true, hdInt (sumN (hol b sz L)), hdInt (sumN (hol b sz L)), hdB b, hdB b] ?_
  conv => whnf
  try dsimp only [rowL, rowN, growOk, hiN, fromL, tightN, maxOk]
  try simp (disch := omega) only [wI, wU64, wU32, wU8, Int.toNat_natCast, toNat_succ, toNat_pred, Int.reduceToNat, Option.getD_some, Option.getD_none, Nat.sub_zero, Nat.zero_add]
  refine ⟨?_, ?_⟩
  · repeat' apply And.intro
    all_goals first
      | exact shownE
      | exact takeArg (r := 0) rfl (.of rfl rfl (fun _ _ => rfl)) (by omega) hs ht
      | exact rTakeArg (r := 0) rfl (.of rfl rfl (fun _ _ => rfl)) (by omega) hs hb ht
      | exact freeM (r := 0) rfl (.of rfl rfl (fun _ _ => rfl)) (by omega) (by rw [he]; rfl) hfr
      | exact rFreeNo (r := 0) rfl (.of rfl rfl (fun _ _ => rfl)) (by omega) he
      | exact newR hn0
      | exact newN hn0
      | exact rSame (r := 1) (q := 0) (L := L) (M := L) rfl (.of rfl rfl (fun _ _ => rfl)) rfl (.of rfl rfl (fun _ _ => rfl)) (by omega) rfl rfl
      | exact rSame (r := 2) (q := 0) (L := L) (M := L) rfl (.of rfl rfl (fun _ _ => rfl)) rfl (.of rfl rfl (fun _ _ => rfl)) (by omega) rfl rfl
      | exact rSame (r := 3) (q := 4) (L := []) (M := []) rfl (.of rfl rfl (fun _ _ => rfl)) rfl (.of rfl rfl (fun _ _ => rfl)) (by simp) rfl rfl
      | exact dropH (r := 0) rfl (.of rfl rfl (fun _ _ => rfl)) (by omega)
      | exact rDrop (r := 0) rfl (.of rfl rfl (fun _ _ => rfl)) (by omega)
      | exact rSame (r := 5) (q := 6) (L := dropL who L) (M := dropL who L) rfl (.of rfl rfl (fun _ _ => rfl)) rfl (.of rfl rfl (fun _ _ => rfl)) (by omega) rfl rfl
      | exact holesB (r := 0) rfl (.of rfl rfl (fun _ _ => rfl)) (by omega) hs hb
      | exact rHolesB (r := 0) rfl (.of rfl rfl (fun _ _ => rfl)) (by omega) hs hb
      | exact rSpans (r := 7) (q := 8) (L := hol b sz L) (M := hol b sz L) rfl (.of rfl rfl (fun _ _ => rfl)) rfl (.of rfl rfl (fun _ _ => rfl)) (by omega) (by simp)
      | exact leftH (r := 0) rfl (.of rfl rfl (fun _ _ => rfl)) (by omega) hs hb
      | exact rLeft (r := 0) rfl (.of rfl rfl (fun _ _ => rfl)) (by omega) hs hb
      | exact rightH (r := 0) rfl (.of rfl rfl (fun _ _ => rfl)) (by omega) hs hb
      | exact rRight (r := 0) rfl (.of rfl rfl (fun _ _ => rfl)) (by omega) hs hb
      | exact beq_self_eq_true b
      | trivial
      | rfl
      | omega
      | ((try dsimp only [rowL, rowN]); simp only [beq_iff_eq, beq_eq_false_iff_ne, bne_iff_ne, bne_eq_false_iff_eq, decide_eq_true_eq, decide_eq_false_iff_not, ne_eq, Bool.not_eq_true', Bool.not_eq_false', Bool.not_eq_eq_eq_not, Bool.not_true, Bool.not_false, Option.some.injEq, Option.getD_some, Option.getD_none]; omega)
      | (simp; done)
      | (simp; omega)
  refine SG.ret tab_ok Try.func3 rfl ?_
  intro ρ w' v hm hv
  exact top_v hm hv (by simp)
set_option maxHeartbeats 4000000 in
set_option maxRecDepth 100000 in
theorem h_full_yes (w : World) (c : Value) (L : List E) (sz n who : Int) (hn : 1 ≤ n) (ht : Rt sz L) (hf : fit n sz L = none) (he : L.any (atB n) = true) (hs : sz ≤ 9223372036854775807) (hrow : ∀ W' ρ, RowOk W' ρ w c (rowE L)) (hl : L.length ≤ 5864062014650) :
    Calls Try.prog 3 #[.agg #[.int .i64 sz, c], .int .i64 n, .int .i64 who] w fun e w' => e = .returned (.bool true) ∧ Below w.heap.size w w' := by
  obtain ⟨A, cap, rfl, _⟩ := (hrow ⟨w, none, [], []⟩ ⟨fun _ => none, fun _ => none⟩).form
  refine calls_top Try.func3 rfl [.slice A L.length cap] [rowE L] [heapV 0 sz, intV n, intV who] (.cons hrow rfl .nil) ⟨rfl, rfl, rfl, trivial⟩ ?_
  clear hrow
  have hfl : (freeL n L).length ≤ L.length := List.length_eraseP_le
  have hdl : (dropL who L).length ≤ L.length := List.length_filter_le _ _
  obtain ⟨b, hb⟩ := rt_b sz L
  have hhl := hol_len b sz L
  have hn0 : ¬ n < 0 := by omega
  refine SG.walk tab_ok mx 400 [true, true, true, true, true, true, true, true] [hdB true, hdTake sz 0 5 L, hdBackT 0 sz 5, hdFree sz 0 (freeL n L), hdFree2 sz 0 (freeL n L), hdNew n 0, hdNew n 0, hdB true, hdB true, hdB true, hdHeap sz (dropL who L), hdHeap sz (dropL who L), hdB true, hdE (hol b sz L), hdE (hol b sz L), hdB true, hdInt (sumN (hol b sz L)), hdInt (sumN (hol b sz L)), hdB b, hdB b] ?_
  conv => whnf
  try dsimp only [rowL, rowN, growOk, hiN, fromL, tightN, maxOk]
  try simp (disch := omega) only [wI, wU64, wU32, wU8, Int.toNat_natCast, toNat_succ, toNat_pred, Int.reduceToNat, Option.getD_some, Option.getD_none, Nat.sub_zero, Nat.zero_add]
  refine ⟨?_, ?_⟩
  · repeat' apply And.intro
    all_goals first
      | exact shownE
      | exact takeFull (r := 0) rfl (.of rfl rfl (fun _ _ => rfl)) (by omega) hs hn ht hf
      | exact rTakeFull (r := 0) rfl (.of rfl rfl (fun _ _ => rfl)) (by omega) hs hn ht hf
      | exact freeM (r := 0) rfl (.of rfl rfl (fun _ _ => rfl)) (by omega) (by rw [he]; rfl) rfl
      | exact rFreeOk (r := 0) rfl (.of rfl rfl (fun _ _ => rfl)) (by omega) he
      | exact newR hn0
      | exact newN hn0
      | exact rSame (r := 1) (q := 0) (L := L) (M := L) rfl (.of rfl rfl (fun _ _ => rfl)) rfl (.of rfl rfl (fun _ _ => rfl)) (by omega) rfl rfl
      | exact rSame (r := 2) (q := 3) (L := (freeL n L)) (M := (freeL n L)) rfl (.of rfl rfl (fun _ _ => rfl)) rfl (.of rfl rfl (fun _ _ => rfl)) (by omega) rfl rfl
      | exact rSame (r := 4) (q := 5) (L := []) (M := []) rfl (.of rfl rfl (fun _ _ => rfl)) rfl (.of rfl rfl (fun _ _ => rfl)) (by simp) rfl rfl
      | exact dropH (r := 0) rfl (.of rfl rfl (fun _ _ => rfl)) (by omega)
      | exact rDrop (r := 0) rfl (.of rfl rfl (fun _ _ => rfl)) (by omega)
      | exact rSame (r := 6) (q := 7) (L := dropL who L) (M := dropL who L) rfl (.of rfl rfl (fun _ _ => rfl)) rfl (.of rfl rfl (fun _ _ => rfl)) (by omega) rfl rfl
      | exact holesB (r := 0) rfl (.of rfl rfl (fun _ _ => rfl)) (by omega) hs hb
      | exact rHolesB (r := 0) rfl (.of rfl rfl (fun _ _ => rfl)) (by omega) hs hb
      | exact rSpans (r := 8) (q := 9) (L := hol b sz L) (M := hol b sz L) rfl (.of rfl rfl (fun _ _ => rfl)) rfl (.of rfl rfl (fun _ _ => rfl)) (by omega) (by simp)
      | exact leftH (r := 0) rfl (.of rfl rfl (fun _ _ => rfl)) (by omega) hs hb
      | exact rLeft (r := 0) rfl (.of rfl rfl (fun _ _ => rfl)) (by omega) hs hb
      | exact rightH (r := 0) rfl (.of rfl rfl (fun _ _ => rfl)) (by omega) hs hb
      | exact rRight (r := 0) rfl (.of rfl rfl (fun _ _ => rfl)) (by omega) hs hb
      | exact beq_self_eq_true b
      | trivial
      | rfl
      | omega
      | ((try dsimp only [rowL, rowN]); simp only [beq_iff_eq, beq_eq_false_iff_ne, bne_iff_ne, bne_eq_false_iff_eq, decide_eq_true_eq, decide_eq_false_iff_not, ne_eq, Bool.not_eq_true', Bool.not_eq_false', Bool.not_eq_eq_eq_not, Bool.not_true, Bool.not_false, Option.some.injEq, Option.getD_some, Option.getD_none]; omega)
      | (simp; done)
      | (simp; omega)
  refine SG.ret tab_ok Try.func3 rfl ?_
  intro ρ w' v hm hv
  exact top_v hm hv (by simp)
set_option maxHeartbeats 4000000 in
set_option maxRecDepth 100000 in
theorem h_full_no (w : World) (c : Value) (L : List E) (sz n who : Int) (hn : 1 ≤ n) (ht : Rt sz L) (hf : fit n sz L = none) (he : L.any (atB n) = false) (hs : sz ≤ 9223372036854775807) (hrow : ∀ W' ρ, RowOk W' ρ w c (rowE L)) (hl : L.length ≤ 5864062014650) :
    Calls Try.prog 3 #[.agg #[.int .i64 sz, c], .int .i64 n, .int .i64 who] w fun e w' => e = .returned (.bool true) ∧ Below w.heap.size w w' := by
  obtain ⟨A, cap, rfl, _⟩ := (hrow ⟨w, none, [], []⟩ ⟨fun _ => none, fun _ => none⟩).form
  refine calls_top Try.func3 rfl [.slice A L.length cap] [rowE L] [heapV 0 sz, intV n, intV who] (.cons hrow rfl .nil) ⟨rfl, rfl, rfl, trivial⟩ ?_
  clear hrow
  have hfl : (freeL n L).length ≤ L.length := List.length_eraseP_le
  have hdl : (dropL who L).length ≤ L.length := List.length_filter_le _ _
  obtain ⟨b, hb⟩ := rt_b sz L
  have hhl := hol_len b sz L
  have hn0 : ¬ n < 0 := by omega
  have hfr : freeL n L = L := er_id he
  refine SG.walk tab_ok mx 400 [true, true, true, true, true, true, true, true] [hdB true, hdTake sz 0 5 L, hdBackT 0 sz 5, hdFree sz 7 L, hdBackF 0 sz 7, hdNew n 0, hdNew n 0, hdB true, hdB true, hdB true, hdHeap sz (dropL who L), hdHeap sz (dropL who L), hdB true, hdE (hol b sz L), hdE (hol b sz L), hdB true, hdInt (sumN (hol b sz L)), hdInt (sumN (hol b sz L)), hdB b, hdB b] ?_
  conv => whnf
  try dsimp only [rowL, rowN, growOk, hiN, fromL, tightN, maxOk]
  try simp (disch := omega) only [wI, wU64, wU32, wU8, Int.toNat_natCast, toNat_succ, toNat_pred, Int.reduceToNat, Option.getD_some, Option.getD_none, Nat.sub_zero, Nat.zero_add]
  refine ⟨?_, ?_⟩
  · repeat' apply And.intro
    all_goals first
      | exact shownE
      | exact takeFull (r := 0) rfl (.of rfl rfl (fun _ _ => rfl)) (by omega) hs hn ht hf
      | exact rTakeFull (r := 0) rfl (.of rfl rfl (fun _ _ => rfl)) (by omega) hs hn ht hf
      | exact freeM (r := 0) rfl (.of rfl rfl (fun _ _ => rfl)) (by omega) (by rw [he]; rfl) hfr
      | exact rFreeNo (r := 0) rfl (.of rfl rfl (fun _ _ => rfl)) (by omega) he
      | exact newR hn0
      | exact newN hn0
      | exact rSame (r := 1) (q := 0) (L := L) (M := L) rfl (.of rfl rfl (fun _ _ => rfl)) rfl (.of rfl rfl (fun _ _ => rfl)) (by omega) rfl rfl
      | exact rSame (r := 2) (q := 0) (L := L) (M := L) rfl (.of rfl rfl (fun _ _ => rfl)) rfl (.of rfl rfl (fun _ _ => rfl)) (by omega) rfl rfl
      | exact rSame (r := 3) (q := 4) (L := []) (M := []) rfl (.of rfl rfl (fun _ _ => rfl)) rfl (.of rfl rfl (fun _ _ => rfl)) (by simp) rfl rfl
      | exact dropH (r := 0) rfl (.of rfl rfl (fun _ _ => rfl)) (by omega)
      | exact rDrop (r := 0) rfl (.of rfl rfl (fun _ _ => rfl)) (by omega)
      | exact rSame (r := 5) (q := 6) (L := dropL who L) (M := dropL who L) rfl (.of rfl rfl (fun _ _ => rfl)) rfl (.of rfl rfl (fun _ _ => rfl)) (by omega) rfl rfl
      | exact holesB (r := 0) rfl (.of rfl rfl (fun _ _ => rfl)) (by omega) hs hb
      | exact rHolesB (r := 0) rfl (.of rfl rfl (fun _ _ => rfl)) (by omega) hs hb
      | exact rSpans (r := 7) (q := 8) (L := hol b sz L) (M := hol b sz L) rfl (.of rfl rfl (fun _ _ => rfl)) rfl (.of rfl rfl (fun _ _ => rfl)) (by omega) (by simp)
      | exact leftH (r := 0) rfl (.of rfl rfl (fun _ _ => rfl)) (by omega) hs hb
      | exact rLeft (r := 0) rfl (.of rfl rfl (fun _ _ => rfl)) (by omega) hs hb
      | exact rightH (r := 0) rfl (.of rfl rfl (fun _ _ => rfl)) (by omega) hs hb
      | exact rRight (r := 0) rfl (.of rfl rfl (fun _ _ => rfl)) (by omega) hs hb
      | exact beq_self_eq_true b
      | trivial
      | rfl
      | omega
      | ((try dsimp only [rowL, rowN]); simp only [beq_iff_eq, beq_eq_false_iff_ne, bne_iff_ne, bne_eq_false_iff_eq, decide_eq_true_eq, decide_eq_false_iff_not, ne_eq, Bool.not_eq_true', Bool.not_eq_false', Bool.not_eq_eq_eq_not, Bool.not_true, Bool.not_false, Option.some.injEq, Option.getD_some, Option.getD_none]; omega)
      | (simp; done)
      | (simp; omega)
  refine SG.ret tab_ok Try.func3 rfl ?_
  intro ρ w' v hm hv
  exact top_v hm hv (by simp)
set_option maxHeartbeats 4000000 in
set_option maxRecDepth 100000 in
theorem h_ok_yes (w : World) (c : Value) (L : List E) (sz n who : Int) (hn : 1 ≤ n) (ht : Rt sz L) (x : E) (hf : fit n sz L = some x) (he : L.any (atB n) = true) (hs : sz ≤ 9223372036854775807) (hrow : ∀ W' ρ, RowOk W' ρ w c (rowE L)) (hl : L.length ≤ 5864062014650) :
    Calls Try.prog 3 #[.agg #[.int .i64 sz, c], .int .i64 n, .int .i64 who] w fun e w' => e = .returned (.bool true) ∧ Below w.heap.size w w' := by
  obtain ⟨A, cap, rfl, _⟩ := (hrow ⟨w, none, [], []⟩ ⟨fun _ => none, fun _ => none⟩).form
  refine calls_top Try.func3 rfl [.slice A L.length cap] [rowE L] [heapV 0 sz, intV n, intV who] (.cons hrow rfl .nil) ⟨rfl, rfl, rfl, trivial⟩ ?_
  clear hrow
  have hfl : (freeL n L).length ≤ L.length := List.length_eraseP_le
  have hdl : (dropL who L).length ≤ L.length := List.length_filter_le _ _
  obtain ⟨b, hb⟩ := rt_b sz L
  have hhl := hol_len b sz L
  have hn0 : ¬ n < 0 := by omega
  have hil := ins_len x.1 n who L
  refine SG.walk tab_ok mx 400 [true, true, true, true, true, true, true, true] [hdB true, hdTake sz x.1 0 (insAt x.1 n who L), hdTake sz x.1 0 (insAt x.1 n who L), hdFree sz 0 (freeL n L), hdFree2 sz 0 (freeL n L), hdNew n 0, hdNew n 0, hdB true, hdB true, hdB true, hdHeap sz (dropL who L), hdHeap sz (dropL who L), hdB true, hdE (hol b sz L), hdE (hol b sz L), hdB true, hdInt (sumN (hol b sz L)), hdInt (sumN (hol b sz L)), hdB b, hdB b] ?_
  conv => whnf
  try dsimp only [rowL, rowN, growOk, hiN, fromL, tightN, maxOk]
  try simp (disch := omega) only [wI, wU64, wU32, wU8, Int.toNat_natCast, toNat_succ, toNat_pred, Int.reduceToNat, Option.getD_some, Option.getD_none, Nat.sub_zero, Nat.zero_add]
  refine ⟨?_, ?_⟩
  · repeat' apply And.intro
    all_goals first
      | exact shownE
      | exact takeOk (r := 0) rfl (.of rfl rfl (fun _ _ => rfl)) (by omega) hs hn ht hf
      | exact rTakeOk (r := 0) rfl (.of rfl rfl (fun _ _ => rfl)) (by omega) hs hn ht hf
      | exact freeM (r := 0) rfl (.of rfl rfl (fun _ _ => rfl)) (by omega) (by rw [he]; rfl) rfl
      | exact rFreeOk (r := 0) rfl (.of rfl rfl (fun _ _ => rfl)) (by omega) he
      | exact newR hn0
      | exact newN hn0
      | exact rSame (r := 1) (q := 2) (L := (insAt x.1 n who L)) (M := (insAt x.1 n who L)) rfl (.of rfl rfl (fun _ _ => rfl)) rfl (.of rfl rfl (fun _ _ => rfl)) (by omega) rfl rfl
      | exact rSame (r := 3) (q := 4) (L := (freeL n L)) (M := (freeL n L)) rfl (.of rfl rfl (fun _ _ => rfl)) rfl (.of rfl rfl (fun _ _ => rfl)) (by omega) rfl rfl
      | exact rSame (r := 5) (q := 6) (L := []) (M := []) rfl (.of rfl rfl (fun _ _ => rfl)) rfl (.of rfl rfl (fun _ _ => rfl)) (by simp) rfl rfl
      | exact dropH (r := 0) rfl (.of rfl rfl (fun _ _ => rfl)) (by omega)
      | exact rDrop (r := 0) rfl (.of rfl rfl (fun _ _ => rfl)) (by omega)
      | exact rSame (r := 7) (q := 8) (L := dropL who L) (M := dropL who L) rfl (.of rfl rfl (fun _ _ => rfl)) rfl (.of rfl rfl (fun _ _ => rfl)) (by omega) rfl rfl
      | exact holesB (r := 0) rfl (.of rfl rfl (fun _ _ => rfl)) (by omega) hs hb
      | exact rHolesB (r := 0) rfl (.of rfl rfl (fun _ _ => rfl)) (by omega) hs hb
      | exact rSpans (r := 9) (q := 10) (L := hol b sz L) (M := hol b sz L) rfl (.of rfl rfl (fun _ _ => rfl)) rfl (.of rfl rfl (fun _ _ => rfl)) (by omega) (by simp)
      | exact leftH (r := 0) rfl (.of rfl rfl (fun _ _ => rfl)) (by omega) hs hb
      | exact rLeft (r := 0) rfl (.of rfl rfl (fun _ _ => rfl)) (by omega) hs hb
      | exact rightH (r := 0) rfl (.of rfl rfl (fun _ _ => rfl)) (by omega) hs hb
      | exact rRight (r := 0) rfl (.of rfl rfl (fun _ _ => rfl)) (by omega) hs hb
      | exact beq_self_eq_true b
      | trivial
      | rfl
      | omega
      | ((try dsimp only [rowL, rowN]); simp only [beq_iff_eq, beq_eq_false_iff_ne, bne_iff_ne, bne_eq_false_iff_eq, decide_eq_true_eq, decide_eq_false_iff_not, ne_eq, Bool.not_eq_true', Bool.not_eq_false', Bool.not_eq_eq_eq_not, Bool.not_true, Bool.not_false, Option.some.injEq, Option.getD_some, Option.getD_none]; omega)
      | (simp; done)
      | (simp; omega)
  refine SG.ret tab_ok Try.func3 rfl ?_
  intro ρ w' v hm hv
  exact top_v hm hv (by simp)
set_option maxHeartbeats 4000000 in
set_option maxRecDepth 100000 in
theorem h_ok_no (w : World) (c : Value) (L : List E) (sz n who : Int) (hn : 1 ≤ n) (ht : Rt sz L) (x : E) (hf : fit n sz L = some x) (he : L.any (atB n) = false) (hs : sz ≤ 9223372036854775807) (hrow : ∀ W' ρ, RowOk W' ρ w c (rowE L)) (hl : L.length ≤ 5864062014650) :
    Calls Try.prog 3 #[.agg #[.int .i64 sz, c], .int .i64 n, .int .i64 who] w fun e w' => e = .returned (.bool true) ∧ Below w.heap.size w w' := by
  obtain ⟨A, cap, rfl, _⟩ := (hrow ⟨w, none, [], []⟩ ⟨fun _ => none, fun _ => none⟩).form
  refine calls_top Try.func3 rfl [.slice A L.length cap] [rowE L] [heapV 0 sz, intV n, intV who] (.cons hrow rfl .nil) ⟨rfl, rfl, rfl, trivial⟩ ?_
  clear hrow
  have hfl : (freeL n L).length ≤ L.length := List.length_eraseP_le
  have hdl : (dropL who L).length ≤ L.length := List.length_filter_le _ _
  obtain ⟨b, hb⟩ := rt_b sz L
  have hhl := hol_len b sz L
  have hn0 : ¬ n < 0 := by omega
  have hil := ins_len x.1 n who L
  have hfr : freeL n L = L := er_id he
  refine SG.walk tab_ok mx 400 [true, true, true, true, true, true, true, true] [hdB true, hdTake sz x.1 0 (insAt x.1 n who L), hdTake sz x.1 0 (insAt x.1 n who L), hdFree sz 7 L, hdBackF 0 sz 7, hdNew n 0, hdNew n 0, hdB true, hdB true, hdB true, hdHeap sz (dropL who L), hdHeap sz (dropL who L), hdB true, hdE (hol b sz L), hdE (hol b sz L), hdB true, hdInt (sumN (hol b sz L)), hdInt (sumN (hol b sz L)), hdB b, hdB b] ?_
  conv => whnf
  try dsimp only [rowL, rowN, growOk, hiN, fromL, tightN, maxOk]
  try simp (disch := omega) only [wI, wU64, wU32, wU8, Int.toNat_natCast, toNat_succ, toNat_pred, Int.reduceToNat, Option.getD_some, Option.getD_none, Nat.sub_zero, Nat.zero_add]
  refine ⟨?_, ?_⟩
  · repeat' apply And.intro
    all_goals first
      | exact shownE
      | exact takeOk (r := 0) rfl (.of rfl rfl (fun _ _ => rfl)) (by omega) hs hn ht hf
      | exact rTakeOk (r := 0) rfl (.of rfl rfl (fun _ _ => rfl)) (by omega) hs hn ht hf
      | exact freeM (r := 0) rfl (.of rfl rfl (fun _ _ => rfl)) (by omega) (by rw [he]; rfl) hfr
      | exact rFreeNo (r := 0) rfl (.of rfl rfl (fun _ _ => rfl)) (by omega) he
      | exact newR hn0
      | exact newN hn0
      | exact rSame (r := 1) (q := 2) (L := (insAt x.1 n who L)) (M := (insAt x.1 n who L)) rfl (.of rfl rfl (fun _ _ => rfl)) rfl (.of rfl rfl (fun _ _ => rfl)) (by omega) rfl rfl
      | exact rSame (r := 3) (q := 0) (L := L) (M := L) rfl (.of rfl rfl (fun _ _ => rfl)) rfl (.of rfl rfl (fun _ _ => rfl)) (by omega) rfl rfl
      | exact rSame (r := 4) (q := 5) (L := []) (M := []) rfl (.of rfl rfl (fun _ _ => rfl)) rfl (.of rfl rfl (fun _ _ => rfl)) (by simp) rfl rfl
      | exact dropH (r := 0) rfl (.of rfl rfl (fun _ _ => rfl)) (by omega)
      | exact rDrop (r := 0) rfl (.of rfl rfl (fun _ _ => rfl)) (by omega)
      | exact rSame (r := 6) (q := 7) (L := dropL who L) (M := dropL who L) rfl (.of rfl rfl (fun _ _ => rfl)) rfl (.of rfl rfl (fun _ _ => rfl)) (by omega) rfl rfl
      | exact holesB (r := 0) rfl (.of rfl rfl (fun _ _ => rfl)) (by omega) hs hb
      | exact rHolesB (r := 0) rfl (.of rfl rfl (fun _ _ => rfl)) (by omega) hs hb
      | exact rSpans (r := 8) (q := 9) (L := hol b sz L) (M := hol b sz L) rfl (.of rfl rfl (fun _ _ => rfl)) rfl (.of rfl rfl (fun _ _ => rfl)) (by omega) (by simp)
      | exact leftH (r := 0) rfl (.of rfl rfl (fun _ _ => rfl)) (by omega) hs hb
      | exact rLeft (r := 0) rfl (.of rfl rfl (fun _ _ => rfl)) (by omega) hs hb
      | exact rightH (r := 0) rfl (.of rfl rfl (fun _ _ => rfl)) (by omega) hs hb
      | exact rRight (r := 0) rfl (.of rfl rfl (fun _ _ => rfl)) (by omega) hs hb
      | exact beq_self_eq_true b
      | trivial
      | rfl
      | omega
      | ((try dsimp only [rowL, rowN]); simp only [beq_iff_eq, beq_eq_false_iff_ne, bne_iff_ne, bne_eq_false_iff_eq, decide_eq_true_eq, decide_eq_false_iff_not, ne_eq, Bool.not_eq_true', Bool.not_eq_false', Bool.not_eq_eq_eq_not, Bool.not_true, Bool.not_false, Option.some.injEq, Option.getD_some, Option.getD_none]; omega)
      | (simp; done)
      | (simp; omega)
  refine SG.ret tab_ok Try.func3 rfl ?_
  intro ρ w' v hm hv
  exact top_v hm hv (by simp)
theorem acts_walk (w : World) (c : Value) (L : List E) (sz n who : Int) (hs : sz ≤ 9223372036854775807) (hrow : ∀ W' ρ, RowOk W' ρ w c (rowE L)) (hl : L.length ≤ 5864062014650) :
    Calls Try.prog 3 #[.agg #[.int .i64 sz, c], .int .i64 n, .int .i64 who] w fun e w' => e = .returned (.bool true) ∧ Below w.heap.size w w' := by
  by_cases hn0 : n < 0
  · cases he : L.any (atB n) with
    | true => exact h_argNeg_yes w c L sz n who hn0 he hs hrow hl
    | false => exact h_argNeg_no w c L sz n who hn0 he hs hrow hl
  · by_cases ht : n < 1 ∨ ¬ Rt sz L
    · cases he : L.any (atB n) with
      | true => exact h_argPos_yes w c L sz n who hn0 ht he hs hrow hl
      | false => exact h_argPos_no w c L sz n who hn0 ht he hs hrow hl
    · have hn : 1 ≤ n := by omega
      have hr : Rt sz L := Classical.not_not.1 fun h => ht (.inr h)
      cases hf : fit n sz L with
      | none =>
        cases he : L.any (atB n) with
        | true => exact h_full_yes w c L sz n who hn hr hf he hs hrow hl
        | false => exact h_full_no w c L sz n who hn hr hf he hs hrow hl
      | some x =>
        cases he : L.any (atB n) with
        | true => exact h_ok_yes w c L sz n who hn hr x hf he hs hrow hl
        | false => exact h_ok_no w c L sz n who hn hr x hf he hs hrow hl
end Go.Proofs.Ytpbpgkkfpfenhaa
