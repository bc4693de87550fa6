/- Heaps: what the document takes and frees. -/
import Derived.Test.YtpbpgkkfpfenhaaHpF
import Derived.Test.YtpbpgkkfpfenhaaHpN
import Derived.Test.YtpbpgkkfpfenhaaSxY
namespace Go.Proofs.Ytpbpgkkfpfenhaa
open Go.Sx Go.RowKit
set_option linter.unusedVariables false
set_option linter.unusedSimpArgs false
abbrev hdFree2 (sz e : Int) (L : List E) : Hd := mkHd (.tup [.agg [.v (.int .i64 sz), .rs 0], .one (.v (.int .i64 e))]) [newE L]
theorem free_at {a : Int} {L : List E} {k : Nat} (hk : k < L.length) (hp : atB a (L.getD k e0) = true) (hn : ∀ j, j < k → atB a (L.getD j e0) = false) : freeL a L = L.take k ++ L.drop (k + 1) := by
  unfold freeL
  conv => lhs; rw [← List.take_append_drop k L]
  rw [List.eraseP_append_right _ (fun y hy => ?_), List.drop_eq_getElem_cons hk, List.eraseP_cons_of_pos (by rw [← getD_mem hk]; exact hp)]
  obtain ⟨j, hj, rfl⟩ := List.getElem_of_mem hy
  simp only [List.length_take] at hj
  have := hn j (by omega)
  rw [getD_mem (by omega)] at this
  simp [this]
theorem take_snoc {L : List E} {k : Nat} (h : k < L.length) : L.take (k + 1) = L.take k ++ [L.getD k e0] := by
  rw [List.take_succ_eq_append_getElem h, getD_mem h]
theorem free_row {L : List E} {k : Nat} (hk : k < L.length) (i : Nat) : eC ((L.take k ++ L.drop (k + 1)).getD i e0) = if i < k then eC (L.getD i e0) else eC (L.getD (k + 1 + (i - k)) e0) := by
  simp only [List.getD_eq_getElem?_getD]
  by_cases h : i < k
  · rw [if_pos h, List.getElem?_append_left (by simp; omega), List.getElem?_take, if_pos h]
  · rw [if_neg h, List.getElem?_append_right (by simp; omega), List.getElem?_drop, List.length_take, Nat.min_eq_left (by omega)]
def insQ (m : Nat) (a : E) (L : List E) : List E := L.take m ++ a :: L.drop m
theorem insQ_len {m : Nat} {a : E} {L : List E} (h : m ≤ L.length) : (insQ m a L).length = L.length + 1 := by simp [insQ]; omega
theorem insQ_lt {m k : Nat} {a : E} {L : List E} (h : m ≤ L.length) (hk : k < m) : (insQ m a L).getD k e0 = L.getD k e0 := by
  simp only [insQ, List.getD_eq_getElem?_getD]
  rw [List.getElem?_append_left (by simp; omega), List.getElem?_take, if_pos hk]
theorem insQ_eq {m : Nat} {a : E} {L : List E} (h : m ≤ L.length) : (insQ m a L).getD m e0 = a := by
  simp only [insQ, List.getD_eq_getElem?_getD]
  rw [List.getElem?_append_right (by simp; omega)]
  simp [Nat.min_eq_left h]
theorem insQ_gt {m k : Nat} {a : E} {L : List E} (h : m ≤ L.length) (hk : m ≤ k) : (insQ m a L).getD (k + 1) e0 = L.getD k e0 := by
  simp only [insQ, List.getD_eq_getElem?_getD]
  rw [List.getElem?_append_right (by simp; omega)]
  rw [List.length_take, Nat.min_eq_left h, show k + 1 - m = (k - m) + 1 by omega, List.getElem?_cons_succ, List.getElem?_drop, show m + (k - m) = k by omega]
section
variable {W : Base} {B : List (Option (List At))} {Rs : List (Option Row)}
set_option maxRecDepth 100000 in
theorem rFreeOk {r : Nat} {R : Row} {L : List E} {sz a : Int} (hr : Rs[r]? = some (some R)) (hR : RowLe R (rowE L)) (hl : L.length ≤ 5864062014700) (he : L.any (atB a) = true) :
    CallOk Try.prog W B Rs 15 [heapV r sz, intV a] (hdFree2 sz 0 (freeL a L)) := by
  refine CallOk.enter Try.func15 (by kernel_rfl) rfl [r] [rowE L] [heapV 0 sz, intV a] rfl (rows1 (.ro_ hr hR rfl rfl (fun _ _ => rfl))) (fun r h => by cases h) rfl rfl ?_
  intro w blk hblk
  refine SG.walk tab_ok mx 400 [] [] ?_
  conv => whnf
  try dsimp only [rowL, rowN, growOk, hiN, fromL, tightN, maxOk]
  try simp (disch := omega) only [wI, wU64, wU32, wU8, Int.toNat_natCast, toNat_succ, toNat_pred, Int.reduceToNat, Option.getD_some, Option.getD_none, Nat.sub_zero, Nat.zero_add]
  refine ⟨?_, ?_⟩
  · trivial
  refine SG.loop (fun k : Nat => ⟨puts (List.replicate (Try.f15).ntmps .any) [(0, heapV 0 sz), (1, intV a), (2, bpV 0), (4, bpV 1), (6, intV k)], [some [.v (.int .i64 sz), .rs 0], some [.v (.int .i64 0), .v (.slice none 0 0)]], [some (rowE L)], []⟩) (fun k => k ≤ L.length ∧ ∀ j, j < k → atB a (L.getD j e0) = false) (fun k => L.length - k) (0) (⟨Nat.zero_le _, fun j hj => by omega⟩) (fun h => SG.sub [0, 1] [0] ⟨?_, ?_, ?_, by decide, rfl, rfl, rfl, ?_⟩ h) ?_
  · repeat' (first | exact trivial | exact rfl | refine And.intro ?_ ?_)
  · repeat' (first | exact trivial | exact rfl | refine And.intro ?_ ?_)
  · repeat' (first | exact trivial | refine ⟨⟨_, rfl, ⟨rfl, rfl, .inl rfl, (fun h => by first | exact h | cases h), (fun h => by first | exact h | cases h), fun _ _ => rfl⟩, fun _ _ => rfl⟩, ?_⟩ | refine ⟨⟨_, rfl, ⟨rfl, rfl, .inr rfl, (fun h => by first | exact h | cases h), (fun h => by first | exact h | cases h), fun _ _ => rfl⟩, fun _ _ => rfl⟩, ?_⟩ | refine ⟨⟨_, rfl, ⟨rfl, rfl, .inr rfl, (fun h => by first | exact h | cases h), (fun h => by first | exact h | cases h), fun i hi => absurd hi (Nat.not_lt_zero i)⟩, fun i hi => absurd hi (Nat.not_lt_zero i)⟩, ?_⟩ | refine ⟨⟨_, rfl, ⟨rfl, rfl, .inl rfl, (fun h => by first | exact h | cases h), (fun h => by first | exact h | cases h), fun i hi => ren_closed (hQc i hi)⟩, fun i hi => inn_closed (hQc i hi)⟩, ?_⟩)
  · repeat' (first | exact trivial | exact rfl | refine And.intro ?_ ?_)
  rintro k ⟨hk, hno⟩ next
  by_cases hlt : k < L.length
  · by_cases hp : (L.getD k e0).1 = a
    · rw [free_at hlt (by simpa [atB, - List.getD_eq_getElem?_getD] using hp) hno]
      refine SG.walk tab_ok mx 400 [true, true] [] ?_
      conv => whnf
      try dsimp only [rowL, rowN, growOk, hiN, fromL, tightN, maxOk]
      try simp (disch := omega) only [wI, wU64, wU32, wU8, Int.toNat_natCast, toNat_succ, toNat_pred, Int.reduceToNat, Option.getD_some, Option.getD_none, Nat.sub_zero, Nat.zero_add]
      refine ⟨?_, ?_⟩
      · repeat' apply And.intro
        all_goals first
          | trivial
          | rfl
          | omega
          | ((try dsimp only [rowL, rowN]); simp only [beq_iff_eq, beq_eq_false_iff_ne, bne_iff_ne, bne_eq_false_iff_eq, decide_eq_true_eq, decide_eq_false_iff_not, ne_eq, Bool.not_eq_true', Bool.not_eq_false', Bool.not_eq_eq_eq_not, Bool.not_true, Bool.not_false, Option.some.injEq, Option.getD_some, Option.getD_none]; omega)
          | (simp; done)
          | (simp; omega)
      refine SG.ret tab_ok Try.func15 rfl ?_
      intro ρ w' v hm hv
      exact Post.mk hm (.tup [.agg [.v (.int .i64 sz), .rs 0], .one (.v (.int .i64 0))]) [newE (L.take k ++ L.drop (k + 1))] none [5] hv rfl (rows1 (.of rfl rfl rfl (by simp; omega) rfl (fun i hi => free_row hlt i) (fun _ => rfl))) rfl (by simp)
    · refine SG.walk tab_ok mx 400 [true, false] [] ?_
      conv => whnf
      try dsimp only [rowL, rowN, growOk, hiN, fromL, tightN, maxOk]
      try simp (disch := omega) only [wI, wU64, wU32, wU8, Int.toNat_natCast, toNat_succ, toNat_pred, Int.reduceToNat, Option.getD_some, Option.getD_none, Nat.sub_zero, Nat.zero_add]
      refine ⟨?_, ?_⟩
      · try simp only [beq_iff_eq, beq_eq_false_iff_ne, bne_iff_ne, bne_eq_false_iff_eq, decide_eq_true_eq, decide_eq_false_iff_not, ne_eq, Bool.not_eq_true', Bool.not_eq_false', Bool.not_eq_eq_eq_not, Bool.not_true, Bool.not_false, true_and, and_true]
        try omega
      refine SG.sub [0, 1] [0] ⟨?_, ?_, ?_, by decide, rfl, rfl, rfl, ?_⟩ (next (k + 1) ⟨hlt, upto_succ hno (by simp [atB, hp, - List.getD_eq_getElem?_getD])⟩ (by omega))
      · repeat' (first | exact trivial | exact rfl | refine And.intro ?_ ?_)
      · repeat' (first | exact trivial | exact rfl | refine And.intro ?_ ?_)
      · repeat' (first | exact trivial | refine ⟨⟨_, rfl, ⟨rfl, rfl, .inl rfl, (fun h => by first | exact h | cases h), (fun h => by first | exact h | cases h), fun _ _ => rfl⟩, fun _ _ => rfl⟩, ?_⟩ | refine ⟨⟨_, rfl, ⟨rfl, rfl, .inr rfl, (fun h => by first | exact h | cases h), (fun h => by first | exact h | cases h), fun _ _ => rfl⟩, fun _ _ => rfl⟩, ?_⟩ | refine ⟨⟨_, rfl, ⟨rfl, rfl, .inr rfl, (fun h => by first | exact h | cases h), (fun h => by first | exact h | cases h), fun i hi => absurd hi (Nat.not_lt_zero i)⟩, fun i hi => absurd hi (Nat.not_lt_zero i)⟩, ?_⟩ | refine ⟨⟨_, rfl, ⟨rfl, rfl, .inl rfl, (fun h => by first | exact h | cases h), (fun h => by first | exact h | cases h), fun i hi => ren_closed (hQc i hi)⟩, fun i hi => inn_closed (hQc i hi)⟩, ?_⟩)
      · repeat' (first | exact trivial | exact rfl | refine And.intro ?_ ?_)
  · exfalso
    obtain ⟨y, hy, hay⟩ := List.any_eq_true.1 he
    obtain ⟨j, hj, rfl⟩ := List.getElem_of_mem hy
    have := hno j (by omega)
    rw [getD_mem hj, hay] at this
    cases this
set_option maxHeartbeats 2000000 in
set_option maxRecDepth 100000 in
theorem rTakeOk {r : Nat} {R : Row} {L : List E} {sz n who : Int} {x : E} (hr : Rs[r]? = some (some R)) (hR : RowLe R (rowE L)) (hl : L.length ≤ 5864062014700) (hs : sz ≤ 9223372036854775807) (hn : 1 ≤ n) (ht : Rt sz L) (hf : fit n sz L = some x) :
    CallOk Try.prog W B Rs 13 [heapV r sz, intV n, intV who] (hdTake sz x.1 0 (insAt x.1 n who L)) := by
  refine CallOk.enter Try.func13 (by kernel_rfl) rfl [r] [rowE L] [heapV 0 sz, intV n, intV who] rfl (rows1 (.ro_ hr hR rfl rfl (fun _ _ => rfl))) (fun r h => by cases h) rfl rfl ?_
  intro w blk hblk
  have hln := holes_len sz L
  refine SG.walk tab_ok mx 400 [false] [mkHd (.cv (.one (.lb true))) [], mkHd (rsV 0) [newE (holes sz L)]] ?_
  conv => whnf
  try dsimp only [rowL, rowN, growOk, hiN, fromL, tightN, maxOk]
  try simp (disch := omega) only [wI, wU64, wU32, wU8, Int.toNat_natCast, toNat_succ, toNat_pred, Int.reduceToNat, Option.getD_some, Option.getD_none, Nat.sub_zero, Nat.zero_add]
  refine ⟨?_, ?_⟩
  · exact ⟨rHoles (r := 0) rfl (.of rfl rfl (fun _ _ => rfl)) hl hs ht, by simp; omega, rRight (r := 0) rfl (.of rfl rfl (fun _ _ => rfl)) hl hs ⟨fun _ => ht, fun _ => rfl⟩⟩
  obtain ⟨_, ih, hih, hxi, _⟩ := List.find?_eq_some_iff_getElem.1 (show (holes sz L).find? (fits n) = some x from hf)
  refine SG.loop (fun i : Nat => ⟨puts (List.replicate (Try.f13).ntmps .any) [(0, heapV 0 sz), (1, intV n), (2, intV who), (3, bpV 0), (6, bpV 1), (10, rsV 1), (11, intV i)], [some [.v (.int .i64 sz), .rs 0], some [.v (.int .i64 0), .v (.slice none 0 0)]], [some (rowE L), some (newE (holes sz L))], []⟩) (fun i => i ≤ (holes sz L).length ∧ ∀ j, j < i → fits n ((holes sz L).getD j e0) = false) (fun i => (holes sz L).length - i) (0) (⟨Nat.zero_le _, fun j hj => by omega⟩) (fun h => SG.sub [0, 1] [0, 1] ⟨?_, ?_, ?_, by decide, rfl, rfl, rfl, ?_⟩ h) ?_
  · repeat' (first | exact trivial | exact rfl | refine And.intro ?_ ?_)
  · repeat' (first | exact trivial | exact rfl | refine And.intro ?_ ?_)
  · repeat' (first | exact trivial | refine ⟨⟨_, rfl, ⟨rfl, rfl, .inl rfl, (fun h => by first | exact h | cases h), (fun h => by first | exact h | cases h), fun _ _ => rfl⟩, fun _ _ => rfl⟩, ?_⟩ | refine ⟨⟨_, rfl, ⟨rfl, rfl, .inr rfl, (fun h => by first | exact h | cases h), (fun h => by first | exact h | cases h), fun _ _ => rfl⟩, fun _ _ => rfl⟩, ?_⟩ | refine ⟨⟨_, rfl, ⟨rfl, rfl, .inr rfl, (fun h => by first | exact h | cases h), (fun h => by first | exact h | cases h), fun i hi => absurd hi (Nat.not_lt_zero i)⟩, fun i hi => absurd hi (Nat.not_lt_zero i)⟩, ?_⟩ | refine ⟨⟨_, rfl, ⟨rfl, rfl, .inl rfl, (fun h => by first | exact h | cases h), (fun h => by first | exact h | cases h), fun i hi => ren_closed (hQc i hi)⟩, fun i hi => inn_closed (hQc i hi)⟩, ?_⟩)
  · repeat' (first | exact trivial | exact rfl | refine And.intro ?_ ?_)
  rintro i ⟨hi, hno⟩ next
  by_cases hlt : i < (holes sz L).length
  · by_cases hp : n ≤ ((holes sz L).getD i e0).2.1
    · have hx : (holes sz L).getD i e0 = x := by
        have h1 : (holes sz L).find? (fits n) = some (holes sz L)[i] := List.find?_eq_some_iff_getElem.2 ⟨by rw [← getD_mem hlt]; simpa [fits, - List.getD_eq_getElem?_getD] using hp, i, hlt, rfl, fun j hj => by have := hno j hj; rw [getD_mem (by omega)] at this; simpa using this⟩
        rw [getD_mem hlt]
        have h2 : (holes sz L).find? (fits n) = some x := hf
        rw [h1] at h2
        injection h2
      generalize holes sz L = Hs at *
      have h2 := List.findIdx_le_length (p := beh x.1) (xs := L)
      have hlo : ∀ j, j < L.findIdx (beh x.1) → ¬ (L.getD j e0).1 > x.1 := fun j hj => by
        have := List.not_of_lt_findIdx hj
        rw [getD_mem (by omega)]
        simpa [beh] using this
      have hhi : L.findIdx (beh x.1) < L.length → (L.getD (L.findIdx (beh x.1)) e0).1 > x.1 := fun hj => by
        have := List.findIdx_getElem (p := beh x.1) (xs := L) (w := hj)
        rw [getD_mem hj]
        simpa [beh] using this
      unfold insAt
      generalize L.findIdx (beh x.1) = q at *
      rw [show L.take q ++ (x.1, n, who) :: L.drop q = insQ q (x.1, n, who) L from rfl]
      have hQl := insQ_len (a := (x.1, n, who)) h2
      have hx1 : (Hs.getD i e0).1 = x.1 := by rw [hx]
      refine SG.walk tab_ok mx 400 [true, false] [] ?_
      conv => whnf
      try dsimp only [rowL, rowN, growOk, hiN, fromL, tightN, maxOk]
      try simp (disch := omega) only [wI, wU64, wU32, wU8, Int.toNat_natCast, toNat_succ, toNat_pred, Int.reduceToNat, Option.getD_some, Option.getD_none, Nat.sub_zero, Nat.zero_add]
      refine ⟨?_, ?_⟩
      · repeat' apply And.intro
        all_goals first
          | trivial
          | rfl
          | omega
          | ((try dsimp only [rowL, rowN]); simp only [beq_iff_eq, beq_eq_false_iff_ne, bne_iff_ne, bne_eq_false_iff_eq, decide_eq_true_eq, decide_eq_false_iff_not, ne_eq, Bool.not_eq_true', Bool.not_eq_false', Bool.not_eq_eq_eq_not, Bool.not_true, Bool.not_false, Option.some.injEq, Option.getD_some, Option.getD_none]; omega)
          | (simp; done)
          | (simp; omega)
      refine SG.nilRow 12 45 3 rfl ?_
      refine SG.norm ?_
      conv => whnf
      refine SG.loop (fun k : Nat => ⟨puts (List.replicate (Try.f13).ntmps .any) [(0, heapV 0 sz), (1, intV n), (2, intV who), (3, bpV 0), (6, bpV 1), (10, rsV 1), (11, intV i), (12, rsV 2), (13, .cv (.one (.lb (decide (q < k))))), (14, intV k)], [some [.v (.int .i64 sz), .rs 0], some [.v (.int .i64 0), .v (.slice none 0 0)]], [some (rowE L), some (newE Hs), some (newE ((insQ q (x.1, n, who) L).take (if q < k then k + 1 else k)))], []⟩) (fun k => k ≤ L.length) (fun k => L.length - k) (0) (Nat.zero_le _) (fun h => SG.sub [0, 1] [0, 1, 2] ⟨?_, ?_, ?_, by decide, rfl, rfl, rfl, ?_⟩ h) ?_
      · repeat' (first | exact trivial | exact rfl | refine And.intro ?_ ?_)
      · repeat' (first | exact trivial | exact rfl | refine And.intro ?_ ?_)
      · repeat' (first | exact trivial | refine ⟨⟨_, rfl, ⟨rfl, rfl, .inl rfl, (fun h => by first | exact h | cases h), (fun h => by first | exact h | cases h), fun _ _ => rfl⟩, fun _ _ => rfl⟩, ?_⟩ | refine ⟨⟨_, rfl, ⟨rfl, rfl, .inr rfl, (fun h => by first | exact h | cases h), (fun h => by first | exact h | cases h), fun _ _ => rfl⟩, fun _ _ => rfl⟩, ?_⟩ | refine ⟨⟨_, rfl, ⟨rfl, rfl, .inr rfl, (fun h => by first | exact h | cases h), (fun h => by first | exact h | cases h), fun i hi => absurd hi (Nat.not_lt_zero i)⟩, fun i hi => absurd hi (Nat.not_lt_zero i)⟩, ?_⟩ | refine ⟨⟨_, rfl, ⟨rfl, rfl, .inl rfl, (fun h => by first | exact h | cases h), (fun h => by first | exact h | cases h), fun i hi => ren_closed (hQc i hi)⟩, fun i hi => inn_closed (hQc i hi)⟩, ?_⟩)
      · repeat' (first | exact trivial | exact rfl | refine And.intro ?_ ?_)
      intro k hk next
      by_cases hqk : q < k
      · rw [if_pos hqk, decide_eq_true hqk]
        have hln : ((insQ q (x.1, n, who) L).take (k + 1)).length = k + 1 := by rw [List.length_take]; omega
        by_cases hlt2 : k < L.length
        · have e : (insQ q (x.1, n, who) L).take (k + 1 + 1) = (insQ q (x.1, n, who) L).take (k + 1) ++ [L.getD k e0] := by
            rw [take_snoc (by omega), insQ_gt h2 (by omega)]
          have nx := next (k + 1) hlt2 (by omega)
          rw [if_pos (show q < k + 1 by omega), decide_eq_true (show q < k + 1 by omega)] at nx
          generalize insQ q (x.1, n, who) L = Q at *
          refine SG.walk tab_ok mx 400 [true] [] ?_
          conv => whnf
          try dsimp only [rowL, rowN, growOk, hiN, fromL, tightN, maxOk]
          try simp (disch := omega) only [wI, wU64, wU32, wU8, Int.toNat_natCast, toNat_succ, toNat_pred, Int.reduceToNat, Option.getD_some, Option.getD_none, Nat.sub_zero, Nat.zero_add]
          refine ⟨?_, ?_⟩
          · repeat' apply And.intro
            all_goals first
              | trivial
              | rfl
              | omega
              | ((try dsimp only [rowL, rowN]); simp only [beq_iff_eq, beq_eq_false_iff_ne, bne_iff_ne, bne_eq_false_iff_eq, decide_eq_true_eq, decide_eq_false_iff_not, ne_eq, Bool.not_eq_true', Bool.not_eq_false', Bool.not_eq_eq_eq_not, Bool.not_true, Bool.not_false, Option.some.injEq, Option.getD_some, Option.getD_none]; omega)
              | (simp; done)
              | (simp; omega)
          refine SG.sub [0, 1] [0, 1, 4] ⟨?_, ?_, ?_, by decide, rfl, rfl, rfl, ?_⟩ nx
          · repeat' (first | exact trivial | exact rfl | refine And.intro ?_ ?_)
          · repeat' (first | exact trivial | exact rfl | refine And.intro ?_ ?_)
          · first | refine ⟨⟨_, rfl, ⟨rfl, rfl, .inl rfl, (fun h => by first | exact h | cases h), (fun h => by first | exact h | cases h), fun _ _ => rfl⟩, fun _ _ => rfl⟩, ?_⟩ | refine ⟨⟨_, rfl, ⟨rfl, rfl, .inr rfl, (fun h => by first | exact h | cases h), (fun h => by first | exact h | cases h), fun _ _ => rfl⟩, fun _ _ => rfl⟩, ?_⟩ | refine ⟨⟨_, rfl, ⟨rfl, rfl, .inr rfl, (fun h => by first | exact h | cases h), (fun h => by first | exact h | cases h), fun i hi => absurd hi (Nat.not_lt_zero i)⟩, fun i hi => absurd hi (Nat.not_lt_zero i)⟩, ?_⟩ | refine ⟨⟨_, rfl, ⟨rfl, rfl, .inl rfl, (fun h => by first | exact h | cases h), (fun h => by first | exact h | cases h), fun i hi => ren_closed (hQc i hi)⟩, fun i hi => inn_closed (hQc i hi)⟩, ?_⟩
            first | refine ⟨⟨_, rfl, ⟨rfl, rfl, .inl rfl, (fun h => by first | exact h | cases h), (fun h => by first | exact h | cases h), fun _ _ => rfl⟩, fun _ _ => rfl⟩, ?_⟩ | refine ⟨⟨_, rfl, ⟨rfl, rfl, .inr rfl, (fun h => by first | exact h | cases h), (fun h => by first | exact h | cases h), fun _ _ => rfl⟩, fun _ _ => rfl⟩, ?_⟩ | refine ⟨⟨_, rfl, ⟨rfl, rfl, .inr rfl, (fun h => by first | exact h | cases h), (fun h => by first | exact h | cases h), fun i hi => absurd hi (Nat.not_lt_zero i)⟩, fun i hi => absurd hi (Nat.not_lt_zero i)⟩, ?_⟩ | refine ⟨⟨_, rfl, ⟨rfl, rfl, .inl rfl, (fun h => by first | exact h | cases h), (fun h => by first | exact h | cases h), fun i hi => ren_closed (hQc i hi)⟩, fun i hi => inn_closed (hQc i hi)⟩, ?_⟩
            refine ⟨⟨_, rfl, (RowLe.snoc e rfl (fun i hi => if_pos hi) (by rw [if_neg (Nat.lt_irrefl _), Nat.sub_self]; rfl) (fun _ => rfl)), fun _ _ => rfl⟩, ?_⟩
            exact trivial
          · repeat' (first | exact trivial | exact rfl | refine And.intro ?_ ?_)
        · have e : (insQ q (x.1, n, who) L).take (k + 1) = insQ q (x.1, n, who) L := List.take_of_length_le (by omega)
          rw [e]
          generalize insQ q (x.1, n, who) L = Q at *
          rw [← hx1]
          refine SG.walk tab_ok mx 400 [false] [] ?_
          conv => whnf
          try dsimp only [rowL, rowN, growOk, hiN, fromL, tightN, maxOk]
          try simp (disch := omega) only [wI, wU64, wU32, wU8, Int.toNat_natCast, toNat_succ, toNat_pred, Int.reduceToNat, Option.getD_some, Option.getD_none, Nat.sub_zero, Nat.zero_add]
          refine ⟨?_, ?_⟩
          · repeat' apply And.intro
            all_goals first
              | trivial
              | rfl
              | omega
              | ((try dsimp only [rowL, rowN]); simp only [beq_iff_eq, beq_eq_false_iff_ne, bne_iff_ne, bne_eq_false_iff_eq, decide_eq_true_eq, decide_eq_false_iff_not, ne_eq, Bool.not_eq_true', Bool.not_eq_false', Bool.not_eq_eq_eq_not, Bool.not_true, Bool.not_false, Option.some.injEq, Option.getD_some, Option.getD_none]; omega)
              | (simp; done)
              | (simp; omega)
          refine SG.ret tab_ok Try.func13 rfl ?_
          intro ρ w' v hm hv
          exact Post.mk hm (.tup [.agg [.v (.int .i64 sz), .rs 0], .one (.v (.int .i64 (Hs.getD i e0).1)), .one (.v (.int .i64 0))]) [newE Q] none [2] hv rfl (rows1 (.of rfl rfl rfl rfl rfl (fun i hi => rfl) (fun _ => rfl))) rfl (by simp)
      · rw [if_neg hqk, decide_eq_false hqk]
        have hln : ((insQ q (x.1, n, who) L).take k).length = k := by rw [List.length_take]; omega
        by_cases hlt2 : k < L.length
        · by_cases hq : k = q
          · have hg : (L.getD k e0).1 > (Hs.getD i e0).1 := by rw [hx1, hq]; exact hhi (by omega)
            have e : (insQ q (x.1, n, who) L).take (k + 1 + 1) = ((insQ q (x.1, n, who) L).take k ++ [((Hs.getD i e0).1, n, who)]) ++ [L.getD k e0] := by
              rw [take_snoc (by omega), insQ_gt h2 (by omega), take_snoc (k := k) (by omega)]
              congr 3
              rw [hq, hx1]; exact insQ_eq h2
            have nx := next (k + 1) hlt2 (by omega)
            rw [if_pos (show q < k + 1 by omega), decide_eq_true (show q < k + 1 by omega)] at nx
            generalize insQ q (x.1, n, who) L = Q at *
            refine SG.walk tab_ok mx 400 [true, true, true] [] ?_
            conv => whnf
            try dsimp only [rowL, rowN, growOk, hiN, fromL, tightN, maxOk]
            try simp (disch := omega) only [wI, wU64, wU32, wU8, Int.toNat_natCast, toNat_succ, toNat_pred, Int.reduceToNat, Option.getD_some, Option.getD_none, Nat.sub_zero, Nat.zero_add]
            refine ⟨?_, ?_⟩
            · repeat' apply And.intro
              all_goals first
                | trivial
                | rfl
                | omega
                | ((try dsimp only [rowL, rowN]); simp only [beq_iff_eq, beq_eq_false_iff_ne, bne_iff_ne, bne_eq_false_iff_eq, decide_eq_true_eq, decide_eq_false_iff_not, ne_eq, Bool.not_eq_true', Bool.not_eq_false', Bool.not_eq_eq_eq_not, Bool.not_true, Bool.not_false, Option.some.injEq, Option.getD_some, Option.getD_none]; omega)
                | (simp; done)
                | (simp; omega)
            refine SG.sub [0, 1] [0, 1, 6] ⟨?_, ?_, ?_, by decide, rfl, rfl, rfl, ?_⟩ nx
            · repeat' (first | exact trivial | exact rfl | refine And.intro ?_ ?_)
            · repeat' (first | exact trivial | exact rfl | refine And.intro ?_ ?_)
            · first | refine ⟨⟨_, rfl, ⟨rfl, rfl, .inl rfl, (fun h => by first | exact h | cases h), (fun h => by first | exact h | cases h), fun _ _ => rfl⟩, fun _ _ => rfl⟩, ?_⟩ | refine ⟨⟨_, rfl, ⟨rfl, rfl, .inr rfl, (fun h => by first | exact h | cases h), (fun h => by first | exact h | cases h), fun _ _ => rfl⟩, fun _ _ => rfl⟩, ?_⟩ | refine ⟨⟨_, rfl, ⟨rfl, rfl, .inr rfl, (fun h => by first | exact h | cases h), (fun h => by first | exact h | cases h), fun i hi => absurd hi (Nat.not_lt_zero i)⟩, fun i hi => absurd hi (Nat.not_lt_zero i)⟩, ?_⟩ | refine ⟨⟨_, rfl, ⟨rfl, rfl, .inl rfl, (fun h => by first | exact h | cases h), (fun h => by first | exact h | cases h), fun i hi => ren_closed (hQc i hi)⟩, fun i hi => inn_closed (hQc i hi)⟩, ?_⟩
              first | refine ⟨⟨_, rfl, ⟨rfl, rfl, .inl rfl, (fun h => by first | exact h | cases h), (fun h => by first | exact h | cases h), fun _ _ => rfl⟩, fun _ _ => rfl⟩, ?_⟩ | refine ⟨⟨_, rfl, ⟨rfl, rfl, .inr rfl, (fun h => by first | exact h | cases h), (fun h => by first | exact h | cases h), fun _ _ => rfl⟩, fun _ _ => rfl⟩, ?_⟩ | refine ⟨⟨_, rfl, ⟨rfl, rfl, .inr rfl, (fun h => by first | exact h | cases h), (fun h => by first | exact h | cases h), fun i hi => absurd hi (Nat.not_lt_zero i)⟩, fun i hi => absurd hi (Nat.not_lt_zero i)⟩, ?_⟩ | refine ⟨⟨_, rfl, ⟨rfl, rfl, .inl rfl, (fun h => by first | exact h | cases h), (fun h => by first | exact h | cases h), fun i hi => ren_closed (hQc i hi)⟩, fun i hi => inn_closed (hQc i hi)⟩, ?_⟩
              refine ⟨⟨_, rfl, (RowLe.snoc2 e rfl (fun i hi => by rw [if_pos (by simp; omega), if_pos hi]) (by simp; rfl) (by simp; rfl) (fun _ => rfl)), fun _ _ => rfl⟩, ?_⟩
              exact trivial
            · repeat' (first | exact trivial | exact rfl | refine And.intro ?_ ?_)
          · have hg : ¬ (L.getD k e0).1 > (Hs.getD i e0).1 := by rw [hx1]; exact hlo k (by omega)
            have e : (insQ q (x.1, n, who) L).take (k + 1) = (insQ q (x.1, n, who) L).take k ++ [L.getD k e0] := by
              rw [take_snoc (by omega), insQ_lt h2 (by omega)]
            have nx := next (k + 1) hlt2 (by omega)
            rw [if_neg (show ¬ q < k + 1 by omega), decide_eq_false (show ¬ q < k + 1 by omega)] at nx
            generalize insQ q (x.1, n, who) L = Q at *
            refine SG.walk tab_ok mx 400 [true, false, false] [] ?_
            conv => whnf
            try dsimp only [rowL, rowN, growOk, hiN, fromL, tightN, maxOk]
            try simp (disch := omega) only [wI, wU64, wU32, wU8, Int.toNat_natCast, toNat_succ, toNat_pred, Int.reduceToNat, Option.getD_some, Option.getD_none, Nat.sub_zero, Nat.zero_add]
            refine ⟨?_, ?_⟩
            · repeat' apply And.intro
              all_goals first
                | trivial
                | rfl
                | omega
                | ((try dsimp only [rowL, rowN]); simp only [beq_iff_eq, beq_eq_false_iff_ne, bne_iff_ne, bne_eq_false_iff_eq, decide_eq_true_eq, decide_eq_false_iff_not, ne_eq, Bool.not_eq_true', Bool.not_eq_false', Bool.not_eq_eq_eq_not, Bool.not_true, Bool.not_false, Option.some.injEq, Option.getD_some, Option.getD_none]; omega)
                | (simp; done)
                | (simp; omega)
            refine SG.sub [0, 1] [0, 1, 4] ⟨?_, ?_, ?_, by decide, rfl, rfl, rfl, ?_⟩ nx
            · repeat' (first | exact trivial | exact rfl | refine And.intro ?_ ?_)
            · repeat' (first | exact trivial | exact rfl | refine And.intro ?_ ?_)
            · first | refine ⟨⟨_, rfl, ⟨rfl, rfl, .inl rfl, (fun h => by first | exact h | cases h), (fun h => by first | exact h | cases h), fun _ _ => rfl⟩, fun _ _ => rfl⟩, ?_⟩ | refine ⟨⟨_, rfl, ⟨rfl, rfl, .inr rfl, (fun h => by first | exact h | cases h), (fun h => by first | exact h | cases h), fun _ _ => rfl⟩, fun _ _ => rfl⟩, ?_⟩ | refine ⟨⟨_, rfl, ⟨rfl, rfl, .inr rfl, (fun h => by first | exact h | cases h), (fun h => by first | exact h | cases h), fun i hi => absurd hi (Nat.not_lt_zero i)⟩, fun i hi => absurd hi (Nat.not_lt_zero i)⟩, ?_⟩ | refine ⟨⟨_, rfl, ⟨rfl, rfl, .inl rfl, (fun h => by first | exact h | cases h), (fun h => by first | exact h | cases h), fun i hi => ren_closed (hQc i hi)⟩, fun i hi => inn_closed (hQc i hi)⟩, ?_⟩
              first | refine ⟨⟨_, rfl, ⟨rfl, rfl, .inl rfl, (fun h => by first | exact h | cases h), (fun h => by first | exact h | cases h), fun _ _ => rfl⟩, fun _ _ => rfl⟩, ?_⟩ | refine ⟨⟨_, rfl, ⟨rfl, rfl, .inr rfl, (fun h => by first | exact h | cases h), (fun h => by first | exact h | cases h), fun _ _ => rfl⟩, fun _ _ => rfl⟩, ?_⟩ | refine ⟨⟨_, rfl, ⟨rfl, rfl, .inr rfl, (fun h => by first | exact h | cases h), (fun h => by first | exact h | cases h), fun i hi => absurd hi (Nat.not_lt_zero i)⟩, fun i hi => absurd hi (Nat.not_lt_zero i)⟩, ?_⟩ | refine ⟨⟨_, rfl, ⟨rfl, rfl, .inl rfl, (fun h => by first | exact h | cases h), (fun h => by first | exact h | cases h), fun i hi => ren_closed (hQc i hi)⟩, fun i hi => inn_closed (hQc i hi)⟩, ?_⟩
              refine ⟨⟨_, rfl, (RowLe.snoc e rfl (fun i hi => if_pos hi) (by rw [if_neg (Nat.lt_irrefl _), Nat.sub_self]; rfl) (fun _ => rfl)), fun _ _ => rfl⟩, ?_⟩
              exact trivial
            · repeat' (first | exact trivial | exact rfl | refine And.intro ?_ ?_)
        · have hqe : k = q := by omega
          have e : insQ q (x.1, n, who) L = (insQ q (x.1, n, who) L).take k ++ [((Hs.getD i e0).1, n, who)] := by
            have := take_snoc (L := insQ q (x.1, n, who) L) (k := k) (by omega)
            rw [List.take_of_length_le (by omega)] at this
            rw [hqe] at this ⊢
            rw [insQ_eq h2] at this
            rw [hx1]
            exact this
          generalize insQ q (x.1, n, who) L = Q at *
          rw [← hx1]
          refine SG.walk tab_ok mx 400 [false] [] ?_
          conv => whnf
          try dsimp only [rowL, rowN, growOk, hiN, fromL, tightN, maxOk]
          try simp (disch := omega) only [wI, wU64, wU32, wU8, Int.toNat_natCast, toNat_succ, toNat_pred, Int.reduceToNat, Option.getD_some, Option.getD_none, Nat.sub_zero, Nat.zero_add]
          refine ⟨?_, ?_⟩
          · repeat' apply And.intro
            all_goals first
              | trivial
              | rfl
              | omega
              | ((try dsimp only [rowL, rowN]); simp only [beq_iff_eq, beq_eq_false_iff_ne, bne_iff_ne, bne_eq_false_iff_eq, decide_eq_true_eq, decide_eq_false_iff_not, ne_eq, Bool.not_eq_true', Bool.not_eq_false', Bool.not_eq_eq_eq_not, Bool.not_true, Bool.not_false, Option.some.injEq, Option.getD_some, Option.getD_none]; omega)
              | (simp; done)
              | (simp; omega)
          refine SG.ret tab_ok Try.func13 rfl ?_
          intro ρ w' v hm hv
          exact Post.mk hm (.tup [.agg [.v (.int .i64 sz), .rs 0], .one (.v (.int .i64 (Hs.getD i e0).1)), .one (.v (.int .i64 0))]) [newE Q] none [4] hv rfl (rows1 ⟨⟨_, rfl, RowLe.snoc e rfl (fun i hi => if_pos hi) (by rw [if_neg (Nat.lt_irrefl _), Nat.sub_self]; rfl) (fun _ => rfl), rfl⟩, fun _ _ => rfl⟩) rfl (by simp)
    · refine SG.walk tab_ok mx 400 [true, true] [] ?_
      conv => whnf
      try dsimp only [rowL, rowN, growOk, hiN, fromL, tightN, maxOk]
      try simp (disch := omega) only [wI, wU64, wU32, wU8, Int.toNat_natCast, toNat_succ, toNat_pred, Int.reduceToNat, Option.getD_some, Option.getD_none, Nat.sub_zero, Nat.zero_add]
      refine ⟨?_, ?_⟩
      · repeat' apply And.intro
        all_goals first
          | trivial
          | rfl
          | omega
          | ((try dsimp only [rowL, rowN]); simp only [beq_iff_eq, beq_eq_false_iff_ne, bne_iff_ne, bne_eq_false_iff_eq, decide_eq_true_eq, decide_eq_false_iff_not, ne_eq, Bool.not_eq_true', Bool.not_eq_false', Bool.not_eq_eq_eq_not, Bool.not_true, Bool.not_false, Option.some.injEq, Option.getD_some, Option.getD_none]; omega)
          | (simp; done)
          | (simp; omega)
      refine SG.sub [0, 1] [0, 1] ⟨?_, ?_, ?_, by decide, rfl, rfl, rfl, ?_⟩ (next (i + 1) ⟨hlt, upto_succ hno (by simp only [fits, decide_eq_false_iff_not]; exact hp)⟩ (by omega))
      · repeat' (first | exact trivial | exact rfl | refine And.intro ?_ ?_)
      · repeat' (first | exact trivial | exact rfl | refine And.intro ?_ ?_)
      · repeat' (first | exact trivial | refine ⟨⟨_, rfl, ⟨rfl, rfl, .inl rfl, (fun h => by first | exact h | cases h), (fun h => by first | exact h | cases h), fun _ _ => rfl⟩, fun _ _ => rfl⟩, ?_⟩ | refine ⟨⟨_, rfl, ⟨rfl, rfl, .inr rfl, (fun h => by first | exact h | cases h), (fun h => by first | exact h | cases h), fun _ _ => rfl⟩, fun _ _ => rfl⟩, ?_⟩ | refine ⟨⟨_, rfl, ⟨rfl, rfl, .inr rfl, (fun h => by first | exact h | cases h), (fun h => by first | exact h | cases h), fun i hi => absurd hi (Nat.not_lt_zero i)⟩, fun i hi => absurd hi (Nat.not_lt_zero i)⟩, ?_⟩ | refine ⟨⟨_, rfl, ⟨rfl, rfl, .inl rfl, (fun h => by first | exact h | cases h), (fun h => by first | exact h | cases h), fun i hi => ren_closed (hQc i hi)⟩, fun i hi => inn_closed (hQc i hi)⟩, ?_⟩)
      · repeat' (first | exact trivial | exact rfl | refine And.intro ?_ ?_)
  · exfalso
    have h1 := List.find?_some (show (holes sz L).find? (fits n) = some x from hf)
    have := hno ih (by omega)
    rw [getD_mem hih, hxi, h1] at this
    cases this
end
end Go.Proofs.Ytpbpgkkfpfenhaa
