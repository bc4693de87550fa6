/- Tables: the document's Put and Adopt; rows that are the same. -/
import Derived.Test.YthdpigdbkljiiaaTbP
namespace Go.Proofs.Ythdpigdbkljiiaa
open Go.Sx Go.RowKit
set_option linter.unusedVariables false
set_option linter.unusedSimpArgs false
theorem take_snoc {L : List E} {k : Nat} (h : k < L.length) : L.take (k + 1) = L.take k ++ [L.getD k e0] := by
  rw [List.take_succ_eq_append_getElem h, getD_mem h]
def insQ (m : Nat) (a : E) (L : List E) : List E := L.take m ++ a :: L.drop m
theorem insQ_len {m : Nat} {a : E} {L : List E} (h : m ≤ L.length) : (insQ m a L).length = L.length + 1 := by simp [insQ]; omega
theorem insQ_lt {m k : Nat} {a : E} {L : List E} (h : m ≤ L.length) (hk : k < m) : (insQ m a L).getD k e0 = L.getD k e0 := by
  simp only [insQ, List.getD_eq_getElem?_getD]
  rw [List.getElem?_append_left (by simp; omega), List.getElem?_take, if_pos hk]
theorem insQ_eq {m : Nat} {a : E} {L : List E} (h : m ≤ L.length) : (insQ m a L).getD m e0 = a := by
  simp only [insQ, List.getD_eq_getElem?_getD]
  rw [List.getElem?_append_right (by simp; omega)]
  simp [Nat.min_eq_left h]
theorem insQ_gt {m k : Nat} {a : E} {L : List E} (h : m ≤ L.length) (hk : m ≤ k) : (insQ m a L).getD (k + 1) e0 = L.getD k e0 := by
  simp only [insQ, List.getD_eq_getElem?_getD]
  rw [List.getElem?_append_right (by simp; omega)]
  rw [List.length_take, Nat.min_eq_left h, show k + 1 - m = (k - m) + 1 by omega, List.getElem?_cons_succ, List.getElem?_drop, show m + (k - m) = k by omega]
section
variable {W : Base} {B : List (Option (List At))} {Rs : List (Option Row)}
set_option maxRecDepth 100000 in
theorem rPutT {r : Nat} {R : Row} {L : List E} {a : E} (hr : Rs[r]? = some (some R)) (hR : RowLe R (rowE L)) (hl : L.length ≤ 837723144960) :
    CallOk Try.prog W B Rs 18 [rsV r, eV a] (hdE (putE a L)) := by
  refine CallOk.enter Try.func18 (by kernel_rfl) rfl [r] [rowE L] [rsV 0, eV a] rfl (rows1 (.ro_ hr hR rfl rfl (fun _ _ => rfl))) (fun r h => by cases h) rfl rfl ?_
  intro w blk hblk
  have hAt := fun {W : Base} {B : List (Option (List At))} {Rs : List (Option Row)} {R : Row} (h1 : Rs[0]? = some (some R)) (h2 : RowLe R (rowE L)) => @rAtT W B Rs 0 R L a.pid h1 h2 hl
  unfold putE
  unfold ixP at hAt
  generalize L.findIdx (isP a.pid) = m at *
  by_cases hm : m < L.length
  · rw [if_pos hm]
    rw [if_pos hm] at hAt
    refine SG.walk tab_ok mx 400 [] [hdInt m] ?_
    conv => whnf
    try dsimp only [rowL, rowN, growOk, hiN, fromL, tightN, maxOk]
    try simp (disch := omega) only [wI, wU64, wU32, wU8, Int.toNat_natCast, toNat_succ, toNat_pred, Int.reduceToNat, Option.getD_some, Option.getD_none, Nat.sub_zero, Nat.zero_add]
    refine ⟨?_, ?_⟩
    · exact hAt rfl (.of rfl rfl (fun _ _ => rfl))
    refine SG.lbSlot 7 rfl (show decide ((m : Int) ≥ 0) = true by simp) ?_
    refine SG.norm ?_
    conv => whnf
    refine SG.nilRow 6 33 26 rfl ?_
    refine SG.norm ?_
    conv => whnf
    have hQ : (L.set m a).length = L.length := by simp
    refine SG.loop (fun k : Nat => ⟨puts (List.replicate (Try.f18).ntmps .any) [(0, rsV 0), (1, eV a), (3, bpV 0), (5, intV m), (6, rsV 1), (7, trueV), (8, intV k)], [some (eC a)], [some (rowE L), some (newE ((L.set m a).take k))], []⟩) (fun k => k ≤ L.length) (fun k => L.length - k) (0) (Nat.zero_le _) (fun h => SG.sub [0] [0, 1] ⟨?_, ?_, ?_, by decide, rfl, rfl, rfl, ?_⟩ h) ?_
    · repeat' (first | exact trivial | exact rfl | refine And.intro ?_ ?_)
    · repeat' (first | exact trivial | exact rfl | refine And.intro ?_ ?_)
    · repeat' (first | exact trivial | refine ⟨⟨_, rfl, ⟨rfl, rfl, .inl rfl, (fun h => by first | exact h | cases h), (fun h => by first | exact h | cases h), fun _ _ => rfl⟩, fun _ _ => rfl⟩, ?_⟩ | refine ⟨⟨_, rfl, ⟨rfl, rfl, .inr rfl, (fun h => by first | exact h | cases h), (fun h => by first | exact h | cases h), fun _ _ => rfl⟩, fun _ _ => rfl⟩, ?_⟩ | refine ⟨⟨_, rfl, ⟨rfl, rfl, .inr rfl, (fun h => by first | exact h | cases h), (fun h => by first | exact h | cases h), fun i hi => absurd hi (Nat.not_lt_zero i)⟩, fun i hi => absurd hi (Nat.not_lt_zero i)⟩, ?_⟩ | refine ⟨⟨_, rfl, ⟨rfl, rfl, .inl rfl, (fun h => by first | exact h | cases h), (fun h => by first | exact h | cases h), fun i hi => ren_closed (hQc i hi)⟩, fun i hi => inn_closed (hQc i hi)⟩, ?_⟩)
    · repeat' (first | exact trivial | exact rfl | refine And.intro ?_ ?_)
    intro k hk next
    have hln : ((L.set m a).take k).length = k := by simp; omega
    by_cases hlt : k < L.length
    · have e0' := take_snoc (L := L.set m a) (k := k) (by omega)
      by_cases hp : k = m
      · have e : (L.set m a).take (k + 1) = (L.set m a).take k ++ [a] := by
          rw [e0']; subst hp; simp [List.getD_eq_getElem?_getD, hlt]
        refine SG.walk tab_ok mx 400 [true, true] [] ?_
        conv => whnf
        try dsimp only [rowL, rowN, growOk, hiN, fromL, tightN, maxOk]
        try simp (disch := omega) only [wI, wU64, wU32, wU8, Int.toNat_natCast, toNat_succ, toNat_pred, Int.reduceToNat, Option.getD_some, Option.getD_none, Nat.sub_zero, Nat.zero_add]
        refine ⟨?_, ?_⟩
        · try simp only [beq_iff_eq, beq_eq_false_iff_ne, bne_iff_ne, bne_eq_false_iff_eq, decide_eq_true_eq, decide_eq_false_iff_not, ne_eq, Bool.not_eq_true', Bool.not_eq_false', Bool.not_eq_eq_eq_not, Bool.not_true, Bool.not_false, true_and, and_true]
          try omega
        refine SG.sub [0] [0, 3] ⟨?_, ?_, ?_, by decide, rfl, rfl, rfl, ?_⟩ (next (k + 1) hlt (by omega))
        · repeat' (first | exact trivial | exact rfl | refine And.intro ?_ ?_)
        · repeat' (first | exact trivial | exact rfl | refine And.intro ?_ ?_)
        · first | refine ⟨⟨_, rfl, ⟨rfl, rfl, .inl rfl, (fun h => by first | exact h | cases h), (fun h => by first | exact h | cases h), fun _ _ => rfl⟩, fun _ _ => rfl⟩, ?_⟩ | refine ⟨⟨_, rfl, ⟨rfl, rfl, .inr rfl, (fun h => by first | exact h | cases h), (fun h => by first | exact h | cases h), fun _ _ => rfl⟩, fun _ _ => rfl⟩, ?_⟩ | refine ⟨⟨_, rfl, ⟨rfl, rfl, .inr rfl, (fun h => by first | exact h | cases h), (fun h => by first | exact h | cases h), fun i hi => absurd hi (Nat.not_lt_zero i)⟩, fun i hi => absurd hi (Nat.not_lt_zero i)⟩, ?_⟩ | refine ⟨⟨_, rfl, ⟨rfl, rfl, .inl rfl, (fun h => by first | exact h | cases h), (fun h => by first | exact h | cases h), fun i hi => ren_closed (hQc i hi)⟩, fun i hi => inn_closed (hQc i hi)⟩, ?_⟩
          refine ⟨⟨_, rfl, (RowLe.snoc e rfl (fun i hi => if_pos hi) (by rw [if_neg (Nat.lt_irrefl _), Nat.sub_self]; rfl) (fun _ => rfl)), fun _ _ => rfl⟩, ?_⟩
          exact trivial
        · repeat' (first | exact trivial | exact rfl | refine And.intro ?_ ?_)
      · have e : (L.set m a).take (k + 1) = (L.set m a).take k ++ [L.getD k e0] := by
          rw [e0']; simp [List.getD_eq_getElem?_getD, List.getElem?_set_ne (Ne.symm hp)]
        refine SG.walk tab_ok mx 400 [true, false] [] ?_
        conv => whnf
        try dsimp only [rowL, rowN, growOk, hiN, fromL, tightN, maxOk]
        try simp (disch := omega) only [wI, wU64, wU32, wU8, Int.toNat_natCast, toNat_succ, toNat_pred, Int.reduceToNat, Option.getD_some, Option.getD_none, Nat.sub_zero, Nat.zero_add]
        refine ⟨?_, ?_⟩
        · try simp only [beq_iff_eq, beq_eq_false_iff_ne, bne_iff_ne, bne_eq_false_iff_eq, decide_eq_true_eq, decide_eq_false_iff_not, ne_eq, Bool.not_eq_true', Bool.not_eq_false', Bool.not_eq_eq_eq_not, Bool.not_true, Bool.not_false, true_and, and_true]
          try omega

        refine SG.sub [0] [0, 3] ⟨?_, ?_, ?_, by decide, rfl, rfl, rfl, ?_⟩ (next (k + 1) hlt (by omega))
        · repeat' (first | exact trivial | exact rfl | refine And.intro ?_ ?_)
        · repeat' (first | exact trivial | exact rfl | refine And.intro ?_ ?_)
        · first | refine ⟨⟨_, rfl, ⟨rfl, rfl, .inl rfl, (fun h => by first | exact h | cases h), (fun h => by first | exact h | cases h), fun _ _ => rfl⟩, fun _ _ => rfl⟩, ?_⟩ | refine ⟨⟨_, rfl, ⟨rfl, rfl, .inr rfl, (fun h => by first | exact h | cases h), (fun h => by first | exact h | cases h), fun _ _ => rfl⟩, fun _ _ => rfl⟩, ?_⟩ | refine ⟨⟨_, rfl, ⟨rfl, rfl, .inr rfl, (fun h => by first | exact h | cases h), (fun h => by first | exact h | cases h), fun i hi => absurd hi (Nat.not_lt_zero i)⟩, fun i hi => absurd hi (Nat.not_lt_zero i)⟩, ?_⟩ | refine ⟨⟨_, rfl, ⟨rfl, rfl, .inl rfl, (fun h => by first | exact h | cases h), (fun h => by first | exact h | cases h), fun i hi => ren_closed (hQc i hi)⟩, fun i hi => inn_closed (hQc i hi)⟩, ?_⟩
          refine ⟨⟨_, rfl, (RowLe.snoc e rfl (fun i hi => if_pos hi) (by rw [if_neg (Nat.lt_irrefl _), Nat.sub_self]; rfl) (fun _ => rfl)), fun _ _ => rfl⟩, ?_⟩
          exact trivial
        · repeat' (first | exact trivial | exact rfl | refine And.intro ?_ ?_)
    · refine SG.walk tab_ok mx 400 [false] [] ?_
      conv => whnf
      try dsimp only [rowL, rowN, growOk, hiN, fromL, tightN, maxOk]
      try simp (disch := omega) only [wI, wU64, wU32, wU8, Int.toNat_natCast, toNat_succ, toNat_pred, Int.reduceToNat, Option.getD_some, Option.getD_none, Nat.sub_zero, Nat.zero_add]
      refine ⟨?_, ?_⟩
      · try simp only [beq_iff_eq, beq_eq_false_iff_ne, bne_iff_ne, bne_eq_false_iff_eq, decide_eq_true_eq, decide_eq_false_iff_not, ne_eq, Bool.not_eq_true', Bool.not_eq_false', Bool.not_eq_eq_eq_not, Bool.not_true, Bool.not_false, true_and, and_true]
        try omega
      rw [List.take_of_length_le (by omega)]
      refine SG.ret tab_ok Try.func18 rfl ?_
      intro ρ w' v hm hv
      exact Post.mk hm (rsV 0) [newE (L.set m a)] none [1] hv rfl (rows1 (.of rfl rfl rfl rfl rfl (fun i hi => rfl) (fun _ => rfl))) rfl (by simp)
  · rw [if_neg hm]
    rw [if_neg hm] at hAt
    have h2 := List.findIdx_le_length (p := gtP a.pid) (xs := L)
    have hlo : ∀ j, j < L.findIdx (gtP a.pid) → ¬ (L.getD j e0).pid > a.pid := fun j hj => by
      have := List.not_of_lt_findIdx hj
      rw [getD_mem (by omega)]
      simpa [gtP] using this
    have hhi : L.findIdx (gtP a.pid) < L.length → (L.getD (L.findIdx (gtP a.pid)) e0).pid > a.pid := fun hj => by
      have := List.findIdx_getElem (p := gtP a.pid) (xs := L) (w := hj)
      rw [getD_mem hj]
      simpa [gtP] using this
    generalize L.findIdx (gtP a.pid) = q at *
    rw [show L.take q ++ a :: L.drop q = insQ q a L from rfl]
    have hQl := insQ_len (a := a) h2
    refine SG.walk tab_ok mx 400 [] [hdInt (-1)] ?_
    conv => whnf
    try dsimp only [rowL, rowN, growOk, hiN, fromL, tightN, maxOk]
    try simp (disch := omega) only [wI, wU64, wU32, wU8, Int.toNat_natCast, toNat_succ, toNat_pred, Int.reduceToNat, Option.getD_some, Option.getD_none, Nat.sub_zero, Nat.zero_add]
    refine ⟨?_, ?_⟩
    · exact hAt rfl (.of rfl rfl (fun _ _ => rfl))
    refine SG.lbSlot 7 rfl (show decide ((-1 : Int) ≥ 0) = false by decide) ?_
    refine SG.norm ?_
    conv => whnf
    refine SG.nilRow 6 33 26 rfl ?_
    refine SG.norm ?_
    conv => whnf
    refine SG.loop (fun k : Nat => ⟨puts (List.replicate (Try.f18).ntmps .any) [(0, rsV 0), (1, eV a), (3, bpV 0), (5, intV (-1)), (6, rsV 1), (7, .cv (.one (.lb (decide (q < k))))), (8, intV k)], [some (eC a)], [some (rowE L), some (newE ((insQ q a L).take (if q < k then k + 1 else k)))], []⟩) (fun k => k ≤ L.length) (fun k => L.length - k) (0) (Nat.zero_le _) (fun h => SG.sub [0] [0, 1] ⟨?_, ?_, ?_, by decide, rfl, rfl, rfl, ?_⟩ h) ?_
    · repeat' (first | exact trivial | exact rfl | refine And.intro ?_ ?_)
    · repeat' (first | exact trivial | exact rfl | refine And.intro ?_ ?_)
    · repeat' (first | exact trivial | refine ⟨⟨_, rfl, ⟨rfl, rfl, .inl rfl, (fun h => by first | exact h | cases h), (fun h => by first | exact h | cases h), fun _ _ => rfl⟩, fun _ _ => rfl⟩, ?_⟩ | refine ⟨⟨_, rfl, ⟨rfl, rfl, .inr rfl, (fun h => by first | exact h | cases h), (fun h => by first | exact h | cases h), fun _ _ => rfl⟩, fun _ _ => rfl⟩, ?_⟩ | refine ⟨⟨_, rfl, ⟨rfl, rfl, .inr rfl, (fun h => by first | exact h | cases h), (fun h => by first | exact h | cases h), fun i hi => absurd hi (Nat.not_lt_zero i)⟩, fun i hi => absurd hi (Nat.not_lt_zero i)⟩, ?_⟩ | refine ⟨⟨_, rfl, ⟨rfl, rfl, .inl rfl, (fun h => by first | exact h | cases h), (fun h => by first | exact h | cases h), fun i hi => ren_closed (hQc i hi)⟩, fun i hi => inn_closed (hQc i hi)⟩, ?_⟩)
    · repeat' (first | exact trivial | exact rfl | refine And.intro ?_ ?_)
    intro k hk next
    by_cases hqk : q < k
    · rw [if_pos hqk, decide_eq_true hqk]
      have hln : ((insQ q a L).take (k + 1)).length = k + 1 := by rw [List.length_take]; omega
      by_cases hlt : k < L.length
      · have e : (insQ q a L).take (k + 1 + 1) = (insQ q a L).take (k + 1) ++ [L.getD k e0] := by
          rw [take_snoc (by omega), insQ_gt h2 (by omega)]
        have nx := next (k + 1) hlt (by omega)
        rw [if_pos (show q < k + 1 by omega), decide_eq_true (show q < k + 1 by omega)] at nx
        generalize insQ q a L = Q at *
        refine SG.walk tab_ok mx 400 [true, false] [] ?_
        conv => whnf
        try dsimp only [rowL, rowN, growOk, hiN, fromL, tightN, maxOk]
        try simp (disch := omega) only [wI, wU64, wU32, wU8, Int.toNat_natCast, toNat_succ, toNat_pred, Int.reduceToNat, Option.getD_some, Option.getD_none, Nat.sub_zero, Nat.zero_add]
        refine ⟨?_, ?_⟩
        · try simp only [beq_iff_eq, beq_eq_false_iff_ne, bne_iff_ne, bne_eq_false_iff_eq, decide_eq_true_eq, decide_eq_false_iff_not, ne_eq, Bool.not_eq_true', Bool.not_eq_false', Bool.not_eq_eq_eq_not, Bool.not_true, Bool.not_false, true_and, and_true]
          try omega
        refine SG.sub [0] [0, 3] ⟨?_, ?_, ?_, by decide, rfl, rfl, rfl, ?_⟩ nx
        · repeat' (first | exact trivial | exact rfl | refine And.intro ?_ ?_)
        · repeat' (first | exact trivial | exact rfl | refine And.intro ?_ ?_)
        · first | refine ⟨⟨_, rfl, ⟨rfl, rfl, .inl rfl, (fun h => by first | exact h | cases h), (fun h => by first | exact h | cases h), fun _ _ => rfl⟩, fun _ _ => rfl⟩, ?_⟩ | refine ⟨⟨_, rfl, ⟨rfl, rfl, .inr rfl, (fun h => by first | exact h | cases h), (fun h => by first | exact h | cases h), fun _ _ => rfl⟩, fun _ _ => rfl⟩, ?_⟩ | refine ⟨⟨_, rfl, ⟨rfl, rfl, .inr rfl, (fun h => by first | exact h | cases h), (fun h => by first | exact h | cases h), fun i hi => absurd hi (Nat.not_lt_zero i)⟩, fun i hi => absurd hi (Nat.not_lt_zero i)⟩, ?_⟩ | refine ⟨⟨_, rfl, ⟨rfl, rfl, .inl rfl, (fun h => by first | exact h | cases h), (fun h => by first | exact h | cases h), fun i hi => ren_closed (hQc i hi)⟩, fun i hi => inn_closed (hQc i hi)⟩, ?_⟩
          refine ⟨⟨_, rfl, (RowLe.snoc e rfl (fun i hi => if_pos hi) (by rw [if_neg (Nat.lt_irrefl _), Nat.sub_self]; rfl) (fun _ => rfl)), fun _ _ => rfl⟩, ?_⟩
          exact trivial
        · repeat' (first | exact trivial | exact rfl | refine And.intro ?_ ?_)
      · have e : (insQ q a L).take (k + 1) = insQ q a L := List.take_of_length_le (by omega)
        rw [e]
        generalize insQ q a L = Q at *
        refine SG.walk tab_ok mx 400 [false] [] ?_
        conv => whnf
        try dsimp only [rowL, rowN, growOk, hiN, fromL, tightN, maxOk]
        try simp (disch := omega) only [wI, wU64, wU32, wU8, Int.toNat_natCast, toNat_succ, toNat_pred, Int.reduceToNat, Option.getD_some, Option.getD_none, Nat.sub_zero, Nat.zero_add]
        refine ⟨?_, ?_⟩
        · try simp only [beq_iff_eq, beq_eq_false_iff_ne, bne_iff_ne, bne_eq_false_iff_eq, decide_eq_true_eq, decide_eq_false_iff_not, ne_eq, Bool.not_eq_true', Bool.not_eq_false', Bool.not_eq_eq_eq_not, Bool.not_true, Bool.not_false, true_and, and_true]
          try omega
        refine SG.ret tab_ok Try.func18 rfl ?_
        intro ρ w' v hm hv
        exact Post.mk hm (rsV 0) [newE Q] none [1] hv rfl (rows1 (.of rfl rfl rfl rfl rfl (fun i hi => rfl) (fun _ => rfl))) rfl (by simp)
    · rw [if_neg hqk, decide_eq_false hqk]
      have hln : ((insQ q a L).take k).length = k := by rw [List.length_take]; omega
      by_cases hlt : k < L.length
      · by_cases hq : k = q
        · have hg : (L.getD k e0).pid > a.pid := by rw [hq]; exact hhi (by omega)
          have e : (insQ q a L).take (k + 1 + 1) = ((insQ q a L).take k ++ [a]) ++ [L.getD k e0] := by
            rw [take_snoc (by omega), insQ_gt h2 (by omega), take_snoc (k := k) (by omega)]
            congr 3
            rw [hq]; exact insQ_eq h2
          have nx := next (k + 1) hlt (by omega)
          rw [if_pos (show q < k + 1 by omega), decide_eq_true (show q < k + 1 by omega)] at nx
          generalize insQ q a L = Q at *
          refine SG.walk tab_ok mx 400 [true, true, false] [] ?_
          conv => whnf
          try dsimp only [rowL, rowN, growOk, hiN, fromL, tightN, maxOk]
          try simp (disch := omega) only [wI, wU64, wU32, wU8, Int.toNat_natCast, toNat_succ, toNat_pred, Int.reduceToNat, Option.getD_some, Option.getD_none, Nat.sub_zero, Nat.zero_add]
          refine ⟨?_, ?_⟩
          · try simp only [beq_iff_eq, beq_eq_false_iff_ne, bne_iff_ne, bne_eq_false_iff_eq, decide_eq_true_eq, decide_eq_false_iff_not, ne_eq, Bool.not_eq_true', Bool.not_eq_false', Bool.not_eq_eq_eq_not, Bool.not_true, Bool.not_false, true_and, and_true]
            try omega
          refine SG.sub [0] [0, 5] ⟨?_, ?_, ?_, by decide, rfl, rfl, rfl, ?_⟩ nx
          · repeat' (first | exact trivial | exact rfl | refine And.intro ?_ ?_)
          · repeat' (first | exact trivial | exact rfl | refine And.intro ?_ ?_)
          · first | refine ⟨⟨_, rfl, ⟨rfl, rfl, .inl rfl, (fun h => by first | exact h | cases h), (fun h => by first | exact h | cases h), fun _ _ => rfl⟩, fun _ _ => rfl⟩, ?_⟩ | refine ⟨⟨_, rfl, ⟨rfl, rfl, .inr rfl, (fun h => by first | exact h | cases h), (fun h => by first | exact h | cases h), fun _ _ => rfl⟩, fun _ _ => rfl⟩, ?_⟩ | refine ⟨⟨_, rfl, ⟨rfl, rfl, .inr rfl, (fun h => by first | exact h | cases h), (fun h => by first | exact h | cases h), fun i hi => absurd hi (Nat.not_lt_zero i)⟩, fun i hi => absurd hi (Nat.not_lt_zero i)⟩, ?_⟩ | refine ⟨⟨_, rfl, ⟨rfl, rfl, .inl rfl, (fun h => by first | exact h | cases h), (fun h => by first | exact h | cases h), fun i hi => ren_closed (hQc i hi)⟩, fun i hi => inn_closed (hQc i hi)⟩, ?_⟩
            refine ⟨⟨_, rfl, (RowLe.snoc2 e rfl (fun i hi => by rw [if_pos (by simp; omega), if_pos hi]) (by simp; rfl) (by simp; rfl) (fun _ => rfl)), fun _ _ => rfl⟩, ?_⟩
            exact trivial
          · repeat' (first | exact trivial | exact rfl | refine And.intro ?_ ?_)
        · have hg := hlo k (by omega)
          have e : (insQ q a L).take (k + 1) = (insQ q a L).take k ++ [L.getD k e0] := by
            rw [take_snoc (by omega), insQ_lt h2 (by omega)]
          have nx := next (k + 1) hlt (by omega)
          rw [if_neg (show ¬ q < k + 1 by omega), decide_eq_false (show ¬ q < k + 1 by omega)] at nx
          generalize insQ q a L = Q at *
          refine SG.walk tab_ok mx 400 [true, false, false] [] ?_
          conv => whnf
          try dsimp only [rowL, rowN, growOk, hiN, fromL, tightN, maxOk]
          try simp (disch := omega) only [wI, wU64, wU32, wU8, Int.toNat_natCast, toNat_succ, toNat_pred, Int.reduceToNat, Option.getD_some, Option.getD_none, Nat.sub_zero, Nat.zero_add]
          refine ⟨?_, ?_⟩
          · try simp only [beq_iff_eq, beq_eq_false_iff_ne, bne_iff_ne, bne_eq_false_iff_eq, decide_eq_true_eq, decide_eq_false_iff_not, ne_eq, Bool.not_eq_true', Bool.not_eq_false', Bool.not_eq_eq_eq_not, Bool.not_true, Bool.not_false, true_and, and_true]
            try omega
          refine SG.sub [0] [0, 3] ⟨?_, ?_, ?_, by decide, rfl, rfl, rfl, ?_⟩ nx
          · repeat' (first | exact trivial | exact rfl | refine And.intro ?_ ?_)
          · repeat' (first | exact trivial | exact rfl | refine And.intro ?_ ?_)
          · first | refine ⟨⟨_, rfl, ⟨rfl, rfl, .inl rfl, (fun h => by first | exact h | cases h), (fun h => by first | exact h | cases h), fun _ _ => rfl⟩, fun _ _ => rfl⟩, ?_⟩ | refine ⟨⟨_, rfl, ⟨rfl, rfl, .inr rfl, (fun h => by first | exact h | cases h), (fun h => by first | exact h | cases h), fun _ _ => rfl⟩, fun _ _ => rfl⟩, ?_⟩ | refine ⟨⟨_, rfl, ⟨rfl, rfl, .inr rfl, (fun h => by first | exact h | cases h), (fun h => by first | exact h | cases h), fun i hi => absurd hi (Nat.not_lt_zero i)⟩, fun i hi => absurd hi (Nat.not_lt_zero i)⟩, ?_⟩ | refine ⟨⟨_, rfl, ⟨rfl, rfl, .inl rfl, (fun h => by first | exact h | cases h), (fun h => by first | exact h | cases h), fun i hi => ren_closed (hQc i hi)⟩, fun i hi => inn_closed (hQc i hi)⟩, ?_⟩
            refine ⟨⟨_, rfl, (RowLe.snoc e rfl (fun i hi => if_pos hi) (by rw [if_neg (Nat.lt_irrefl _), Nat.sub_self]; rfl) (fun _ => rfl)), fun _ _ => rfl⟩, ?_⟩
            exact trivial
          · repeat' (first | exact trivial | exact rfl | refine And.intro ?_ ?_)
      · have hqe : k = q := by omega
        have e : insQ q a L = (insQ q a L).take k ++ [a] := by
          have := take_snoc (L := insQ q a L) (k := k) (by omega)
          rw [List.take_of_length_le (by omega)] at this
          rw [hqe] at this ⊢
          rw [insQ_eq h2] at this
          exact this
        generalize insQ q a L = Q at *
        refine SG.walk tab_ok mx 400 [false] [] ?_
        conv => whnf
        try dsimp only [rowL, rowN, growOk, hiN, fromL, tightN, maxOk]
        try simp (disch := omega) only [wI, wU64, wU32, wU8, Int.toNat_natCast, toNat_succ, toNat_pred, Int.reduceToNat, Option.getD_some, Option.getD_none, Nat.sub_zero, Nat.zero_add]
        refine ⟨?_, ?_⟩
        · try simp only [beq_iff_eq, beq_eq_false_iff_ne, bne_iff_ne, bne_eq_false_iff_eq, decide_eq_true_eq, decide_eq_false_iff_not, ne_eq, Bool.not_eq_true', Bool.not_eq_false', Bool.not_eq_eq_eq_not, Bool.not_true, Bool.not_false, true_and, and_true]
          try omega
        refine SG.ret tab_ok Try.func18 rfl ?_
        intro ρ w' v hm hv
        exact Post.mk hm (rsV 0) [newE Q] none [3] hv rfl (rows1 ⟨⟨_, rfl, RowLe.snoc e rfl (fun i hi => if_pos hi) (by rw [if_neg (Nat.lt_irrefl _), Nat.sub_self]; rfl) (fun _ => rfl), rfl⟩, fun _ _ => rfl⟩) rfl (by simp)
set_option maxRecDepth 100000 in
theorem rAdoptT {r : Nat} {R : Row} {L : List E} {n to : Int} (hr : Rs[r]? = some (some R)) (hR : RowLe R (rowE L)) (hl : L.length ≤ 837723144960) :
    CallOk Try.prog W B Rs 22 [rsV r, intV n, intV to] (hdE (adL n to L L.length)) := by
  refine CallOk.enter Try.func22 (by kernel_rfl) rfl [r] [rowE L] [rsV 0, intV n, intV to] rfl (rows1 (.ro_ hr hR rfl rfl (fun _ _ => rfl))) (fun r h => by cases h) rfl rfl ?_
  intro w blk hblk
  rw [adL_all]
  refine SG.walk tab_ok mx 400 [] [] ?_
  conv => whnf
  try dsimp only [rowL, rowN, growOk, hiN, fromL, tightN, maxOk]
  try simp (disch := omega) only [wI, wU64, wU32, wU8, Int.toNat_natCast, toNat_succ, toNat_pred, Int.reduceToNat, Option.getD_some, Option.getD_none, Nat.sub_zero, Nat.zero_add]
  refine ⟨?_, ?_⟩
  · trivial
  refine SG.nilRow 7 33 26 rfl ?_
  refine SG.norm ?_
  conv => whnf
  refine SG.loop (fun k : Nat => ⟨puts (List.replicate (Try.f22).ntmps .any) [(0, rsV 0), (1, intV n), (2, intV to), (7, rsV 1), (8, intV k)], [], [some (rowE L), some (newE ((L.take k).map (adF n to)))], []⟩) (fun k => k ≤ L.length) (fun k => L.length - k) (0) (Nat.zero_le _) (fun h => SG.sub [] [0, 1] ⟨?_, ?_, ?_, by decide, rfl, rfl, rfl, ?_⟩ h) ?_
  · repeat' (first | exact trivial | exact rfl | refine And.intro ?_ ?_)
  · repeat' (first | exact trivial | exact rfl | refine And.intro ?_ ?_)
  · repeat' (first | exact trivial | refine ⟨⟨_, rfl, ⟨rfl, rfl, .inl rfl, (fun h => by first | exact h | cases h), (fun h => by first | exact h | cases h), fun _ _ => rfl⟩, fun _ _ => rfl⟩, ?_⟩ | refine ⟨⟨_, rfl, ⟨rfl, rfl, .inr rfl, (fun h => by first | exact h | cases h), (fun h => by first | exact h | cases h), fun _ _ => rfl⟩, fun _ _ => rfl⟩, ?_⟩ | refine ⟨⟨_, rfl, ⟨rfl, rfl, .inr rfl, (fun h => by first | exact h | cases h), (fun h => by first | exact h | cases h), fun i hi => absurd hi (Nat.not_lt_zero i)⟩, fun i hi => absurd hi (Nat.not_lt_zero i)⟩, ?_⟩ | refine ⟨⟨_, rfl, ⟨rfl, rfl, .inl rfl, (fun h => by first | exact h | cases h), (fun h => by first | exact h | cases h), fun i hi => ren_closed (hQc i hi)⟩, fun i hi => inn_closed (hQc i hi)⟩, ?_⟩)
  · repeat' (first | exact trivial | exact rfl | refine And.intro ?_ ?_)
  intro k hk next
  have hln : ((L.take k).map (adF n to)).length = k := by simp; omega
  by_cases hlt : k < L.length
  · have e1 : (L.take (k + 1)).map (adF n to) = (L.take k).map (adF n to) ++ [adF n to (L.getD k e0)] := by rw [take_snoc hlt, List.map_append]; rfl
    by_cases hp : (L.getD k e0).par = n
    · have e : (L.take (k + 1)).map (adF n to) = (L.take k).map (adF n to) ++ [{ L.getD k e0 with par := to }] := by rw [e1, adF, if_pos hp]
      refine SG.walk tab_ok mx 400 [true, true] [] ?_
      conv => whnf
      try dsimp only [rowL, rowN, growOk, hiN, fromL, tightN, maxOk]
      try simp (disch := omega) only [wI, wU64, wU32, wU8, Int.toNat_natCast, toNat_succ, toNat_pred, Int.reduceToNat, Option.getD_some, Option.getD_none, Nat.sub_zero, Nat.zero_add]
      refine ⟨?_, ?_⟩
      · try simp only [beq_iff_eq, beq_eq_false_iff_ne, bne_iff_ne, bne_eq_false_iff_eq, decide_eq_true_eq, decide_eq_false_iff_not, ne_eq, Bool.not_eq_true', Bool.not_eq_false', Bool.not_eq_eq_eq_not, Bool.not_true, Bool.not_false, true_and, and_true]
        try omega
      refine SG.sub [] [0, 3] ⟨?_, ?_, ?_, by decide, rfl, rfl, rfl, ?_⟩ (next (k + 1) hlt (by omega))
      · repeat' (first | exact trivial | exact rfl | refine And.intro ?_ ?_)
      · repeat' (first | exact trivial | exact rfl | refine And.intro ?_ ?_)
      · first | refine ⟨⟨_, rfl, ⟨rfl, rfl, .inl rfl, (fun h => by first | exact h | cases h), (fun h => by first | exact h | cases h), fun _ _ => rfl⟩, fun _ _ => rfl⟩, ?_⟩ | refine ⟨⟨_, rfl, ⟨rfl, rfl, .inr rfl, (fun h => by first | exact h | cases h), (fun h => by first | exact h | cases h), fun _ _ => rfl⟩, fun _ _ => rfl⟩, ?_⟩ | refine ⟨⟨_, rfl, ⟨rfl, rfl, .inr rfl, (fun h => by first | exact h | cases h), (fun h => by first | exact h | cases h), fun i hi => absurd hi (Nat.not_lt_zero i)⟩, fun i hi => absurd hi (Nat.not_lt_zero i)⟩, ?_⟩ | refine ⟨⟨_, rfl, ⟨rfl, rfl, .inl rfl, (fun h => by first | exact h | cases h), (fun h => by first | exact h | cases h), fun i hi => ren_closed (hQc i hi)⟩, fun i hi => inn_closed (hQc i hi)⟩, ?_⟩
        refine ⟨⟨_, rfl, (RowLe.snoc e rfl (fun i hi => if_pos hi) (by rw [if_neg (Nat.lt_irrefl _), Nat.sub_self]; rfl) (fun _ => rfl)), fun _ _ => rfl⟩, ?_⟩
        exact trivial
      · repeat' (first | exact trivial | exact rfl | refine And.intro ?_ ?_)
    · have e : (L.take (k + 1)).map (adF n to) = (L.take k).map (adF n to) ++ [L.getD k e0] := by rw [e1, adF, if_neg hp]
      refine SG.walk tab_ok mx 400 [true, false] [] ?_
      conv => whnf
      try dsimp only [rowL, rowN, growOk, hiN, fromL, tightN, maxOk]
      try simp (disch := omega) only [wI, wU64, wU32, wU8, Int.toNat_natCast, toNat_succ, toNat_pred, Int.reduceToNat, Option.getD_some, Option.getD_none, Nat.sub_zero, Nat.zero_add]
      refine ⟨?_, ?_⟩
      · try simp only [beq_iff_eq, beq_eq_false_iff_ne, bne_iff_ne, bne_eq_false_iff_eq, decide_eq_true_eq, decide_eq_false_iff_not, ne_eq, Bool.not_eq_true', Bool.not_eq_false', Bool.not_eq_eq_eq_not, Bool.not_true, Bool.not_false, true_and, and_true]
        try omega
      refine SG.sub [] [0, 3] ⟨?_, ?_, ?_, by decide, rfl, rfl, rfl, ?_⟩ (next (k + 1) hlt (by omega))
      · repeat' (first | exact trivial | exact rfl | refine And.intro ?_ ?_)
      · repeat' (first | exact trivial | exact rfl | refine And.intro ?_ ?_)
      · first | refine ⟨⟨_, rfl, ⟨rfl, rfl, .inl rfl, (fun h => by first | exact h | cases h), (fun h => by first | exact h | cases h), fun _ _ => rfl⟩, fun _ _ => rfl⟩, ?_⟩ | refine ⟨⟨_, rfl, ⟨rfl, rfl, .inr rfl, (fun h => by first | exact h | cases h), (fun h => by first | exact h | cases h), fun _ _ => rfl⟩, fun _ _ => rfl⟩, ?_⟩ | refine ⟨⟨_, rfl, ⟨rfl, rfl, .inr rfl, (fun h => by first | exact h | cases h), (fun h => by first | exact h | cases h), fun i hi => absurd hi (Nat.not_lt_zero i)⟩, fun i hi => absurd hi (Nat.not_lt_zero i)⟩, ?_⟩ | refine ⟨⟨_, rfl, ⟨rfl, rfl, .inl rfl, (fun h => by first | exact h | cases h), (fun h => by first | exact h | cases h), fun i hi => ren_closed (hQc i hi)⟩, fun i hi => inn_closed (hQc i hi)⟩, ?_⟩
        refine ⟨⟨_, rfl, (RowLe.snoc e rfl (fun i hi => if_pos hi) (by rw [if_neg (Nat.lt_irrefl _), Nat.sub_self]; rfl) (fun _ => rfl)), fun _ _ => rfl⟩, ?_⟩
        exact trivial
      · repeat' (first | exact trivial | exact rfl | refine And.intro ?_ ?_)
  · refine SG.walk tab_ok mx 400 [false] [] ?_
    conv => whnf
    try dsimp only [rowL, rowN, growOk, hiN, fromL, tightN, maxOk]
    try simp (disch := omega) only [wI, wU64, wU32, wU8, Int.toNat_natCast, toNat_succ, toNat_pred, Int.reduceToNat, Option.getD_some, Option.getD_none, Nat.sub_zero, Nat.zero_add]
    refine ⟨?_, ?_⟩
    · try simp only [beq_iff_eq, beq_eq_false_iff_ne, bne_iff_ne, bne_eq_false_iff_eq, decide_eq_true_eq, decide_eq_false_iff_not, ne_eq, Bool.not_eq_true', Bool.not_eq_false', Bool.not_eq_eq_eq_not, Bool.not_true, Bool.not_false, true_and, and_true]
      try omega
    rw [List.take_of_length_le (by omega)]
    refine SG.ret tab_ok Try.func22 rfl ?_
    intro ρ w' v hm hv
    exact Post.mk hm (rsV 0) [newE (L.map (adF n to))] none [1] hv rfl (rows1 (.of rfl rfl rfl rfl rfl (fun i hi => rfl) (fun _ => rfl))) rfl (by simp)
end
/-- Are two rows the same, one by one? -/
def sameB (L M : List E) : Bool := decide (L.length = M.length) && (List.range L.length).all fun k => eqB (L.getD k e0) (M.getD k e0)
theorem sameB_iff {L M : List E} : sameB L M = true ↔ L.length = M.length ∧ ∀ k, k < L.length → eqB (L.getD k e0) (M.getD k e0) = true := by
  simp [sameB, - List.getD_eq_getElem?_getD]
theorem sameB_len {L M : List E} (h : L.length ≠ M.length) : sameB L M = false := by
  cases e : sameB L M
  · rfl
  · exact absurd (sameB_iff.1 e).1 h
theorem sameB_at {L M : List E} {k : Nat} (hk : k < L.length) (h : eqB (L.getD k e0) (M.getD k e0) = false) : sameB L M = false := by
  cases e : sameB L M
  · rfl
  · rw [(sameB_iff.1 e).2 k hk] at h; cases h
section
variable {W : Base} {B : List (Option (List At))} {Rs : List (Option Row)}
set_option maxRecDepth 100000 in
theorem same2 {r q : Nat} {R Rq : Row} {L M : List E} (hr : Rs[r]? = some (some R)) (hR : RowLe R (rowE L)) (hq : Rs[q]? = some (some Rq)) (hRq : RowLe Rq (rowE M)) (hl : L.length ≤ 837723144960) (hl2 : M.length ≤ 837723144960) :
    CallOk Try.prog W B Rs 30 [rsV r, rsV q] (hdB (sameB L M)) := by
  refine CallOk.enter Try.func30 (by kernel_rfl) rfl [r, q] [rowE L, rowE M] [rsV 0, rsV 1] rfl (rows2 (.ro_ hr hR rfl rfl (fun _ _ => rfl)) (.ro_ hq hRq rfl rfl (fun _ _ => rfl))) (fun r h => by cases h) rfl rfl ?_
  intro w blk hblk
  by_cases hlen : L.length = M.length
  · refine SG.walk tab_ok mx 400 [false] [] ?_
    conv => whnf
    try dsimp only [rowL, rowN, growOk, hiN, fromL, tightN, maxOk]
    try simp (disch := omega) only [wI, wU64, wU32, wU8, Int.toNat_natCast, toNat_succ, toNat_pred, Int.reduceToNat, Option.getD_some, Option.getD_none, Nat.sub_zero, Nat.zero_add]
    refine ⟨?_, ?_⟩
    · try simp only [beq_iff_eq, beq_eq_false_iff_ne, bne_iff_ne, bne_eq_false_iff_eq, decide_eq_true_eq, decide_eq_false_iff_not, ne_eq, Bool.not_eq_true', Bool.not_eq_false', Bool.not_eq_eq_eq_not, Bool.not_true, Bool.not_false, true_and, and_true]
      try omega
    refine SG.loop (fun k : Nat => ⟨puts (List.replicate (Try.f30).ntmps .any) [(0, rsV 0), (1, rsV 1), (11, rsV 0), (12, intV L.length), (13, intV k)], [], [some (rowE L), some (rowE M)], []⟩) (fun k => k ≤ L.length ∧ ∀ j, j < k → eqB (L.getD j e0) (M.getD j e0) = true) (fun k => L.length - k) (0) (⟨Nat.zero_le _, fun j hj => by omega⟩) (fun h => SG.sub [] [0, 1] ⟨?_, ?_, ?_, by decide, rfl, rfl, rfl, ?_⟩ h) ?_
    · repeat' (first | exact trivial | exact rfl | refine And.intro ?_ ?_)
    · repeat' (first | exact trivial | exact rfl | refine And.intro ?_ ?_)
    · repeat' (first | exact trivial | refine ⟨⟨_, rfl, ⟨rfl, rfl, .inl rfl, (fun h => by first | exact h | cases h), (fun h => by first | exact h | cases h), fun _ _ => rfl⟩, fun _ _ => rfl⟩, ?_⟩ | refine ⟨⟨_, rfl, ⟨rfl, rfl, .inr rfl, (fun h => by first | exact h | cases h), (fun h => by first | exact h | cases h), fun _ _ => rfl⟩, fun _ _ => rfl⟩, ?_⟩ | refine ⟨⟨_, rfl, ⟨rfl, rfl, .inr rfl, (fun h => by first | exact h | cases h), (fun h => by first | exact h | cases h), fun i hi => absurd hi (Nat.not_lt_zero i)⟩, fun i hi => absurd hi (Nat.not_lt_zero i)⟩, ?_⟩ | refine ⟨⟨_, rfl, ⟨rfl, rfl, .inl rfl, (fun h => by first | exact h | cases h), (fun h => by first | exact h | cases h), fun i hi => ren_closed (hQc i hi)⟩, fun i hi => inn_closed (hQc i hi)⟩, ?_⟩)
    · repeat' (first | exact trivial | exact rfl | refine And.intro ?_ ?_)
    rintro k ⟨hk, hall⟩ next
    by_cases hlt : k < L.length
    · cases he : eqB (L.getD k e0) (M.getD k e0) with
      | true =>
        refine SG.walk tab_ok mx 400 [true, false] [] ?_
        conv => whnf
        try dsimp only [rowL, rowN, growOk, hiN, fromL, tightN, maxOk]
        try simp (disch := omega) only [wI, wU64, wU32, wU8, Int.toNat_natCast, toNat_succ, toNat_pred, Int.reduceToNat, Option.getD_some, Option.getD_none, Nat.sub_zero, Nat.zero_add]
        refine ⟨?_, ?_⟩
        · refine ⟨show (!eqB (L.getD k e0) (M.getD k e0)) = false by rw [he]; rfl, ?_⟩
          try simp only [beq_iff_eq, beq_eq_false_iff_ne, bne_iff_ne, bne_eq_false_iff_eq, decide_eq_true_eq, decide_eq_false_iff_not, ne_eq, Bool.not_eq_true', Bool.not_eq_false', Bool.not_eq_eq_eq_not, Bool.not_true, Bool.not_false, true_and, and_true]
          try omega
        refine SG.sub [] [0, 1] ⟨?_, ?_, ?_, by decide, rfl, rfl, rfl, ?_⟩ (next (k + 1) ⟨hlt, upto_succ hall he⟩ (by omega))
        · repeat' (first | exact trivial | exact rfl | refine And.intro ?_ ?_)
        · repeat' (first | exact trivial | exact rfl | refine And.intro ?_ ?_)
        · repeat' (first | exact trivial | refine ⟨⟨_, rfl, ⟨rfl, rfl, .inl rfl, (fun h => by first | exact h | cases h), (fun h => by first | exact h | cases h), fun _ _ => rfl⟩, fun _ _ => rfl⟩, ?_⟩ | refine ⟨⟨_, rfl, ⟨rfl, rfl, .inr rfl, (fun h => by first | exact h | cases h), (fun h => by first | exact h | cases h), fun _ _ => rfl⟩, fun _ _ => rfl⟩, ?_⟩ | refine ⟨⟨_, rfl, ⟨rfl, rfl, .inr rfl, (fun h => by first | exact h | cases h), (fun h => by first | exact h | cases h), fun i hi => absurd hi (Nat.not_lt_zero i)⟩, fun i hi => absurd hi (Nat.not_lt_zero i)⟩, ?_⟩ | refine ⟨⟨_, rfl, ⟨rfl, rfl, .inl rfl, (fun h => by first | exact h | cases h), (fun h => by first | exact h | cases h), fun i hi => ren_closed (hQc i hi)⟩, fun i hi => inn_closed (hQc i hi)⟩, ?_⟩)
        · repeat' (first | exact trivial | exact rfl | refine And.intro ?_ ?_)
      | false =>
        refine SG.walk tab_ok mx 400 [true, true] [] ?_
        conv => whnf
        try dsimp only [rowL, rowN, growOk, hiN, fromL, tightN, maxOk]
        try simp (disch := omega) only [wI, wU64, wU32, wU8, Int.toNat_natCast, toNat_succ, toNat_pred, Int.reduceToNat, Option.getD_some, Option.getD_none, Nat.sub_zero, Nat.zero_add]
        refine ⟨?_, ?_⟩
        · refine ⟨show (!eqB (L.getD k e0) (M.getD k e0)) = true by rw [he]; rfl, ?_⟩
          try simp only [beq_iff_eq, beq_eq_false_iff_ne, bne_iff_ne, bne_eq_false_iff_eq, decide_eq_true_eq, decide_eq_false_iff_not, ne_eq, Bool.not_eq_true', Bool.not_eq_false', Bool.not_eq_eq_eq_not, Bool.not_true, Bool.not_false, true_and, and_true]
          try omega
        rw [sameB_at hlt he]
        refine SG.ret tab_ok Try.func30 rfl ?_
        intro ρ w' v hm hv
        exact Post.mk hm (.cv (.one (.lb false))) [] none [] hv rfl rows0 rfl (by simp)
    · refine SG.walk tab_ok mx 400 [false] [] ?_
      conv => whnf
      try dsimp only [rowL, rowN, growOk, hiN, fromL, tightN, maxOk]
      try simp (disch := omega) only [wI, wU64, wU32, wU8, Int.toNat_natCast, toNat_succ, toNat_pred, Int.reduceToNat, Option.getD_some, Option.getD_none, Nat.sub_zero, Nat.zero_add]
      refine ⟨?_, ?_⟩
      · try simp only [beq_iff_eq, beq_eq_false_iff_ne, bne_iff_ne, bne_eq_false_iff_eq, decide_eq_true_eq, decide_eq_false_iff_not, ne_eq, Bool.not_eq_true', Bool.not_eq_false', Bool.not_eq_eq_eq_not, Bool.not_true, Bool.not_false, true_and, and_true]
        try omega
      rw [sameB_iff.2 ⟨hlen, fun j hj => hall j (by omega)⟩]
      refine SG.ret tab_ok Try.func30 rfl ?_
      intro ρ w' v hm hv
      exact Post.mk hm (.cv (.one (.lb true))) [] none [] hv rfl rows0 rfl (by simp)
  · rw [sameB_len hlen]
    refine SG.walk tab_ok mx 400 [true] [] ?_
    conv => whnf
    try dsimp only [rowL, rowN, growOk, hiN, fromL, tightN, maxOk]
    try simp (disch := omega) only [wI, wU64, wU32, wU8, Int.toNat_natCast, toNat_succ, toNat_pred, Int.reduceToNat, Option.getD_some, Option.getD_none, Nat.sub_zero, Nat.zero_add]
    refine ⟨?_, ?_⟩
    · try simp only [beq_iff_eq, beq_eq_false_iff_ne, bne_iff_ne, bne_eq_false_iff_eq, decide_eq_true_eq, decide_eq_false_iff_not, ne_eq, Bool.not_eq_true', Bool.not_eq_false', Bool.not_eq_eq_eq_not, Bool.not_true, Bool.not_false, true_and, and_true]
      try omega
    refine SG.ret tab_ok Try.func30 rfl ?_
    intro ρ w' v hm hv
    exact Post.mk hm (.cv (.one (.lb false))) [] none [] hv rfl rows0 rfl (by simp)
set_option maxRecDepth 100000 in
theorem rSame2 {r q : Nat} {R Rq : Row} {L M : List E} (hr : Rs[r]? = some (some R)) (hR : RowLe R (rowE L)) (hq : Rs[q]? = some (some Rq)) (hRq : RowLe Rq (rowE M)) (hl : L.length ≤ 837723144960) (hl2 : M.length ≤ 837723144960) :
    CallOk Try.prog W B Rs 16 [rsV r, rsV q] (hdB (sameB L M)) := by
  refine CallOk.enter Try.func16 (by kernel_rfl) rfl [r, q] [rowE L, rowE M] [rsV 0, rsV 1] rfl (rows2 (.ro_ hr hR rfl rfl (fun _ _ => rfl)) (.ro_ hq hRq rfl rfl (fun _ _ => rfl))) (fun r h => by cases h) rfl rfl ?_
  intro w blk hblk
  by_cases hlen : L.length = M.length
  · refine SG.walk tab_ok mx 400 [false] [] ?_
    conv => whnf
    try dsimp only [rowL, rowN, growOk, hiN, fromL, tightN, maxOk]
    try simp (disch := omega) only [wI, wU64, wU32, wU8, Int.toNat_natCast, toNat_succ, toNat_pred, Int.reduceToNat, Option.getD_some, Option.getD_none, Nat.sub_zero, Nat.zero_add]
    refine ⟨?_, ?_⟩
    · try simp only [beq_iff_eq, beq_eq_false_iff_ne, bne_iff_ne, bne_eq_false_iff_eq, decide_eq_true_eq, decide_eq_false_iff_not, ne_eq, Bool.not_eq_true', Bool.not_eq_false', Bool.not_eq_eq_eq_not, Bool.not_true, Bool.not_false, true_and, and_true]
      try omega
    refine SG.loop (fun k : Nat => ⟨puts (List.replicate (Try.f16).ntmps .any) [(0, rsV 0), (1, rsV 1), (5, intV k)], [], [some (rowE L), some (rowE M)], []⟩) (fun k => k ≤ L.length ∧ ∀ j, j < k → eqB (L.getD j e0) (M.getD j e0) = true) (fun k => L.length - k) (0) (⟨Nat.zero_le _, fun j hj => by omega⟩) (fun h => SG.sub [] [0, 1] ⟨?_, ?_, ?_, by decide, rfl, rfl, rfl, ?_⟩ h) ?_
    · repeat' (first | exact trivial | exact rfl | refine And.intro ?_ ?_)
    · repeat' (first | exact trivial | exact rfl | refine And.intro ?_ ?_)
    · repeat' (first | exact trivial | refine ⟨⟨_, rfl, ⟨rfl, rfl, .inl rfl, (fun h => by first | exact h | cases h), (fun h => by first | exact h | cases h), fun _ _ => rfl⟩, fun _ _ => rfl⟩, ?_⟩ | refine ⟨⟨_, rfl, ⟨rfl, rfl, .inr rfl, (fun h => by first | exact h | cases h), (fun h => by first | exact h | cases h), fun _ _ => rfl⟩, fun _ _ => rfl⟩, ?_⟩ | refine ⟨⟨_, rfl, ⟨rfl, rfl, .inr rfl, (fun h => by first | exact h | cases h), (fun h => by first | exact h | cases h), fun i hi => absurd hi (Nat.not_lt_zero i)⟩, fun i hi => absurd hi (Nat.not_lt_zero i)⟩, ?_⟩ | refine ⟨⟨_, rfl, ⟨rfl, rfl, .inl rfl, (fun h => by first | exact h | cases h), (fun h => by first | exact h | cases h), fun i hi => ren_closed (hQc i hi)⟩, fun i hi => inn_closed (hQc i hi)⟩, ?_⟩)
    · repeat' (first | exact trivial | exact rfl | refine And.intro ?_ ?_)
    rintro k ⟨hk, hall⟩ next
    by_cases hlt : k < L.length
    · cases he : eqB (L.getD k e0) (M.getD k e0) with
      | true =>
        refine SG.walk tab_ok mx 400 [true, false] [] ?_
        conv => whnf
        try dsimp only [rowL, rowN, growOk, hiN, fromL, tightN, maxOk]
        try simp (disch := omega) only [wI, wU64, wU32, wU8, Int.toNat_natCast, toNat_succ, toNat_pred, Int.reduceToNat, Option.getD_some, Option.getD_none, Nat.sub_zero, Nat.zero_add]
        refine ⟨?_, ?_⟩
        · refine ⟨show (!eqB (L.getD k e0) (M.getD k e0)) = false by rw [he]; rfl, ?_⟩
          try simp only [beq_iff_eq, beq_eq_false_iff_ne, bne_iff_ne, bne_eq_false_iff_eq, decide_eq_true_eq, decide_eq_false_iff_not, ne_eq, Bool.not_eq_true', Bool.not_eq_false', Bool.not_eq_eq_eq_not, Bool.not_true, Bool.not_false, true_and, and_true]
          try omega
        refine SG.sub [] [0, 1] ⟨?_, ?_, ?_, by decide, rfl, rfl, rfl, ?_⟩ (next (k + 1) ⟨hlt, upto_succ hall he⟩ (by omega))
        · repeat' (first | exact trivial | exact rfl | refine And.intro ?_ ?_)
        · repeat' (first | exact trivial | exact rfl | refine And.intro ?_ ?_)
        · repeat' (first | exact trivial | refine ⟨⟨_, rfl, ⟨rfl, rfl, .inl rfl, (fun h => by first | exact h | cases h), (fun h => by first | exact h | cases h), fun _ _ => rfl⟩, fun _ _ => rfl⟩, ?_⟩ | refine ⟨⟨_, rfl, ⟨rfl, rfl, .inr rfl, (fun h => by first | exact h | cases h), (fun h => by first | exact h | cases h), fun _ _ => rfl⟩, fun _ _ => rfl⟩, ?_⟩ | refine ⟨⟨_, rfl, ⟨rfl, rfl, .inr rfl, (fun h => by first | exact h | cases h), (fun h => by first | exact h | cases h), fun i hi => absurd hi (Nat.not_lt_zero i)⟩, fun i hi => absurd hi (Nat.not_lt_zero i)⟩, ?_⟩ | refine ⟨⟨_, rfl, ⟨rfl, rfl, .inl rfl, (fun h => by first | exact h | cases h), (fun h => by first | exact h | cases h), fun i hi => ren_closed (hQc i hi)⟩, fun i hi => inn_closed (hQc i hi)⟩, ?_⟩)
        · repeat' (first | exact trivial | exact rfl | refine And.intro ?_ ?_)
      | false =>
        refine SG.walk tab_ok mx 400 [true, true] [] ?_
        conv => whnf
        try dsimp only [rowL, rowN, growOk, hiN, fromL, tightN, maxOk]
        try simp (disch := omega) only [wI, wU64, wU32, wU8, Int.toNat_natCast, toNat_succ, toNat_pred, Int.reduceToNat, Option.getD_some, Option.getD_none, Nat.sub_zero, Nat.zero_add]
        refine ⟨?_, ?_⟩
        · refine ⟨show (!eqB (L.getD k e0) (M.getD k e0)) = true by rw [he]; rfl, ?_⟩
          try simp only [beq_iff_eq, beq_eq_false_iff_ne, bne_iff_ne, bne_eq_false_iff_eq, decide_eq_true_eq, decide_eq_false_iff_not, ne_eq, Bool.not_eq_true', Bool.not_eq_false', Bool.not_eq_eq_eq_not, Bool.not_true, Bool.not_false, true_and, and_true]
          try omega
        rw [sameB_at hlt he]
        refine SG.ret tab_ok Try.func16 rfl ?_
        intro ρ w' v hm hv
        exact Post.mk hm (.cv (.one (.lb false))) [] none [] hv rfl rows0 rfl (by simp)
    · refine SG.walk tab_ok mx 400 [false] [] ?_
      conv => whnf
      try dsimp only [rowL, rowN, growOk, hiN, fromL, tightN, maxOk]
      try simp (disch := omega) only [wI, wU64, wU32, wU8, Int.toNat_natCast, toNat_succ, toNat_pred, Int.reduceToNat, Option.getD_some, Option.getD_none, Nat.sub_zero, Nat.zero_add]
      refine ⟨?_, ?_⟩
      · try simp only [beq_iff_eq, beq_eq_false_iff_ne, bne_iff_ne, bne_eq_false_iff_eq, decide_eq_true_eq, decide_eq_false_iff_not, ne_eq, Bool.not_eq_true', Bool.not_eq_false', Bool.not_eq_eq_eq_not, Bool.not_true, Bool.not_false, true_and, and_true]
        try omega
      rw [sameB_iff.2 ⟨hlen, fun j hj => hall j (by omega)⟩]
      refine SG.ret tab_ok Try.func16 rfl ?_
      intro ρ w' v hm hv
      exact Post.mk hm (.cv (.one (.lb true))) [] none [] hv rfl rows0 rfl (by simp)
  · rw [sameB_len hlen]
    refine SG.walk tab_ok mx 400 [true] [] ?_
    conv => whnf
    try dsimp only [rowL, rowN, growOk, hiN, fromL, tightN, maxOk]
    try simp (disch := omega) only [wI, wU64, wU32, wU8, Int.toNat_natCast, toNat_succ, toNat_pred, Int.reduceToNat, Option.getD_some, Option.getD_none, Nat.sub_zero, Nat.zero_add]
    refine ⟨?_, ?_⟩
    · try simp only [beq_iff_eq, beq_eq_false_iff_ne, bne_iff_ne, bne_eq_false_iff_eq, decide_eq_true_eq, decide_eq_false_iff_not, ne_eq, Bool.not_eq_true', Bool.not_eq_false', Bool.not_eq_eq_eq_not, Bool.not_true, Bool.not_false, true_and, and_true]
      try omega
    refine SG.ret tab_ok Try.func16 rfl ?_
    intro ρ w' v hm hv
    exact Post.mk hm (.cv (.one (.lb false))) [] none [] hv rfl rows0 rfl (by simp)
set_option maxRecDepth 100000 in
theorem rIntsT {r q : Nat} {R Rq : Row} {L : List Int} (hr : Rs[r]? = some (some R)) (hR : RowLe R (rowI L)) (hq : Rs[q]? = some (some Rq)) (hRq : RowLe Rq (rowI L)) (hl : L.length ≤ 837723144960) :
    CallOk Try.prog W B Rs 23 [rsV r, rsV q] (hdB true) := by
  refine CallOk.enter Try.func23 (by kernel_rfl) rfl [r, q] [rowI L, rowI L] [rsV 0, rsV 1] rfl (rows2 (.ro_ hr hR rfl rfl (fun _ _ => rfl)) (.ro_ hq hRq rfl rfl (fun _ _ => rfl))) (fun r h => by cases h) rfl rfl ?_
  intro w blk hblk
  refine SG.walk tab_ok mx 400 [false] [] ?_
  conv => whnf
  try dsimp only [rowL, rowN, growOk, hiN, fromL, tightN, maxOk]
  try simp (disch := omega) only [wI, wU64, wU32, wU8, Int.toNat_natCast, toNat_succ, toNat_pred, Int.reduceToNat, Option.getD_some, Option.getD_none, Nat.sub_zero, Nat.zero_add]
  refine ⟨?_, ?_⟩
  · simp
  refine SG.loop (fun k : Nat => ⟨puts (List.replicate (Try.f23).ntmps .any) [(0, rsV 0), (1, rsV 1), (5, intV k)], [], [some (rowI L), some (rowI L)], []⟩) (fun k => k ≤ L.length) (fun k => L.length - k) (0) (Nat.zero_le _) (fun h => SG.sub [] [0, 1] ⟨?_, ?_, ?_, by decide, rfl, rfl, rfl, ?_⟩ h) ?_
  · repeat' (first | exact trivial | exact rfl | refine And.intro ?_ ?_)
  · repeat' (first | exact trivial | exact rfl | refine And.intro ?_ ?_)
  · repeat' (first | exact trivial | refine ⟨⟨_, rfl, ⟨rfl, rfl, .inl rfl, (fun h => by first | exact h | cases h), (fun h => by first | exact h | cases h), fun _ _ => rfl⟩, fun _ _ => rfl⟩, ?_⟩ | refine ⟨⟨_, rfl, ⟨rfl, rfl, .inr rfl, (fun h => by first | exact h | cases h), (fun h => by first | exact h | cases h), fun _ _ => rfl⟩, fun _ _ => rfl⟩, ?_⟩ | refine ⟨⟨_, rfl, ⟨rfl, rfl, .inr rfl, (fun h => by first | exact h | cases h), (fun h => by first | exact h | cases h), fun i hi => absurd hi (Nat.not_lt_zero i)⟩, fun i hi => absurd hi (Nat.not_lt_zero i)⟩, ?_⟩ | refine ⟨⟨_, rfl, ⟨rfl, rfl, .inl rfl, (fun h => by first | exact h | cases h), (fun h => by first | exact h | cases h), fun i hi => ren_closed (hQc i hi)⟩, fun i hi => inn_closed (hQc i hi)⟩, ?_⟩)
  · repeat' (first | exact trivial | exact rfl | refine And.intro ?_ ?_)
  intro k hk next
  by_cases hlt : k < L.length
  · refine SG.walk tab_ok mx 400 [true, false] [] ?_
    conv => whnf
    try dsimp only [rowL, rowN, growOk, hiN, fromL, tightN, maxOk]
    try simp (disch := omega) only [wI, wU64, wU32, wU8, Int.toNat_natCast, toNat_succ, toNat_pred, Int.reduceToNat, Option.getD_some, Option.getD_none, Nat.sub_zero, Nat.zero_add]
    refine ⟨?_, ?_⟩
    · try simp only [beq_iff_eq, beq_eq_false_iff_ne, bne_iff_ne, bne_eq_false_iff_eq, decide_eq_true_eq, decide_eq_false_iff_not, ne_eq, Bool.not_eq_true', Bool.not_eq_false', Bool.not_eq_eq_eq_not, Bool.not_true, Bool.not_false, true_and, and_true]
      try omega
    refine SG.sub [] [0, 1] ⟨?_, ?_, ?_, by decide, rfl, rfl, rfl, ?_⟩ (next (k + 1) hlt (by omega))
    · repeat' (first | exact trivial | exact rfl | refine And.intro ?_ ?_)
    · repeat' (first | exact trivial | exact rfl | refine And.intro ?_ ?_)
    · repeat' (first | exact trivial | refine ⟨⟨_, rfl, ⟨rfl, rfl, .inl rfl, (fun h => by first | exact h | cases h), (fun h => by first | exact h | cases h), fun _ _ => rfl⟩, fun _ _ => rfl⟩, ?_⟩ | refine ⟨⟨_, rfl, ⟨rfl, rfl, .inr rfl, (fun h => by first | exact h | cases h), (fun h => by first | exact h | cases h), fun _ _ => rfl⟩, fun _ _ => rfl⟩, ?_⟩ | refine ⟨⟨_, rfl, ⟨rfl, rfl, .inr rfl, (fun h => by first | exact h | cases h), (fun h => by first | exact h | cases h), fun i hi => absurd hi (Nat.not_lt_zero i)⟩, fun i hi => absurd hi (Nat.not_lt_zero i)⟩, ?_⟩ | refine ⟨⟨_, rfl, ⟨rfl, rfl, .inl rfl, (fun h => by first | exact h | cases h), (fun h => by first | exact h | cases h), fun i hi => ren_closed (hQc i hi)⟩, fun i hi => inn_closed (hQc i hi)⟩, ?_⟩)
    · repeat' (first | exact trivial | exact rfl | refine And.intro ?_ ?_)
  · refine SG.walk tab_ok mx 400 [false] [] ?_
    conv => whnf
    try dsimp only [rowL, rowN, growOk, hiN, fromL, tightN, maxOk]
    try simp (disch := omega) only [wI, wU64, wU32, wU8, Int.toNat_natCast, toNat_succ, toNat_pred, Int.reduceToNat, Option.getD_some, Option.getD_none, Nat.sub_zero, Nat.zero_add]
    refine ⟨?_, ?_⟩
    · try simp only [beq_iff_eq, beq_eq_false_iff_ne, bne_iff_ne, bne_eq_false_iff_eq, decide_eq_true_eq, decide_eq_false_iff_not, ne_eq, Bool.not_eq_true', Bool.not_eq_false', Bool.not_eq_eq_eq_not, Bool.not_true, Bool.not_false, true_and, and_true]
      try omega
    refine SG.ret tab_ok Try.func23 rfl ?_
    intro ρ w' v hm hv
    exact Post.mk hm (.cv (.one (.lb true))) [] none [] hv rfl rows0 rfl (by simp)
end
end Go.Proofs.Ythdpigdbkljiiaa
