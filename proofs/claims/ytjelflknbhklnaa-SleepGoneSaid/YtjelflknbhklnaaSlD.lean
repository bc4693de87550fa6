/- Alarms: what the document says of one more; sameness; what is right; times. -/
import Derived.Test.YtjelflknbhklnaaSlC
namespace Go.Proofs.Ytjelflknbhklnaa
open Go.Sx Go.RowKit
set_option linter.unusedVariables false
set_option linter.unusedSimpArgs false
/-- What is written of the first k. -/
def outA (m : Nat) (a : E) (L : List E) (k : Nat) : List E := if k ≤ m then L.take k else L.take m ++ a :: (L.drop m).take (k - m)
section
variable {W : Base} {B : List (Option (List At))} {Rs : List (Option Row)}
theorem outA_one {m k : Nat} {a : E} {L : List E} (h : k < m) (hk : k < L.length) : outA m a L (k + 1) = outA m a L k ++ [L.getD k e0] := by
  unfold outA
  rw [if_pos (by omega), if_pos (by omega)]
  exact take_snoc hk
theorem outA_two {m k : Nat} {a : E} {L : List E} (h : k = m) (hk : k < L.length) : outA m a L (k + 1) = (outA m a L k ++ [a]) ++ [L.getD k e0] := by
  unfold outA
  subst h
  rw [if_neg (by omega), if_pos (by omega), show k + 1 - k = 1 by omega]
  have : (L.drop k).take 1 = [L.getD k e0] := by
    have := drop_take_snoc (L := L) (m := k) (k := k) (d := e0) (Nat.le_refl _) hk
    rw [show k + 1 - k = 1 by omega, Nat.sub_self, List.take_zero, List.nil_append] at this
    exact this
  rw [this]; simp
theorem outA_more {m k : Nat} {a : E} {L : List E} (h : m < k) (hk : k < L.length) : outA m a L (k + 1) = outA m a L k ++ [L.getD k e0] := by
  unfold outA
  rw [if_neg (by omega), if_neg (by omega), drop_take_snoc (d := e0) (by omega) hk]
  simp
theorem outA_len {m k : Nat} {a : E} {L : List E} (hk : k ≤ L.length) : (outA m a L k).length ≤ L.length + 1 := by
  unfold outA
  split
  · simp; omega
  · simp; omega
set_option maxRecDepth 100000 in
theorem rAddE {r : Nat} {R : Row} {L : List E} {a : E} (hr : Rs[r]? = some (some R)) (hR : RowLe R (rowE L)) (hl : L.length ≤ 8796093022100) :
    CallOk Try.prog W B Rs 14 [rsV r, eV a] (mkHd (rsV 0) [newE (L.take (L.findIdx (beh a)) ++ a :: L.drop (L.findIdx (beh a)))]) := by
  refine CallOk.enter Try.func14 (by kernel_rfl) rfl [r] [rowE L] [rsV 0, eV a] rfl (rows1 (.ro_ hr hR rfl rfl (fun _ _ => rfl))) (fun r h => by cases h) rfl rfl ?_
  intro w blk hblk
  have hle := List.findIdx_le_length (p := beh a) (xs := L)
  have hbe : ∀ j, j < L.findIdx (beh a) → beh a (L.getD j e0) = false := fun j hj => by
    rw [getD_mem (by omega)]
    have := List.not_of_lt_findIdx hj
    simpa using this
  have hat : L.findIdx (beh a) < L.length → beh a (L.getD (L.findIdx (beh a)) e0) = true := fun h => by rw [getD_mem h]; exact List.findIdx_getElem
  generalize hmm : L.findIdx (beh a) = m at *
  refine SG.walk tab_ok mx 400 [] [] ?_
  conv => whnf
  try dsimp only [rowL, rowN, growOk, hiN, fromL, tightN, maxOk]
  try simp (disch := omega) only [wI, wU64, wU32, wU8, Int.toNat_natCast, toNat_succ, toNat_pred, Int.reduceToNat, Option.getD_some, Option.getD_none, Nat.sub_zero, Nat.zero_add]
  refine ⟨?_, ?_⟩
  · trivial
  refine SG.nilRow 5 25 2 rfl ?_
  refine SG.norm ?_
  conv => whnf
  refine SG.loop (fun x : Nat × Bool => ⟨puts (List.replicate (Try.f14).ntmps .any) [(0, rsV 0), (3, bpV 0), (5, rsV 1), (6, .cv (.one (.lb x.2))), (7, intV x.1)], [some (eC a)], [some (rowE L), some (newE (outA m a L x.1))], []⟩) (fun x => x.1 ≤ L.length ∧ x.2 = decide (m < x.1)) (fun x => L.length - x.1) ((0, false)) (⟨Nat.zero_le _, by simp⟩) (fun h => SG.sub [0] [0, 1] ⟨?_, ?_, ?_, by decide, rfl, rfl, rfl, ?_⟩ h) ?_
  · repeat' (first | exact trivial | exact rfl | refine And.intro ?_ ?_)
  · repeat' (first | exact trivial | exact rfl | refine And.intro ?_ ?_)
  · first | refine ⟨⟨_, rfl, ⟨rfl, rfl, .inl rfl, (fun h => by first | exact h | cases h), (fun h => by first | exact h | cases h), fun _ _ => rfl⟩, fun _ _ => rfl⟩, ?_⟩ | refine ⟨⟨_, rfl, ⟨rfl, rfl, .inr rfl, (fun h => by first | exact h | cases h), (fun h => by first | exact h | cases h), fun _ _ => rfl⟩, fun _ _ => rfl⟩, ?_⟩ | refine ⟨⟨_, rfl, ⟨rfl, rfl, .inr rfl, (fun h => by first | exact h | cases h), (fun h => by first | exact h | cases h), fun i hi => absurd hi (Nat.not_lt_zero i)⟩, fun i hi => absurd hi (Nat.not_lt_zero i)⟩, ?_⟩ | refine ⟨⟨_, rfl, ⟨rfl, rfl, .inl rfl, (fun h => by first | exact h | cases h), (fun h => by first | exact h | cases h), fun i hi => ren_closed (hQc i hi)⟩, fun i hi => inn_closed (hQc i hi)⟩, ?_⟩
    refine ⟨⟨_, rfl, ⟨rfl, by show (outA m a L 0).length = 0; simp [outA], .inr rfl, (fun h => by cases h), (fun h => rfl), fun i hi => absurd hi (Nat.not_lt_zero i)⟩, fun _ _ => rfl⟩, ?_⟩
    exact trivial
  · repeat' (first | exact trivial | exact rfl | refine And.intro ?_ ?_)
  rintro ⟨k, b⟩ ⟨hk, hb⟩ next
  dsimp only at hk hb next
  have hol := outA_len (m := m) (a := a) hk
  by_cases hlt : k < L.length
  · cases b with
    | true =>
      have hmk : m < k := by simpa using hb.symm
      refine SG.walk tab_ok mx 400 [true] [] ?_
      conv => whnf
      try dsimp only [rowL, rowN, growOk, hiN, fromL, tightN, maxOk]
      try simp (disch := omega) only [wI, wU64, wU32, wU8, Int.toNat_natCast, toNat_succ, toNat_pred, Int.reduceToNat, Option.getD_some, Option.getD_none, Nat.sub_zero, Nat.zero_add]
      refine ⟨?_, ?_⟩
      · try simp only [beq_iff_eq, beq_eq_false_iff_ne, bne_iff_ne, bne_eq_false_iff_eq, decide_eq_true_eq, decide_eq_false_iff_not, ne_eq, Bool.not_eq_true', Bool.not_eq_false', Bool.not_eq_eq_eq_not, Bool.not_true, Bool.not_false]
        try omega
      refine SG.sub [0] [0, 3] ⟨?_, ?_, ?_, by decide, rfl, rfl, rfl, ?_⟩ (next (k + 1, true) ⟨hlt, by simp; omega⟩ (by simp; omega))
      · repeat' (first | exact trivial | exact rfl | refine And.intro ?_ ?_)
      · repeat' (first | exact trivial | exact rfl | refine And.intro ?_ ?_)
      · first | refine ⟨⟨_, rfl, ⟨rfl, rfl, .inl rfl, (fun h => by first | exact h | cases h), (fun h => by first | exact h | cases h), fun _ _ => rfl⟩, fun _ _ => rfl⟩, ?_⟩ | refine ⟨⟨_, rfl, ⟨rfl, rfl, .inr rfl, (fun h => by first | exact h | cases h), (fun h => by first | exact h | cases h), fun _ _ => rfl⟩, fun _ _ => rfl⟩, ?_⟩ | refine ⟨⟨_, rfl, ⟨rfl, rfl, .inr rfl, (fun h => by first | exact h | cases h), (fun h => by first | exact h | cases h), fun i hi => absurd hi (Nat.not_lt_zero i)⟩, fun i hi => absurd hi (Nat.not_lt_zero i)⟩, ?_⟩ | refine ⟨⟨_, rfl, ⟨rfl, rfl, .inl rfl, (fun h => by first | exact h | cases h), (fun h => by first | exact h | cases h), fun i hi => ren_closed (hQc i hi)⟩, fun i hi => inn_closed (hQc i hi)⟩, ?_⟩
        refine ⟨⟨_, rfl, (RowLe.snoc (outA_more hmk hlt) rfl (fun i hi => if_pos hi) (by rw [if_neg (Nat.lt_irrefl _), Nat.sub_self]; rfl) (fun _ => rfl)), fun _ _ => rfl⟩, ?_⟩
        exact trivial
      · repeat' (first | exact trivial | exact rfl | refine And.intro ?_ ?_)
    | false =>
      have hmk : k ≤ m := by simpa using hb.symm
      by_cases hkm : k < m
      · have hb := hbe k hkm
        unfold beh at hb
        simp only [Bool.or_eq_false_iff, Bool.and_eq_false_iff, decide_eq_false_iff_not, beq_eq_false_iff_ne] at hb
        obtain ⟨h1, h2⟩ := hb
        by_cases he : (L.getD k e0).1 = a.1
        · have h3 := h2.resolve_left (fun h => h he)
          refine SG.walk tab_ok mx 400 [true, false, true, false] [] ?_
          conv => whnf
          try dsimp only [rowL, rowN, growOk, hiN, fromL, tightN, maxOk]
          try simp (disch := omega) only [wI, wU64, wU32, wU8, Int.toNat_natCast, toNat_succ, toNat_pred, Int.reduceToNat, Option.getD_some, Option.getD_none, Nat.sub_zero, Nat.zero_add]
          refine ⟨?_, ?_⟩
          · try simp only [beq_iff_eq, beq_eq_false_iff_ne, bne_iff_ne, bne_eq_false_iff_eq, decide_eq_true_eq, decide_eq_false_iff_not, ne_eq, Bool.not_eq_true', Bool.not_eq_false', Bool.not_eq_eq_eq_not, Bool.not_true, Bool.not_false]
            try omega
          refine SG.sub [0] [0, 3] ⟨?_, ?_, ?_, by decide, rfl, rfl, rfl, ?_⟩ (next (k + 1, false) ⟨hlt, by simp; omega⟩ (by simp; omega))
          · repeat' (first | exact trivial | exact rfl | refine And.intro ?_ ?_)
          · repeat' (first | exact trivial | exact rfl | refine And.intro ?_ ?_)
          · first | refine ⟨⟨_, rfl, ⟨rfl, rfl, .inl rfl, (fun h => by first | exact h | cases h), (fun h => by first | exact h | cases h), fun _ _ => rfl⟩, fun _ _ => rfl⟩, ?_⟩ | refine ⟨⟨_, rfl, ⟨rfl, rfl, .inr rfl, (fun h => by first | exact h | cases h), (fun h => by first | exact h | cases h), fun _ _ => rfl⟩, fun _ _ => rfl⟩, ?_⟩ | refine ⟨⟨_, rfl, ⟨rfl, rfl, .inr rfl, (fun h => by first | exact h | cases h), (fun h => by first | exact h | cases h), fun i hi => absurd hi (Nat.not_lt_zero i)⟩, fun i hi => absurd hi (Nat.not_lt_zero i)⟩, ?_⟩ | refine ⟨⟨_, rfl, ⟨rfl, rfl, .inl rfl, (fun h => by first | exact h | cases h), (fun h => by first | exact h | cases h), fun i hi => ren_closed (hQc i hi)⟩, fun i hi => inn_closed (hQc i hi)⟩, ?_⟩
            refine ⟨⟨_, rfl, (RowLe.snoc (outA_one hkm hlt) rfl (fun i hi => if_pos hi) (by rw [if_neg (Nat.lt_irrefl _), Nat.sub_self]; rfl) (fun _ => rfl)), fun _ _ => rfl⟩, ?_⟩
            exact trivial
          · repeat' (first | exact trivial | exact rfl | refine And.intro ?_ ?_)
        · refine SG.walk tab_ok mx 400 [true, false, false] [] ?_
          conv => whnf
          try dsimp only [rowL, rowN, growOk, hiN, fromL, tightN, maxOk]
          try simp (disch := omega) only [wI, wU64, wU32, wU8, Int.toNat_natCast, toNat_succ, toNat_pred, Int.reduceToNat, Option.getD_some, Option.getD_none, Nat.sub_zero, Nat.zero_add]
          refine ⟨?_, ?_⟩
          · try simp only [beq_iff_eq, beq_eq_false_iff_ne, bne_iff_ne, bne_eq_false_iff_eq, decide_eq_true_eq, decide_eq_false_iff_not, ne_eq, Bool.not_eq_true', Bool.not_eq_false', Bool.not_eq_eq_eq_not, Bool.not_true, Bool.not_false]
            try omega
          refine SG.sub [0] [0, 3] ⟨?_, ?_, ?_, by decide, rfl, rfl, rfl, ?_⟩ (next (k + 1, false) ⟨hlt, by simp; omega⟩ (by simp; omega))
          · repeat' (first | exact trivial | exact rfl | refine And.intro ?_ ?_)
          · repeat' (first | exact trivial | exact rfl | refine And.intro ?_ ?_)
          · first | refine ⟨⟨_, rfl, ⟨rfl, rfl, .inl rfl, (fun h => by first | exact h | cases h), (fun h => by first | exact h | cases h), fun _ _ => rfl⟩, fun _ _ => rfl⟩, ?_⟩ | refine ⟨⟨_, rfl, ⟨rfl, rfl, .inr rfl, (fun h => by first | exact h | cases h), (fun h => by first | exact h | cases h), fun _ _ => rfl⟩, fun _ _ => rfl⟩, ?_⟩ | refine ⟨⟨_, rfl, ⟨rfl, rfl, .inr rfl, (fun h => by first | exact h | cases h), (fun h => by first | exact h | cases h), fun i hi => absurd hi (Nat.not_lt_zero i)⟩, fun i hi => absurd hi (Nat.not_lt_zero i)⟩, ?_⟩ | refine ⟨⟨_, rfl, ⟨rfl, rfl, .inl rfl, (fun h => by first | exact h | cases h), (fun h => by first | exact h | cases h), fun i hi => ren_closed (hQc i hi)⟩, fun i hi => inn_closed (hQc i hi)⟩, ?_⟩
            refine ⟨⟨_, rfl, (RowLe.snoc (outA_one hkm hlt) rfl (fun i hi => if_pos hi) (by rw [if_neg (Nat.lt_irrefl _), Nat.sub_self]; rfl) (fun _ => rfl)), fun _ _ => rfl⟩, ?_⟩
            exact trivial
          · repeat' (first | exact trivial | exact rfl | refine And.intro ?_ ?_)
      · have hkm : k = m := by omega
        have hb := hat (by omega)
        rw [← hkm] at hb
        unfold beh at hb
        simp only [Bool.or_eq_true, Bool.and_eq_true, decide_eq_true_eq, beq_iff_eq] at hb
        by_cases h1 : (L.getD k e0).1 > a.1
        · refine SG.walk tab_ok mx 400 [true, true] [] ?_
          conv => whnf
          try dsimp only [rowL, rowN, growOk, hiN, fromL, tightN, maxOk]
          try simp (disch := omega) only [wI, wU64, wU32, wU8, Int.toNat_natCast, toNat_succ, toNat_pred, Int.reduceToNat, Option.getD_some, Option.getD_none, Nat.sub_zero, Nat.zero_add]
          refine ⟨?_, ?_⟩
          · try simp only [beq_iff_eq, beq_eq_false_iff_ne, bne_iff_ne, bne_eq_false_iff_eq, decide_eq_true_eq, decide_eq_false_iff_not, ne_eq, Bool.not_eq_true', Bool.not_eq_false', Bool.not_eq_eq_eq_not, Bool.not_true, Bool.not_false]
            try omega
          refine SG.sub [0] [0, 5] ⟨?_, ?_, ?_, by decide, rfl, rfl, rfl, ?_⟩ (next (k + 1, true) ⟨hlt, by simp; omega⟩ (by simp; omega))
          · repeat' (first | exact trivial | exact rfl | refine And.intro ?_ ?_)
          · repeat' (first | exact trivial | exact rfl | refine And.intro ?_ ?_)
          · first | refine ⟨⟨_, rfl, ⟨rfl, rfl, .inl rfl, (fun h => by first | exact h | cases h), (fun h => by first | exact h | cases h), fun _ _ => rfl⟩, fun _ _ => rfl⟩, ?_⟩ | refine ⟨⟨_, rfl, ⟨rfl, rfl, .inr rfl, (fun h => by first | exact h | cases h), (fun h => by first | exact h | cases h), fun _ _ => rfl⟩, fun _ _ => rfl⟩, ?_⟩ | refine ⟨⟨_, rfl, ⟨rfl, rfl, .inr rfl, (fun h => by first | exact h | cases h), (fun h => by first | exact h | cases h), fun i hi => absurd hi (Nat.not_lt_zero i)⟩, fun i hi => absurd hi (Nat.not_lt_zero i)⟩, ?_⟩ | refine ⟨⟨_, rfl, ⟨rfl, rfl, .inl rfl, (fun h => by first | exact h | cases h), (fun h => by first | exact h | cases h), fun i hi => ren_closed (hQc i hi)⟩, fun i hi => inn_closed (hQc i hi)⟩, ?_⟩
            refine ⟨⟨_, rfl, (RowLe.snoc2 (outA_two hkm hlt) rfl (fun i hi => (if_pos (by omega)).trans (if_pos hi)) ((if_pos (Nat.lt_succ_self _)).trans (by rw [if_neg (Nat.lt_irrefl _), Nat.sub_self]; rfl)) (by rw [if_neg (Nat.lt_irrefl _), Nat.sub_self]; rfl) (fun _ => rfl)), fun _ _ => rfl⟩, ?_⟩
            exact trivial
          · repeat' (first | exact trivial | exact rfl | refine And.intro ?_ ?_)
        · obtain ⟨h2, h3⟩ := hb.resolve_left h1
          refine SG.walk tab_ok mx 400 [true, false, true, true] [] ?_
          conv => whnf
          try dsimp only [rowL, rowN, growOk, hiN, fromL, tightN, maxOk]
          try simp (disch := omega) only [wI, wU64, wU32, wU8, Int.toNat_natCast, toNat_succ, toNat_pred, Int.reduceToNat, Option.getD_some, Option.getD_none, Nat.sub_zero, Nat.zero_add]
          refine ⟨?_, ?_⟩
          · try simp only [beq_iff_eq, beq_eq_false_iff_ne, bne_iff_ne, bne_eq_false_iff_eq, decide_eq_true_eq, decide_eq_false_iff_not, ne_eq, Bool.not_eq_true', Bool.not_eq_false', Bool.not_eq_eq_eq_not, Bool.not_true, Bool.not_false]
            try omega
          refine SG.sub [0] [0, 5] ⟨?_, ?_, ?_, by decide, rfl, rfl, rfl, ?_⟩ (next (k + 1, true) ⟨hlt, by simp; omega⟩ (by simp; omega))
          · repeat' (first | exact trivial | exact rfl | refine And.intro ?_ ?_)
          · repeat' (first | exact trivial | exact rfl | refine And.intro ?_ ?_)
          · first | refine ⟨⟨_, rfl, ⟨rfl, rfl, .inl rfl, (fun h => by first | exact h | cases h), (fun h => by first | exact h | cases h), fun _ _ => rfl⟩, fun _ _ => rfl⟩, ?_⟩ | refine ⟨⟨_, rfl, ⟨rfl, rfl, .inr rfl, (fun h => by first | exact h | cases h), (fun h => by first | exact h | cases h), fun _ _ => rfl⟩, fun _ _ => rfl⟩, ?_⟩ | refine ⟨⟨_, rfl, ⟨rfl, rfl, .inr rfl, (fun h => by first | exact h | cases h), (fun h => by first | exact h | cases h), fun i hi => absurd hi (Nat.not_lt_zero i)⟩, fun i hi => absurd hi (Nat.not_lt_zero i)⟩, ?_⟩ | refine ⟨⟨_, rfl, ⟨rfl, rfl, .inl rfl, (fun h => by first | exact h | cases h), (fun h => by first | exact h | cases h), fun i hi => ren_closed (hQc i hi)⟩, fun i hi => inn_closed (hQc i hi)⟩, ?_⟩
            refine ⟨⟨_, rfl, (RowLe.snoc2 (outA_two hkm hlt) rfl (fun i hi => (if_pos (by omega)).trans (if_pos hi)) ((if_pos (Nat.lt_succ_self _)).trans (by rw [if_neg (Nat.lt_irrefl _), Nat.sub_self]; rfl)) (by rw [if_neg (Nat.lt_irrefl _), Nat.sub_self]; rfl) (fun _ => rfl)), fun _ _ => rfl⟩, ?_⟩
            exact trivial
          · repeat' (first | exact trivial | exact rfl | refine And.intro ?_ ?_)
  · have hkl : k = L.length := by omega
    cases b with
    | true =>
      have hmk : m < k := by simpa using hb.symm
      refine SG.walk tab_ok mx 400 [false] [] ?_
      conv => whnf
      try dsimp only [rowL, rowN, growOk, hiN, fromL, tightN, maxOk]
      try simp (disch := omega) only [wI, wU64, wU32, wU8, Int.toNat_natCast, toNat_succ, toNat_pred, Int.reduceToNat, Option.getD_some, Option.getD_none, Nat.sub_zero, Nat.zero_add]
      refine ⟨?_, ?_⟩
      · simpa using hlt
      · have e : outA m a L k = L.take m ++ a :: L.drop m := by
          unfold outA
          rw [if_neg (by omega), List.take_of_length_le (l := L.drop m) (by simp; omega)]
        rw [e]
        refine SG.ret tab_ok Try.func14 rfl ?_
        intro ρ w' v hm hv
        exact Post.mk hm (rsV 0) [newE (L.take m ++ a :: L.drop m)] none [1] hv rfl (rows1 (.of rfl rfl rfl rfl rfl (fun i hi => rfl) (fun _ => rfl))) rfl (by simp)
    | false =>
      have hmk : k ≤ m := by simpa using hb.symm
      have hm : m = L.length := by omega
      refine SG.walk tab_ok mx 400 [false] [] ?_
      conv => whnf
      try dsimp only [rowL, rowN, growOk, hiN, fromL, tightN, maxOk]
      try simp (disch := omega) only [wI, wU64, wU32, wU8, Int.toNat_natCast, toNat_succ, toNat_pred, Int.reduceToNat, Option.getD_some, Option.getD_none, Nat.sub_zero, Nat.zero_add]
      refine ⟨?_, ?_⟩
      · try simp only [beq_iff_eq, beq_eq_false_iff_ne, bne_iff_ne, bne_eq_false_iff_eq, decide_eq_true_eq, decide_eq_false_iff_not, ne_eq, Bool.not_eq_true', Bool.not_eq_false', Bool.not_eq_eq_eq_not, Bool.not_true, Bool.not_false]
        try omega
      · have e : outA m a L k = L := by
          unfold outA
          rw [if_pos (by omega), List.take_of_length_le (by omega)]
        rw [e, hm]
        refine SG.ret tab_ok Try.func14 rfl ?_
        intro ρ w' v hm hv
        exact Post.mk hm (rsV 0) [newE (L.take L.length ++ a :: L.drop L.length)] none [3] hv rfl (rows1 (.of rfl rfl rfl (by simp) rfl (fun i hi => by simp only [List.take_length, List.drop_length]; rw [getD_insert, apply_ite eC]; split; rfl; rw [show i - L.length = 0 by simp at hi; omega]; rfl) (fun _ => rfl))) rfl (by simp)
end
end Go.Proofs.Ytjelflknbhklnaa
