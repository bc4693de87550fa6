/- Images as bytes. -/
import Derived.Test.YtmifdcanokpkiaaEl
namespace Go.Proofs.Ytmifdcanokpkiaa
open Go.Sx Go.RowKit
set_option linter.unusedVariables false
set_option linter.unusedSimpArgs false
section
variable {W : Base} {B : List (Option (List At))} {Rs : List (Option Row)}
set_option maxRecDepth 100000 in
theorem packBig {r : Nat} {R : Row} {S : List RS} (hr : Rs[r]? = some (some R)) (hR : RowLe R (rowSs S)) (h : S.length > 4) : CallOk Try.prog W B Rs 5 [rsV r] (hdT [.one (aS s0), .one (aI 4)]) := by
  refine CallOk.enter Try.func5 (by kernel_rfl) rfl [r] [rowSs S] [rsV 0] rfl (rows1 (.ro_ hr hR rfl rfl (fun _ _ => rfl))) (fun r h => by cases h) rfl rfl ?_
  intro w blk hblk
  refine SG.walk tab_ok mx 400 [true] [] ?_
  conv => whnf
  try dsimp only [rowL, rowN, growOk, hiN, fromL, tightN, maxOk]
  try simp only [Int.toNat_natCast, Int.reduceToNat, Option.getD_some, Option.getD_none, Nat.sub_zero, Nat.zero_add]
  try simp (disch := omega) only [wSucc]
  refine ⟨?_, ?_⟩
  · repeat' apply And.intro
    all_goals first
      | trivial
      | rfl
      | omega
      | ((try dsimp only [rowL, rowN]); simp only [beq_iff_eq, beq_eq_false_iff_ne, bne_iff_ne, bne_eq_false_iff_eq, decide_eq_true_eq, decide_eq_false_iff_not, ne_eq, Bool.not_eq_true', Bool.not_eq_false', Bool.not_eq_eq_eq_not, Bool.not_true, Bool.not_false, Option.some.injEq, Option.getD_some, Option.getD_none]; omega)
      | (simp; done)
      | (simp; omega)
  refine SG.ret tab_ok Try.func5 rfl ?_
  intro ρ w' v hm hv
  exact Post.mk hm (.tup [.one (aS s0), .one (aI 4)]) [] none [] hv rfl rows0 rfl (by simp)
def pre (S : List RS) (k : Nat) : List UInt8 := UInt8.ofNat S.length :: (S.take k).flatMap (fun r => roL r.L)
def preR (l : List UInt8) (L : List ByteArray) (j : Nat) : List UInt8 := (l ++ [UInt8.ofNat L.length]) ++ (L.take j).flatMap imL
theorem preR_succ {l : List UInt8} {L : List ByteArray} {j : Nat} (h : j < L.length) : preR l L (j + 1) = (preR l L j ++ [UInt8.ofNat (L.getD j s0).size]) ++ (L.getD j s0).data.toList := by
  unfold preR
  rw [flat_succ (d := s0) h]
  simp [imL, - List.getD_eq_getElem?_getD]
theorem pre_succ {S : List RS} {k : Nat} (h : k < S.length) : pre S (k + 1) = preR (pre S k) (S.getD k rs0).L (S.getD k rs0).L.length := by
  unfold pre preR
  rw [flat_succ (d := rs0) h, List.take_length]
  simp [roL, - List.getD_eq_getElem?_getD]
def pkR (S : List RS) : ByteArray := if pkE S = 0 then pkB S else s0
theorem pkE_bad {S : List RS} {k : Nat} (h : k < S.length) (hb : badR (S.getD k rs0) = true) : pkE S = 4 := by
  unfold pkE
  rw [if_pos (.inr (List.any_eq_true.2 ⟨_, getD_mem' h, hb⟩))]
theorem pkR_bad {S : List RS} {k : Nat} (h : k < S.length) (hb : badR (S.getD k rs0) = true) : pkR S = s0 := by
  unfold pkR
  rw [pkE_bad h hb, if_neg (by omega)]
theorem badR_len {r : RS} (h : r.L.length > 8) : badR r = true := by simp [badR, h]
theorem badR_im {r : RS} {j : Nat} (h : j < r.L.length) (hb : (r.L.getD j s0).size > 64) : badR r = true := by
  simp only [badR, Bool.or_eq_true, List.any_eq_true]
  exact .inr ⟨_, getD_mem' h, by simpa using hb⟩
theorem badR_no {r : RS} (h1 : ¬ r.L.length > 8) (h2 : ∀ j, j < r.L.length → ¬ (r.L.getD j s0).size > 64) : badR r = false := by
  rw [Bool.eq_false_iff]
  intro h
  simp only [badR, Bool.or_eq_true, List.any_eq_true, decide_eq_true_eq] at h
  rcases h with h | ⟨x, hx, h⟩
  · exact h1 h
  · obtain ⟨j, hj, e⟩ := List.getElem_of_mem hx
    refine h2 j hj ?_
    rw [List.getD_eq_getElem?_getD, List.getElem?_eq_getElem hj, e]
    exact h
theorem pkE_ok {S : List RS} (h1 : ¬ S.length > 4) (h2 : ∀ j, j < S.length → badR (S.getD j rs0) = false) : pkE S = 0 := by
  unfold pkE
  rw [if_neg]
  rintro (h | h)
  · exact h1 h
  · obtain ⟨x, hx, hb⟩ := List.any_eq_true.1 h
    obtain ⟨j, hj, e⟩ := List.getElem_of_mem hx
    have := h2 j hj
    rw [List.getD_eq_getElem?_getD, List.getElem?_eq_getElem hj] at this
    rw [Option.getD_some, e, hb] at this
    cases this
theorem pre_all {S : List RS} {k : Nat} (h : ¬ k < S.length) : pre S k = pkL S := by
  unfold pre pkL
  rw [List.take_of_length_le (by omega)]
set_option maxRecDepth 100000 in
theorem packC {r : Nat} {R : Row} {S : List RS} (hr : Rs[r]? = some (some R)) (hR : RowLe R (rowSs S)) (h : ¬ S.length > 4) : CallOk Try.prog W B Rs 5 [rsV r] (hdT [.one (aS (pkR S)), .one (aI (pkE S))]) := by
  refine CallOk.enter Try.func5 (by kernel_rfl) rfl [r] [rowSs S] [rsV 0] rfl (rows1 (.ro_ hr hR rfl rfl (fun _ _ => rfl))) (fun r h => by cases h) rfl rfl ?_
  intro w blk hblk
  refine SG.walk tab_ok mx 400 [false] [] ?_
  conv => whnf
  try dsimp only [rowL, rowN, growOk, hiN, fromL, tightN, maxOk]
  try simp only [Int.toNat_natCast, Int.reduceToNat, Option.getD_some, Option.getD_none, Nat.sub_zero, Nat.zero_add]
  try simp (disch := omega) only [wSucc]
  refine ⟨?_, ?_⟩
  · repeat' apply And.intro
    all_goals first
      | trivial
      | rfl
      | omega
      | ((try dsimp only [rowL, rowN]); simp only [beq_iff_eq, beq_eq_false_iff_ne, bne_iff_ne, bne_eq_false_iff_eq, decide_eq_true_eq, decide_eq_false_iff_not, ne_eq, Bool.not_eq_true', Bool.not_eq_false', Bool.not_eq_eq_eq_not, Bool.not_true, Bool.not_false, Option.some.injEq, Option.getD_some, Option.getD_none]; omega)
      | (simp; done)
      | (simp; omega)
  rw [wU8 (x := (S.length : Int)) (by omega) (by omega)]
  refine SG.loop (fun k : Nat => ⟨puts (List.replicate (Try.f5).ntmps .any) [(4, rsV 1), (16, rsV 0), (17, intV S.length), (18, intV k)], [], [some (rowSs S), some (rowBy (pre S k))], []⟩) (fun k => k ≤ S.length ∧ (pre S k).length ≤ 1 + 521 * k ∧ ∀ j, j < k → badR (S.getD j rs0) = false) (fun k => S.length - k) (0) (⟨Nat.zero_le _, by simp [pre], fun j hj => by omega⟩) (fun h => SG.sub [] [0, 1] ⟨?_, ?_, ?_, by decide, rfl, rfl, rfl, ?_⟩ h) ?_
  · repeat' (first | exact trivial | exact rfl | refine And.intro ?_ ?_)
  · repeat' (first | exact trivial | exact rfl | refine And.intro ?_ ?_)
  · first | refine ⟨⟨_, rfl, ⟨rfl, rfl, .inl rfl, (fun h => by first | exact h | cases h), (fun h => by first | exact h | cases h), fun _ _ => rfl⟩, fun _ _ => rfl⟩, ?_⟩ | refine ⟨⟨_, rfl, ⟨rfl, rfl, .inr rfl, (fun h => by first | exact h | cases h), (fun h => by first | exact h | cases h), fun _ _ => rfl⟩, fun _ _ => rfl⟩, ?_⟩ | refine ⟨⟨_, rfl, ⟨rfl, rfl, .inr rfl, (fun h => by first | exact h | cases h), (fun h => by first | exact h | cases h), fun i hi => absurd hi (Nat.not_lt_zero i)⟩, fun i hi => absurd hi (Nat.not_lt_zero i)⟩, ?_⟩ | refine ⟨⟨_, rfl, ⟨rfl, rfl, .inl rfl, (fun h => by first | exact h | cases h), (fun h => by first | exact h | cases h), fun i hi => ren_closed (hQc i hi)⟩, fun i hi => inn_closed (hQc i hi)⟩, ?_⟩
    refine ⟨⟨_, rfl, (⟨rfl, rfl, .inr rfl, (fun h => by cases h), fun _ => rfl, fun i hi => by obtain rfl : i = 0 := (by have : i < 1 := hi; omega); exact bC_of (by omega)⟩), fun _ _ => rfl⟩, ?_⟩
    exact trivial
  · repeat' (first | exact trivial | exact rfl | refine And.intro ?_ ?_)
  rintro k ⟨hk, hl, hb⟩ next
  try dsimp only at hk hl hb next ⊢
  by_cases hlt : k < S.length
  · by_cases h8 : (S.getD k rs0).L.length > 8
    · rw [pkE_bad hlt (badR_len h8), pkR_bad hlt (badR_len h8)]
      refine SG.walk tab_ok mx 400 [true, true] [] ?_
      conv => whnf
      try dsimp only [rowL, rowN, growOk, hiN, fromL, tightN, maxOk]
      try simp only [Int.toNat_natCast, Int.reduceToNat, Option.getD_some, Option.getD_none, Nat.sub_zero, Nat.zero_add]
      try simp (disch := omega) only [wSucc]
      refine ⟨?_, ?_⟩
      · repeat' apply And.intro
        all_goals first
          | trivial
          | rfl
          | omega
          | ((try dsimp only [rowL, rowN]); simp only [beq_iff_eq, beq_eq_false_iff_ne, bne_iff_ne, bne_eq_false_iff_eq, decide_eq_true_eq, decide_eq_false_iff_not, ne_eq, Bool.not_eq_true', Bool.not_eq_false', Bool.not_eq_eq_eq_not, Bool.not_true, Bool.not_false, Option.some.injEq, Option.getD_some, Option.getD_none]; omega)
          | (simp; done)
          | (simp; omega)
      refine SG.ret tab_ok Try.func5 rfl ?_
      intro ρ w' v hm hv
      exact Post.mk hm (.tup [.one (aS s0), .one (aI 4)]) [] none [] hv rfl rows0 rfl (by simp)
    · refine SG.walk tab_ok mx 400 [true, false] [] ?_
      conv => whnf
      try dsimp only [rowL, rowN, growOk, hiN, fromL, tightN, maxOk]
      try simp only [Int.toNat_natCast, Int.reduceToNat, Option.getD_some, Option.getD_none, Nat.sub_zero, Nat.zero_add]
      try simp (disch := omega) only [wSucc]
      refine ⟨?_, ?_⟩
      · repeat' apply And.intro
        all_goals first
          | trivial
          | rfl
          | omega
          | ((try dsimp only [rowL, rowN]); simp only [beq_iff_eq, beq_eq_false_iff_ne, bne_iff_ne, bne_eq_false_iff_eq, decide_eq_true_eq, decide_eq_false_iff_not, ne_eq, Bool.not_eq_true', Bool.not_eq_false', Bool.not_eq_eq_eq_not, Bool.not_true, Bool.not_false, Option.some.injEq, Option.getD_some, Option.getD_none]; omega)
          | (simp; done)
          | (simp; omega)
      rw [wU8 (x := ((S.getD k rs0).L.length : Int)) (by omega) (by omega)]
      refine SG.loop (fun j : Nat => ⟨puts (List.replicate (Try.f5).ntmps .any) [(4, rsV 1), (16, rsV 0), (17, intV S.length), (18, intV k), (31, roV (S.getD k rs0)), (32, intV (S.getD k rs0).L.length), (33, intV j)], [], [some (rowSs S), some (rowBy (preR (pre S k) (S.getD k rs0).L j))], []⟩) (fun j => j ≤ (S.getD k rs0).L.length ∧ (preR (pre S k) (S.getD k rs0).L j).length ≤ 2 + 521 * k + 65 * j ∧ ∀ i, i < j → ¬ ((S.getD k rs0).L.getD i s0).size > 64) (fun j => (S.getD k rs0).L.length - j) (0) (⟨Nat.zero_le _, by simp [preR]; omega, fun j hj => by omega⟩) (fun h => SG.sub [] [0, 3] ⟨?_, ?_, ?_, by decide, rfl, rfl, rfl, ?_⟩ h) ?_
      · repeat' (first | exact trivial | exact rfl | refine And.intro ?_ ?_)
      · repeat' (first | exact trivial | exact rfl | refine And.intro ?_ ?_)
      · first | refine ⟨⟨_, rfl, ⟨rfl, rfl, .inl rfl, (fun h => by first | exact h | cases h), (fun h => by first | exact h | cases h), fun _ _ => rfl⟩, fun _ _ => rfl⟩, ?_⟩ | refine ⟨⟨_, rfl, ⟨rfl, rfl, .inr rfl, (fun h => by first | exact h | cases h), (fun h => by first | exact h | cases h), fun _ _ => rfl⟩, fun _ _ => rfl⟩, ?_⟩ | refine ⟨⟨_, rfl, ⟨rfl, rfl, .inr rfl, (fun h => by first | exact h | cases h), (fun h => by first | exact h | cases h), fun i hi => absurd hi (Nat.not_lt_zero i)⟩, fun i hi => absurd hi (Nat.not_lt_zero i)⟩, ?_⟩ | refine ⟨⟨_, rfl, ⟨rfl, rfl, .inl rfl, (fun h => by first | exact h | cases h), (fun h => by first | exact h | cases h), fun i hi => ren_closed (hQc i hi)⟩, fun i hi => inn_closed (hQc i hi)⟩, ?_⟩
        refine ⟨⟨_, rfl, (RowLe.snoc (L := pre S k) (x := UInt8.ofNat (S.getD k rs0).L.length) (by simp [preR]) rfl (fun i hi => if_pos hi) (by rw [if_neg (Nat.lt_irrefl _), Nat.sub_self]; exact (bC_of (by omega)).symm) (fun _ => rfl)), fun _ _ => rfl⟩, ?_⟩
        exact trivial
      · repeat' (first | exact trivial | exact rfl | refine And.intro ?_ ?_)
      rintro j ⟨hj, hm, hs⟩ next2
      try dsimp only at hj hm hs next2 ⊢
      by_cases hlj : j < (S.getD k rs0).L.length
      · by_cases h64 : ((S.getD k rs0).L.getD j s0).size > 64
        · rw [pkE_bad hlt (badR_im hlj h64), pkR_bad hlt (badR_im hlj h64)]
          refine SG.walk tab_ok mx 400 [true, true] [] ?_
          conv => whnf
          try dsimp only [rowL, rowN, growOk, hiN, fromL, tightN, maxOk]
          try simp only [Int.toNat_natCast, Int.reduceToNat, Option.getD_some, Option.getD_none, Nat.sub_zero, Nat.zero_add]
          try simp (disch := omega) only [wSucc]
          refine ⟨?_, ?_⟩
          · repeat' apply And.intro
            all_goals first
              | trivial
              | rfl
              | omega
              | ((try dsimp only [rowL, rowN]); simp only [beq_iff_eq, beq_eq_false_iff_ne, bne_iff_ne, bne_eq_false_iff_eq, decide_eq_true_eq, decide_eq_false_iff_not, ne_eq, Bool.not_eq_true', Bool.not_eq_false', Bool.not_eq_eq_eq_not, Bool.not_true, Bool.not_false, Option.some.injEq, Option.getD_some, Option.getD_none]; omega)
              | (simp; done)
              | (simp; omega)
          refine SG.ret tab_ok Try.func5 rfl ?_
          intro ρ w' v hm hv
          exact Post.mk hm (.tup [.one (aS s0), .one (aI 4)]) [] none [] hv rfl rows0 rfl (by simp)
        · refine SG.walk tab_ok mx 400 [true, false] [] ?_
          conv => whnf
          try dsimp only [rowL, rowN, growOk, hiN, fromL, tightN, maxOk]
          try simp only [Int.toNat_natCast, Int.reduceToNat, Option.getD_some, Option.getD_none, Nat.sub_zero, Nat.zero_add]
          try simp (disch := omega) only [wSucc]
          refine ⟨?_, ?_⟩
          · repeat' apply And.intro
            all_goals first
              | trivial
              | rfl
              | omega
              | ((try dsimp only [rowL, rowN]); simp only [beq_iff_eq, beq_eq_false_iff_ne, bne_iff_ne, bne_eq_false_iff_eq, decide_eq_true_eq, decide_eq_false_iff_not, ne_eq, Bool.not_eq_true', Bool.not_eq_false', Bool.not_eq_eq_eq_not, Bool.not_true, Bool.not_false, Option.some.injEq, Option.getD_some, Option.getD_none]; omega)
              | (simp; done)
              | (simp; omega)
          rw [wU8 (x := (((S.getD k rs0).L.getD j s0).size : Int)) (by omega) (by omega)]
          refine SG.appStr tab_ok rfl rfl rfl rfl rfl rfl rfl rfl rfl rfl rfl rfl rfl rfl rfl rfl ?_ ?_ ?_
          · exact Nat.succ_pos _
          · show (preR (pre S k) (S.getD k rs0).L j).length + 1 + ((S.getD k rs0).L.getD j s0).size ≤ _
            omega
          refine SG.norm ?_
          conv => whnf
          refine SG.walk tab_ok mx 400 [] [] ?_
          conv => whnf
          try dsimp only [rowL, rowN, growOk, hiN, fromL, tightN, maxOk]
          try simp only [Int.toNat_natCast, Int.reduceToNat, Option.getD_some, Option.getD_none, Nat.sub_zero, Nat.zero_add]
          try simp (disch := omega) only [wSucc]
          refine ⟨?_, ?_⟩
          · repeat' apply And.intro
            all_goals first
              | trivial
              | rfl
              | omega
              | ((try dsimp only [rowL, rowN]); simp only [beq_iff_eq, beq_eq_false_iff_ne, bne_iff_ne, bne_eq_false_iff_eq, decide_eq_true_eq, decide_eq_false_iff_not, ne_eq, Bool.not_eq_true', Bool.not_eq_false', Bool.not_eq_eq_eq_not, Bool.not_true, Bool.not_false, Option.some.injEq, Option.getD_some, Option.getD_none]; omega)
              | (simp; done)
              | (simp; omega)
          rw [wI (x := (j : Int) + 1) (by omega) (by omega)]
          refine SG.sub [] [0, 4] ⟨?_, ?_, ?_, by decide, rfl, rfl, rfl, ?_⟩ (next2 (j + 1) ⟨hlj, by rw [preR_succ hlj]; simp only [List.length_append, List.length_cons, List.length_nil, len_size]; omega, upto_succ hs h64⟩ (by omega))
          · repeat' (first | exact trivial | exact rfl | refine And.intro ?_ ?_)
          · repeat' (first | exact trivial | exact rfl | refine And.intro ?_ ?_)
          · first | refine ⟨⟨_, rfl, ⟨rfl, rfl, .inl rfl, (fun h => by first | exact h | cases h), (fun h => by first | exact h | cases h), fun _ _ => rfl⟩, fun _ _ => rfl⟩, ?_⟩ | refine ⟨⟨_, rfl, ⟨rfl, rfl, .inr rfl, (fun h => by first | exact h | cases h), (fun h => by first | exact h | cases h), fun _ _ => rfl⟩, fun _ _ => rfl⟩, ?_⟩ | refine ⟨⟨_, rfl, ⟨rfl, rfl, .inr rfl, (fun h => by first | exact h | cases h), (fun h => by first | exact h | cases h), fun i hi => absurd hi (Nat.not_lt_zero i)⟩, fun i hi => absurd hi (Nat.not_lt_zero i)⟩, ?_⟩ | refine ⟨⟨_, rfl, ⟨rfl, rfl, .inl rfl, (fun h => by first | exact h | cases h), (fun h => by first | exact h | cases h), fun i hi => ren_closed (hQc i hi)⟩, fun i hi => inn_closed (hQc i hi)⟩, ?_⟩
            refine ⟨⟨_, rfl, (rowApps (l := preR (pre S k) (S.getD k rs0).L j ++ [UInt8.ofNat ((S.getD k rs0).L.getD j s0).size]) (str := (S.getD k rs0).L.getD j s0) (preR_succ hlj) (by simp) rfl (fun i hi => (if_pos hi).trans (snoc_ite (c := fun q => [[At.v (.int .u8 (((S.getD k rs0).L.getD j s0).size : Int))]][q]?.getD []) hi (bC_of (by omega)).symm)) (fun i hi => if_neg hi) (fun _ => rfl)), fun _ _ => rfl⟩, ?_⟩
            exact trivial
          · repeat' (first | exact trivial | exact rfl | refine And.intro ?_ ?_)
      · refine SG.walk tab_ok mx 400 [false] [] ?_
        conv => whnf
        try dsimp only [rowL, rowN, growOk, hiN, fromL, tightN, maxOk]
        try simp only [Int.toNat_natCast, Int.reduceToNat, Option.getD_some, Option.getD_none, Nat.sub_zero, Nat.zero_add]
        try simp (disch := omega) only [wSucc]
        refine ⟨?_, ?_⟩
        · repeat' apply And.intro
          all_goals first
            | trivial
            | rfl
            | omega
            | ((try dsimp only [rowL, rowN]); simp only [beq_iff_eq, beq_eq_false_iff_ne, bne_iff_ne, bne_eq_false_iff_eq, decide_eq_true_eq, decide_eq_false_iff_not, ne_eq, Bool.not_eq_true', Bool.not_eq_false', Bool.not_eq_eq_eq_not, Bool.not_true, Bool.not_false, Option.some.injEq, Option.getD_some, Option.getD_none]; omega)
            | (simp; done)
            | (simp; omega)
        rw [wI (x := (k : Int) + 1) (by omega) (by omega)]
        have hjl : j = (S.getD k rs0).L.length := by omega
        rw [hjl, ← pre_succ hlt]
        rw [hjl, ← pre_succ hlt] at hm
        refine SG.sub [] [0, 1] ⟨?_, ?_, ?_, by decide, rfl, rfl, rfl, ?_⟩ (next (k + 1) ⟨hlt, by omega, upto_succ hb (badR_no h8 (fun i hi => hs i (by omega)))⟩ (by omega))
        · repeat' (first | exact trivial | exact rfl | refine And.intro ?_ ?_)
        · repeat' (first | exact trivial | exact rfl | refine And.intro ?_ ?_)
        · repeat' (first | exact trivial | refine ⟨⟨_, rfl, ⟨rfl, rfl, .inl rfl, (fun h => by first | exact h | cases h), (fun h => by first | exact h | cases h), fun _ _ => rfl⟩, fun _ _ => rfl⟩, ?_⟩ | refine ⟨⟨_, rfl, ⟨rfl, rfl, .inr rfl, (fun h => by first | exact h | cases h), (fun h => by first | exact h | cases h), fun _ _ => rfl⟩, fun _ _ => rfl⟩, ?_⟩ | refine ⟨⟨_, rfl, ⟨rfl, rfl, .inr rfl, (fun h => by first | exact h | cases h), (fun h => by first | exact h | cases h), fun i hi => absurd hi (Nat.not_lt_zero i)⟩, fun i hi => absurd hi (Nat.not_lt_zero i)⟩, ?_⟩ | refine ⟨⟨_, rfl, ⟨rfl, rfl, .inl rfl, (fun h => by first | exact h | cases h), (fun h => by first | exact h | cases h), fun i hi => ren_closed (hQc i hi)⟩, fun i hi => inn_closed (hQc i hi)⟩, ?_⟩)
        · repeat' (first | exact trivial | exact rfl | refine And.intro ?_ ?_)
  · have e := pre_all hlt
    have e0 := pkE_ok h (fun j hj => hb j (by omega))
    rw [show pkR S = pkB S from by unfold pkR; rw [if_pos e0], e0]
    refine SG.walk tab_ok mx 400 [false] [] ?_
    conv => whnf
    try dsimp only [rowL, rowN, growOk, hiN, fromL, tightN, maxOk]
    try simp only [Int.toNat_natCast, Int.reduceToNat, Option.getD_some, Option.getD_none, Nat.sub_zero, Nat.zero_add]
    try simp (disch := omega) only [wSucc]
    refine ⟨?_, ?_⟩
    · repeat' apply And.intro
      all_goals first
        | trivial
        | rfl
        | omega
        | ((try dsimp only [rowL, rowN]); simp only [beq_iff_eq, beq_eq_false_iff_ne, bne_iff_ne, bne_eq_false_iff_eq, decide_eq_true_eq, decide_eq_false_iff_not, ne_eq, Bool.not_eq_true', Bool.not_eq_false', Bool.not_eq_eq_eq_not, Bool.not_true, Bool.not_false, Option.some.injEq, Option.getD_some, Option.getD_none]; omega)
        | (simp; done)
        | (simp; omega)
    refine SG.convBytes tab_ok (pre S k) (r := 1) rfl rfl rfl rfl rfl rfl rfl rfl rfl rfl rfl rfl rfl (fun j hj => ?_) ?_
    · show bC _ = _
      rw [List.getD_eq_getElem?_getD, List.getElem?_eq_getElem hj]; rfl
    refine SG.norm ?_
    conv => whnf
    refine SG.walk tab_ok mx 400 [] [] ?_
    conv => whnf
    try dsimp only [rowL, rowN, growOk, hiN, fromL, tightN, maxOk]
    try simp only [Int.toNat_natCast, Int.reduceToNat, Option.getD_some, Option.getD_none, Nat.sub_zero, Nat.zero_add]
    try simp (disch := omega) only [wSucc]
    refine ⟨?_, ?_⟩
    · repeat' apply And.intro
      all_goals first
        | trivial
        | rfl
        | omega
        | ((try dsimp only [rowL, rowN]); simp only [beq_iff_eq, beq_eq_false_iff_ne, bne_iff_ne, bne_eq_false_iff_eq, decide_eq_true_eq, decide_eq_false_iff_not, ne_eq, Bool.not_eq_true', Bool.not_eq_false', Bool.not_eq_eq_eq_not, Bool.not_true, Bool.not_false, Option.some.injEq, Option.getD_some, Option.getD_none]; omega)
        | (simp; done)
        | (simp; omega)
    rw [e]
    refine SG.ret tab_ok Try.func5 rfl ?_
    intro ρ w' v hm hv
    exact Post.mk hm (.tup [.one (aS (pkB S)), .one (aI 0)]) [] none [] hv rfl rows0 rfl (by simp)
theorem packAny {r : Nat} {R : Row} {S : List RS} (hr : Rs[r]? = some (some R)) (hR : RowLe R (rowSs S)) : CallOk Try.prog W B Rs 5 [rsV r] (hdT [.one (aS (pkR S)), .one (aI (pkE S))]) := by
  by_cases h : S.length > 4
  · have e : pkE S = 4 := by unfold pkE; rw [if_pos (.inl h)]
    rw [show pkR S = s0 from by unfold pkR; rw [if_neg (by rw [e]; decide)], e]
    exact packBig hr hR h
  · exact packC hr hR h
end
end Go.Proofs.Ytmifdcanokpkiaa
