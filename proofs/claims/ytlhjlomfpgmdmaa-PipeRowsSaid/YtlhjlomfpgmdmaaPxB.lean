/- A new pipe: the law's walk. -/
import Derived.Test.YtlhjlomfpgmdmaaPxA
import Derived.Test.YtlhjlomfpgmdmaaPipB
namespace Go.Proofs.Ytlhjlomfpgmdmaa
open Go.Sx Go.RowKit
set_option linter.unusedVariables false
set_option linter.unusedSimpArgs false
section
variable {W : Base} {B : List (Option (List At))} {Rs : List (Option Row)}
theorem shownX : CallOk Try.prog W B Rs 11 [] (mkHd trueV []) :=
  CallOk.of_true Try.func11 (by kernel_rfl) rfl shown_any
structure Made (L K : List PP) (n : Nat) : Prop where
  lo : 1 ≤ n
  hi : n ≤ K.length
  at_ : K.getD (n - 1) pp0 = pp1
  le : L.length ≤ K.length
  ge : K.length ≤ L.length + 1
  other : ∀ i, i < L.length → i ≠ n - 1 → K.getD i pp0 = L.getD i pp0
  free : n - 1 < L.length → Free (L.getD (n - 1) pp0)
  make : ∀ {W : Base} {B : List (Option (List At))} {Rs : List (Option Row)} {r : Nat} {R : Row}, Rs[r]? = some (some R) → RowLe R (rowP L) → CallOk Try.prog W B Rs 17 [rsV r] (mkHd (madeV n 0) [newP K])
theorem made_or (L : List PP) (hl : L.length ≤ 4398046511104) : (∃ K n, Made L K n) ∨ (4 ≤ L.length ∧ IxFree L (-1)) := by
  obtain ⟨n, hn⟩ := ixFree_ex L
  rcases hn with ⟨k, rfl, hk, hf, hb⟩ | ⟨rfl, hb⟩
  · refine .inl ⟨L.set k pp1, k + 1, by omega, by simp; omega, ?_, by simp, by simp, fun i hi hne => ?_, fun h => by simpa using hf, fun {W B Rs r R} hr hR => ?_⟩
    · simp [List.getD_eq_getElem?_getD, hk]
    · simp only [List.getD_eq_getElem?_getD]; rw [List.getElem?_set_ne (by omega)]
    · have := makeAt (W := W) (B := B) hr hR hl (.inl ⟨k, rfl, hk, hf, hb⟩) hk
      exact this
  · by_cases h4 : 4 ≤ L.length
    · exact .inr ⟨h4, .inr ⟨rfl, hb⟩⟩
    · refine .inl ⟨L ++ [pp1], L.length + 1, by omega, by simp, by simp, by simp, by simp, fun i hi hne => ?_, fun h => by omega, fun {W B Rs r R} hr hR => makeNew hr hR (by omega) (.inr ⟨rfl, hb⟩)⟩
      simp only [List.getD_eq_getElem?_getD]; rw [List.getElem?_append_left hi]
end
set_option maxRecDepth 100000 in
theorem new_walk (w : World) (c : Value) (L : List PP) (hrow : ∀ W ρ, RowOk W ρ w c (rowP L)) (hl : L.length ≤ 4398046511104) :
    Calls Try.prog 8 #[c] w fun e w' => e = .returned (.bool true) ∧ Below w.heap.size w w' := by
  obtain ⟨A, cap, rfl, _⟩ := (hrow ⟨w, none, [], []⟩ ⟨fun _ => none, fun _ => none⟩).form
  refine calls_top Try.func8 rfl [.slice A L.length cap] [rowP L] [rsV 0] (.cons hrow rfl .nil) ⟨rfl, trivial⟩ ?_
  clear hrow
  rcases made_or L hl with ⟨K, n, hm⟩ | ⟨h4, hn⟩
  · obtain ⟨h1, h2, h3, h4, h5, h6, h7, hmk⟩ := hm
    refine SG.walk tab_ok mx 400 [false, false, false, false, false, false] [mkHd trueV [], mkHd (madeV n 0) [newP K]] ?_
    conv => whnf
    try dsimp only [rowL, rowN, growOk, hiN, fromL, tightN, maxOk]
    try simp (disch := omega) only [wI, wU64, wU32, wU8, Int.toNat_natCast, toNat_succ, toNat_pred, Int.reduceToNat, Option.getD_some, Option.getD_none, Nat.sub_zero, Nat.zero_add]
    refine ⟨?_, ?_⟩
    · refine ⟨by simp only [decide_eq_false_iff_not]; omega, by simp only [decide_eq_false_iff_not]; omega, ?_, by omega, by omega, by simp only [decide_eq_false_iff_not]; omega, by simp only [decide_eq_false_iff_not]; omega, by decide, hmk (r := 0) rfl (.of rfl rfl (fun _ _ => rfl)), shownX⟩
      rw [show ((n : Int) - 1).toNat = n - 1 by omega, h3]; simp
    refine SG.loop (fun k : Nat => ⟨puts (List.replicate (Try.f8).ntmps .any) [(0, rsV 0), (3, trueV), (4, rsV 1), (5, intV n), (7, intV k)], [], [some (rowP L), some (newP K)], []⟩) (fun k => k ≤ L.length) (fun k => L.length - k) (0) (Nat.zero_le _) (fun h => SG.sub [] [0, 1] ⟨?_, ?_, ?_, by decide, rfl, rfl, rfl, ?_⟩ h) ?_
    · repeat' (first | exact trivial | exact rfl | refine And.intro ?_ ?_)
    · repeat' (first | exact trivial | exact rfl | refine And.intro ?_ ?_)
    · repeat' (first | exact trivial | refine ⟨⟨_, rfl, ⟨rfl, rfl, .inl rfl, (fun h => by first | exact h | cases h), (fun h => by first | exact h | cases h), fun _ _ => rfl⟩, fun _ _ => rfl⟩, ?_⟩ | refine ⟨⟨_, rfl, ⟨rfl, rfl, .inr rfl, (fun h => by first | exact h | cases h), (fun h => by first | exact h | cases h), fun _ _ => rfl⟩, fun _ _ => rfl⟩, ?_⟩ | refine ⟨⟨_, rfl, ⟨rfl, rfl, .inr rfl, (fun h => by first | exact h | cases h), (fun h => by first | exact h | cases h), fun i hi => absurd hi (Nat.not_lt_zero i)⟩, fun i hi => absurd hi (Nat.not_lt_zero i)⟩, ?_⟩ | refine ⟨⟨_, rfl, ⟨rfl, rfl, .inl rfl, (fun h => by first | exact h | cases h), (fun h => by first | exact h | cases h), fun i hi => ren_closed (hQc i hi)⟩, fun i hi => inn_closed (hQc i hi)⟩, ?_⟩)
    · repeat' (first | exact trivial | exact rfl | refine And.intro ?_ ?_)
    intro k hk next
    by_cases hlt : k < L.length
    · by_cases hkn : k = n - 1
      · refine SG.walk tab_ok mx 400 [true, false, true, false, false] [] ?_
        conv => whnf
        try dsimp only [rowL, rowN, growOk, hiN, fromL, tightN, maxOk]
        try simp (disch := omega) only [wI, wU64, wU32, wU8, Int.toNat_natCast, toNat_succ, toNat_pred, Int.reduceToNat, Option.getD_some, Option.getD_none, Nat.sub_zero, Nat.zero_add]
        refine ⟨?_, ?_⟩
        · have hf := h7 (by omega)
          rw [← hkn] at hf
          obtain ⟨hf1, hf2⟩ := hf
          refine ⟨by simp only [decide_eq_false_iff_not]; omega, by omega, by omega, by simp only [decide_eq_false_iff_not]; omega, by omega, by omega, by simp only [beq_iff_eq]; omega, by simp only [bne_eq_false_iff_eq]; omega, by simpa using hlt⟩
        refine SG.sub [] [0, 1] ⟨?_, ?_, ?_, by decide, rfl, rfl, rfl, ?_⟩ (next (k + 1) hlt (by omega))
        · repeat' (first | exact trivial | exact rfl | refine And.intro ?_ ?_)
        · repeat' (first | exact trivial | exact rfl | refine And.intro ?_ ?_)
        · repeat' (first | exact trivial | refine ⟨⟨_, rfl, ⟨rfl, rfl, .inl rfl, (fun h => by first | exact h | cases h), (fun h => by first | exact h | cases h), fun _ _ => rfl⟩, fun _ _ => rfl⟩, ?_⟩ | refine ⟨⟨_, rfl, ⟨rfl, rfl, .inr rfl, (fun h => by first | exact h | cases h), (fun h => by first | exact h | cases h), fun _ _ => rfl⟩, fun _ _ => rfl⟩, ?_⟩ | refine ⟨⟨_, rfl, ⟨rfl, rfl, .inr rfl, (fun h => by first | exact h | cases h), (fun h => by first | exact h | cases h), fun i hi => absurd hi (Nat.not_lt_zero i)⟩, fun i hi => absurd hi (Nat.not_lt_zero i)⟩, ?_⟩ | refine ⟨⟨_, rfl, ⟨rfl, rfl, .inl rfl, (fun h => by first | exact h | cases h), (fun h => by first | exact h | cases h), fun i hi => ren_closed (hQc i hi)⟩, fun i hi => inn_closed (hQc i hi)⟩, ?_⟩)
        · repeat' (first | exact trivial | exact rfl | refine And.intro ?_ ?_)
      · refine SG.walk tab_ok mx 400 [true, true, false, false] [] ?_
        conv => whnf
        try dsimp only [rowL, rowN, growOk, hiN, fromL, tightN, maxOk]
        try simp (disch := omega) only [wI, wU64, wU32, wU8, Int.toNat_natCast, toNat_succ, toNat_pred, Int.reduceToNat, Option.getD_some, Option.getD_none, Nat.sub_zero, Nat.zero_add]
        refine ⟨?_, ?_⟩
        · refine ⟨by simp only [beq_eq_false_iff_ne, ne_eq]; omega, ?_, by omega, by omega, by omega, by omega, by simp only [bne_iff_ne, ne_eq]; omega, by simpa using hlt⟩
          rw [h6 k hlt hkn, pp_eq]; simp
        refine SG.sub [] [0, 1] ⟨?_, ?_, ?_, by decide, rfl, rfl, rfl, ?_⟩ (next (k + 1) hlt (by omega))
        · repeat' (first | exact trivial | exact rfl | refine And.intro ?_ ?_)
        · repeat' (first | exact trivial | exact rfl | refine And.intro ?_ ?_)
        · repeat' (first | exact trivial | refine ⟨⟨_, rfl, ⟨rfl, rfl, .inl rfl, (fun h => by first | exact h | cases h), (fun h => by first | exact h | cases h), fun _ _ => rfl⟩, fun _ _ => rfl⟩, ?_⟩ | refine ⟨⟨_, rfl, ⟨rfl, rfl, .inr rfl, (fun h => by first | exact h | cases h), (fun h => by first | exact h | cases h), fun _ _ => rfl⟩, fun _ _ => rfl⟩, ?_⟩ | refine ⟨⟨_, rfl, ⟨rfl, rfl, .inr rfl, (fun h => by first | exact h | cases h), (fun h => by first | exact h | cases h), fun i hi => absurd hi (Nat.not_lt_zero i)⟩, fun i hi => absurd hi (Nat.not_lt_zero i)⟩, ?_⟩ | refine ⟨⟨_, rfl, ⟨rfl, rfl, .inl rfl, (fun h => by first | exact h | cases h), (fun h => by first | exact h | cases h), fun i hi => ren_closed (hQc i hi)⟩, fun i hi => inn_closed (hQc i hi)⟩, ?_⟩)
        · repeat' (first | exact trivial | exact rfl | refine And.intro ?_ ?_)
    · refine SG.walk tab_ok mx 400 [false] [] ?_
      conv => whnf
      try dsimp only [rowL, rowN, growOk, hiN, fromL, tightN, maxOk]
      try simp (disch := omega) only [wI, wU64, wU32, wU8, Int.toNat_natCast, toNat_succ, toNat_pred, Int.reduceToNat, Option.getD_some, Option.getD_none, Nat.sub_zero, Nat.zero_add]
      refine ⟨?_, ?_⟩
      · simpa using hlt
      refine SG.ret tab_ok Try.func8 rfl ?_
      intro ρ w' v hm hv
      exact top_true hm hv rfl
  · refine SG.walk tab_ok mx 400 [true, true, true, true] [mkHd trueV [], mkHd (madeV 0 5) [newP L], mkHd trueV []] ?_
    conv => whnf
    try dsimp only [rowL, rowN, growOk, hiN, fromL, tightN, maxOk]
    try simp (disch := omega) only [wI, wU64, wU32, wU8, Int.toNat_natCast, toNat_succ, toNat_pred, Int.reduceToNat, Option.getD_some, Option.getD_none, Nat.sub_zero, Nat.zero_add]
    refine ⟨?_, ?_⟩
    · exact ⟨sameP (r := 1) (q := 0) (L := L) (M := L) rfl (.of rfl rfl (fun _ _ => rfl)) rfl (.of rfl rfl (fun _ _ => rfl)) hl (by simp), by simp only [decide_eq_true_eq]; omega, by decide, makeFull (r := 0) rfl (.of rfl rfl (fun _ _ => rfl)) hl h4 hn, shownX⟩
    refine SG.ret tab_ok Try.func8 rfl ?_
    intro ρ w' v hm hv
    exact top_v hm hv rfl
end Go.Proofs.Ytlhjlomfpgmdmaa
