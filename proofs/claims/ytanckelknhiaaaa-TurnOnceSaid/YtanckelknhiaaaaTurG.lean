/- Who is in the row is in it once: the walk. -/
import Derived.Test.YtanckelknhiaaaaTurF
import Derived.Test.YtanckelknhiaaaaTurD
namespace Go.Proofs.Ytanckelknhiaaaa
open Go.Sx Go.RowKit
set_option linter.unusedVariables false
set_option linter.unusedSimpArgs false
structure OnceI (L : List Int) (i : Nat) (M : List Int) (m : Int) : Prop where
  lt : i ≤ L.length
  hi : i ≤ 300
  len : M.length ≤ i
  nd : M.Nodup
  left : M = [] ∨ (1 ≤ m ∧ m ≤ 5)
theorem nodup_getD {M : List Int} (h : M.Nodup) {i k : Nat} (hi : i < M.length) (hk : k < i) : M.getD i 0 ≠ M.getD k 0 := by
  simp only [List.getD_eq_getElem?_getD, List.getElem?_eq_getElem hi, List.getElem?_eq_getElem (show k < M.length by omega), Option.getD_some]
  intro e
  exact (List.pairwise_iff_getElem.1 h k i (by omega) hi hk) e.symm
theorem once_add {L M : List Int} {i : Nat} {m : Int} (h : OnceI L i M m) (hi : i < L.length) (h3 : i < 300) (v : Int) : ∃ (M' : List Int) (m' : Int), OnceI L (i + 1) M' m' ∧
    ∀ {W : Base} {B : List (Option (List At))} {Rs : List (Option Row)} {r : Nat} {R : Row}, Rs[r]? = some (some R) → RowLe R (rowI M) → CallOk Try.prog W B Rs 14 [turnV r m, intV v] (mkHd (turnV 0 m') [newI M']) := by
  have hlen := h.len
  by_cases hv : v ∈ M
  · exact ⟨M, m, ⟨hi, h3, by omega, h.nd, h.left⟩, fun hr hR => add_old hr hR (by omega) hv⟩
  · refine ⟨M ++ [v], _, ⟨hi, h3, by simp; omega, ?_, .inr ?_⟩, fun hr hR => add_new hr hR (by omega) hv⟩
    · rw [List.nodup_append]
      exact ⟨h.nd, by simp, by intro a ha b hb; simp at hb; subst hb; rintro rfl; exact hv ha⟩
    · split
      · omega
      · rcases h.left with e | e
        · rename_i hne; rw [e] at hne; simp at hne
        · exact e
theorem once_drop {L M : List Int} {i : Nat} {m : Int} (h : OnceI L i M m) (hi : i < L.length) (h3 : i < 300) (v : Int) : ∃ (M' : List Int) (m' : Int), OnceI L (i + 1) M' m' ∧
    ∀ {W : Base} {B : List (Option (List At))} {Rs : List (Option Row)} {r : Nat} {R : Row}, Rs[r]? = some (some R) → RowLe R (rowI M) → CallOk Try.prog W B Rs 15 [turnV r m, intV v] (mkHd (turnV 0 m') [frI M']) := by
  have hlen := h.len
  have hle := List.length_filter_le (fun x => decide (x ≠ v)) M
  refine ⟨M.filter (· ≠ v), _, ⟨hi, h3, by omega, h.nd.filter _, ?_⟩, fun hr hR => dropF hr hR (by omega)⟩
  rcases h.left with e | e
  · left; rw [e]; rfl
  · right; split <;> omega
theorem once_spend {L M : List Int} {i : Nat} {m : Int} (h : OnceI L i M m) (hi : i < L.length) (h3 : i < 300) : ∃ (M' : List Int) (m' : Int), OnceI L (i + 1) M' m' ∧
    ∀ {W : Base} {B : List (Option (List At))} {Rs : List (Option Row)} {r : Nat} {R : Row}, Rs[r]? = some (some R) → RowLe R (rowI M) → CallOk Try.prog W B Rs 12 [turnV r m] (mkHd (turnV 0 m') [newI M']) := by
  have hlen := h.len
  have hnd := h.nd
  have hleft := h.left
  match M, hlen, hnd, hleft with
  | [], hlen, hnd, hleft => exact ⟨[], m, ⟨hi, h3, by simp, hnd, .inl rfl⟩, fun hr hR => spend_nil hr hR⟩
  | x :: N, hlen, hnd, hleft =>
    obtain ⟨e1, e2⟩ := hleft.resolve_left (by simp)
    by_cases hm : 1 < m
    · exact ⟨x :: N, m - 1, ⟨hi, h3, by omega, hnd, .inr ⟨by omega, by omega⟩⟩, fun hr hR => spend_more hr hR (by omega) (by simp) hm (by omega)⟩
    · refine ⟨N ++ [x], 5, ⟨hi, h3, by simp at hlen ⊢; omega, ?_, .inr ⟨by omega, by omega⟩⟩, fun hr hR => spend_last hr hR (by omega) (by omega) (by omega)⟩
      have : (N ++ [x]).Perm (x :: N) := List.perm_append_comm
      exact this.nodup_iff.2 hnd
set_option maxHeartbeats 800000 in
set_option maxRecDepth 100000 in
theorem once_walk (w : World) (c : Value) (L : List Int) (hrow : ∀ W ρ, RowOk W ρ w c (rowI L)) (hl : L.length ≤ 17592186044416) (hb : ∀ i, -9223372036854775808 ≤ L.getD i 0 ∧ L.getD i 0 ≤ 9223372036854775807) :
    Calls Try.prog 5 #[c] w fun e w' => e = .returned (.bool true) ∧ Below w.heap.size w w' := by
  obtain ⟨A, cap, rfl, _⟩ := (hrow ⟨w, none⟩ ⟨fun _ => none, fun _ => none⟩).form
  refine calls_top Try.func5 rfl [.slice A L.length cap] [rowI L] [rsV 0] (.cons hrow rfl .nil) ⟨rfl, trivial⟩ ?_
  clear hrow
  refine SG.walk tab_ok mx 400 [] [mkHd trueV []] ?_
  conv => whnf
  try dsimp only [rowL, rowN, growOk, hiN, fromL, tightN, maxOk]
  try simp (disch := omega) only [wI, wU64, wU32, wU8, Int.toNat_natCast, Int.reduceToNat, Option.getD_some, Option.getD_none, Nat.sub_zero, Nat.zero_add]
  refine ⟨?_, ?_⟩
  · exact shown1
  refine SG.nilBox 0 3 1 rfl ?_
  refine SG.loop (fun x : Nat × List Int × Int => ⟨puts (List.replicate (Try.f5).ntmps .any) [(0, rsV 0), (3, trueV), (4, bpV 0), (5, intV x.1)], [some [.rs 1, .v (.int .i64 x.2.2)]], [some (rowI L), some (rowI x.2.1)]⟩) (fun x => OnceI L x.1 x.2.1 x.2.2) (fun x => L.length - x.1) (0, [], 0) ⟨Nat.zero_le _, by omega, by simp, by simp, .inl rfl⟩ (fun h => SG.sub [0] [0, 1] ⟨?_, ?_, ?_, by decide, rfl, rfl, rfl⟩ h) ?_
  · repeat' (first | exact trivial | exact rfl | refine And.intro ?_ ?_)
  · repeat' (first | exact trivial | exact rfl | refine And.intro ?_ ?_)
  · refine ⟨⟨_, rfl, ⟨rfl, rfl, .inl rfl, id, id, fun _ _ => rfl⟩, fun _ _ => rfl⟩, ⟨_, rfl, ⟨rfl, rfl, .inl rfl, (fun h => by cases h), (fun h => by cases h), fun i hi => by cases hi⟩, fun _ _ => rfl⟩, trivial⟩
  rintro ⟨i, M, m⟩ hI next
  dsimp only at hI next ⊢
  have hML := hI.len
  have hM := hI.nd
  have hleft := hI.left
  have hbi := hb i
  have h300 := hI.hi
  by_cases hlt : i < L.length
  · by_cases h3 : i < 300
    · by_cases hv : 0 < L.getD i 0
      · obtain ⟨M', m', hI', hcall⟩ := once_add hI hlt h3 (L.getD i 0)
        refine SG.walk tab_ok mx 400 [true, true, true] [mkHd (turnV 0 m') [newI M']] ?_
        conv => whnf
        try dsimp only [rowL, rowN, growOk, hiN, fromL, tightN, maxOk]
        try simp (disch := omega) only [wI, wU64, wU32, wU8, Int.toNat_natCast, Int.reduceToNat, Option.getD_some, Option.getD_none, Nat.sub_zero, Nat.zero_add]
        refine ⟨?_, ?_⟩
        · exact ⟨hcall rfl (.of rfl rfl (fun _ _ => rfl)), by omega, by omega, by simp only [decide_eq_true_eq]; omega, by omega, by omega, by simp only [decide_eq_true_eq]; omega, by simp only [decide_eq_true_eq]; omega⟩
        refine SG.sub [0] [0, 2] ⟨?_, ?_, ?_, by decide, rfl, rfl, rfl⟩ (next (i + 1, M', m') hI' (by simp; omega))
        · repeat' (first | exact trivial | exact rfl | refine And.intro ?_ ?_)
        · repeat' (first | exact trivial | exact rfl | refine And.intro ?_ ?_)
        · repeat' (first | exact trivial | refine ⟨⟨_, rfl, ⟨rfl, rfl, .inl rfl, (fun h => by first | exact h | cases h), (fun h => by first | exact h | cases h), fun _ _ => rfl⟩, fun _ _ => rfl⟩, ?_⟩ | refine ⟨⟨_, rfl, ⟨rfl, rfl, .inr rfl, (fun h => by first | exact h | cases h), (fun h => by first | exact h | cases h), fun _ _ => rfl⟩, fun _ _ => rfl⟩, ?_⟩)
      · by_cases hv2 : L.getD i 0 < 0
        · by_cases hv3 : -4611686018427387904 < L.getD i 0
          · obtain ⟨M', m', hI', hcall⟩ := once_drop hI hlt h3 (0 - L.getD i 0)
            refine SG.walk tab_ok mx 400 [true, true, false, true, true] [mkHd (turnV 0 m') [frI M']] ?_
            conv => whnf
            try dsimp only [rowL, rowN, growOk, hiN, fromL, tightN, maxOk]
            try simp (disch := omega) only [wI, wU64, wU32, wU8, Int.toNat_natCast, Int.reduceToNat, Option.getD_some, Option.getD_none, Nat.sub_zero, Nat.zero_add]
            refine ⟨?_, ?_⟩
            · exact ⟨hcall rfl (.of rfl rfl (fun _ _ => rfl)), by omega, by omega, by simp only [decide_eq_true_eq]; omega, by omega, by omega, by simp only [decide_eq_true_eq]; omega, by omega, by omega, by simp only [decide_eq_false_iff_not]; omega, by omega, by omega, by simp only [decide_eq_true_eq]; omega, by simp only [decide_eq_true_eq]; omega⟩
            refine SG.sub [0] [0, 2] ⟨?_, ?_, ?_, by decide, rfl, rfl, rfl⟩ (next (i + 1, M', m') hI' (by simp; omega))
            · repeat' (first | exact trivial | exact rfl | refine And.intro ?_ ?_)
            · repeat' (first | exact trivial | exact rfl | refine And.intro ?_ ?_)
            · repeat' (first | exact trivial | refine ⟨⟨_, rfl, ⟨rfl, rfl, .inl rfl, (fun h => by first | exact h | cases h), (fun h => by first | exact h | cases h), fun _ _ => rfl⟩, fun _ _ => rfl⟩, ?_⟩ | refine ⟨⟨_, rfl, ⟨rfl, rfl, .inr rfl, (fun h => by first | exact h | cases h), (fun h => by first | exact h | cases h), fun _ _ => rfl⟩, fun _ _ => rfl⟩, ?_⟩)
          · obtain ⟨M', m', hI', hcall⟩ := once_spend hI hlt h3
            refine SG.walk tab_ok mx 400 [true, true, false, true, false] [mkHd (turnV 0 m') [newI M']] ?_
            conv => whnf
            try dsimp only [rowL, rowN, growOk, hiN, fromL, tightN, maxOk]
            try simp (disch := omega) only [wI, wU64, wU32, wU8, Int.toNat_natCast, Int.reduceToNat, Option.getD_some, Option.getD_none, Nat.sub_zero, Nat.zero_add]
            refine ⟨?_, ?_⟩
            · exact ⟨hcall rfl (.of rfl rfl (fun _ _ => rfl)), by simp only [decide_eq_false_iff_not]; omega, by omega, by omega, by simp only [decide_eq_true_eq]; omega, by omega, by omega, by simp only [decide_eq_false_iff_not]; omega, by omega, by omega, by simp only [decide_eq_true_eq]; omega, by simp only [decide_eq_true_eq]; omega⟩
            refine SG.sub [0] [0, 2] ⟨?_, ?_, ?_, by decide, rfl, rfl, rfl⟩ (next (i + 1, M', m') hI' (by simp; omega))
            · repeat' (first | exact trivial | exact rfl | refine And.intro ?_ ?_)
            · repeat' (first | exact trivial | exact rfl | refine And.intro ?_ ?_)
            · repeat' (first | exact trivial | refine ⟨⟨_, rfl, ⟨rfl, rfl, .inl rfl, (fun h => by first | exact h | cases h), (fun h => by first | exact h | cases h), fun _ _ => rfl⟩, fun _ _ => rfl⟩, ?_⟩ | refine ⟨⟨_, rfl, ⟨rfl, rfl, .inr rfl, (fun h => by first | exact h | cases h), (fun h => by first | exact h | cases h), fun _ _ => rfl⟩, fun _ _ => rfl⟩, ?_⟩)
        · obtain ⟨M', m', hI', hcall⟩ := once_spend hI hlt h3
          refine SG.walk tab_ok mx 400 [true, true, false, false] [mkHd (turnV 0 m') [newI M']] ?_
          conv => whnf
          try dsimp only [rowL, rowN, growOk, hiN, fromL, tightN, maxOk]
          try simp (disch := omega) only [wI, wU64, wU32, wU8, Int.toNat_natCast, Int.reduceToNat, Option.getD_some, Option.getD_none, Nat.sub_zero, Nat.zero_add]
          refine ⟨?_, ?_⟩
          · exact ⟨hcall rfl (.of rfl rfl (fun _ _ => rfl)), by simp only [decide_eq_false_iff_not]; omega, by omega, by omega, by simp only [decide_eq_false_iff_not]; omega, by omega, by omega, by simp only [decide_eq_true_eq]; omega, by simp only [decide_eq_true_eq]; omega⟩
          refine SG.sub [0] [0, 2] ⟨?_, ?_, ?_, by decide, rfl, rfl, rfl⟩ (next (i + 1, M', m') hI' (by simp; omega))
          · repeat' (first | exact trivial | exact rfl | refine And.intro ?_ ?_)
          · repeat' (first | exact trivial | exact rfl | refine And.intro ?_ ?_)
          · repeat' (first | exact trivial | refine ⟨⟨_, rfl, ⟨rfl, rfl, .inl rfl, (fun h => by first | exact h | cases h), (fun h => by first | exact h | cases h), fun _ _ => rfl⟩, fun _ _ => rfl⟩, ?_⟩ | refine ⟨⟨_, rfl, ⟨rfl, rfl, .inr rfl, (fun h => by first | exact h | cases h), (fun h => by first | exact h | cases h), fun _ _ => rfl⟩, fun _ _ => rfl⟩, ?_⟩)
    refine SG.walk tab_ok mx 400 [true, false] [] ?_
    conv => whnf
    try dsimp only [rowL, rowN, growOk, hiN, fromL, tightN, maxOk]
    try simp (disch := omega) only [wI, wU64, wU32, wU8, Int.toNat_natCast, Int.reduceToNat, Option.getD_some, Option.getD_none, Nat.sub_zero, Nat.zero_add]
    refine ⟨?_, ?_⟩
    · exact ⟨by simp only [decide_eq_false_iff_not]; omega, by simpa using hlt⟩
    refine SG.loop (fun j : Nat => ⟨puts (List.replicate (Try.f5).ntmps .any) [(3, trueV), (4, bpV 0), (6, intV j)], [some [.rs 1, .v (.int .i64 m)]], [some (rowI L), some (rowI M)]⟩) (fun j => j ≤ M.length) (fun j => M.length - j) (0) (Nat.zero_le _) (fun h => SG.sub [0] [0, 1] ⟨?_, ?_, ?_, by decide, rfl, rfl, rfl⟩ h) ?_
    · repeat' (first | exact trivial | exact rfl | refine And.intro ?_ ?_)
    · repeat' (first | exact trivial | exact rfl | refine And.intro ?_ ?_)
    · repeat' (first | exact trivial | refine ⟨⟨_, rfl, ⟨rfl, rfl, .inl rfl, (fun h => by first | exact h | cases h), (fun h => by first | exact h | cases h), fun _ _ => rfl⟩, fun _ _ => rfl⟩, ?_⟩ | refine ⟨⟨_, rfl, ⟨rfl, rfl, .inr rfl, (fun h => by first | exact h | cases h), (fun h => by first | exact h | cases h), fun _ _ => rfl⟩, fun _ _ => rfl⟩, ?_⟩)
    intro j hj next2
    by_cases hjl : j < M.length
    · refine SG.walk tab_ok mx 400 [true] [] ?_
      conv => whnf
      try dsimp only [rowL, rowN, growOk, hiN, fromL, tightN, maxOk]
      try simp (disch := omega) only [wI, wU64, wU32, wU8, Int.toNat_natCast, Int.reduceToNat, Option.getD_some, Option.getD_none, Nat.sub_zero, Nat.zero_add]
      refine ⟨?_, ?_⟩
      · simpa using hjl
      refine SG.loop (fun k : Nat => ⟨puts (List.replicate (Try.f5).ntmps .any) [(3, trueV), (4, bpV 0), (6, intV j), (7, intV k)], [some [.rs 1, .v (.int .i64 m)]], [some (rowI L), some (rowI M)]⟩) (fun k => k ≤ j) (fun k => j - k) (0) (Nat.zero_le _) (fun h => SG.sub [0] [0, 1] ⟨?_, ?_, ?_, by decide, rfl, rfl, rfl⟩ h) ?_
      · repeat' (first | exact trivial | exact rfl | refine And.intro ?_ ?_)
      · repeat' (first | exact trivial | exact rfl | refine And.intro ?_ ?_)
      · repeat' (first | exact trivial | refine ⟨⟨_, rfl, ⟨rfl, rfl, .inl rfl, (fun h => by first | exact h | cases h), (fun h => by first | exact h | cases h), fun _ _ => rfl⟩, fun _ _ => rfl⟩, ?_⟩ | refine ⟨⟨_, rfl, ⟨rfl, rfl, .inr rfl, (fun h => by first | exact h | cases h), (fun h => by first | exact h | cases h), fun _ _ => rfl⟩, fun _ _ => rfl⟩, ?_⟩)
      intro k hk next3
      by_cases hkj : k < j
      · have hne := nodup_getD hM hjl hkj
        refine SG.walk tab_ok mx 400 [true, false] [] ?_
        conv => whnf
        try dsimp only [rowL, rowN, growOk, hiN, fromL, tightN, maxOk]
        try simp (disch := omega) only [wI, wU64, wU32, wU8, Int.toNat_natCast, Int.reduceToNat, Option.getD_some, Option.getD_none, Nat.sub_zero, Nat.zero_add]
        refine ⟨?_, ?_⟩
        · exact ⟨by simpa using hne, by omega, by omega, by omega, by omega, by simpa using hkj⟩
        refine SG.sub [0] [0, 1] ⟨?_, ?_, ?_, by decide, rfl, rfl, rfl⟩ (next3 (k + 1) hkj (by omega))
        · repeat' (first | exact trivial | exact rfl | refine And.intro ?_ ?_)
        · repeat' (first | exact trivial | exact rfl | refine And.intro ?_ ?_)
        · repeat' (first | exact trivial | refine ⟨⟨_, rfl, ⟨rfl, rfl, .inl rfl, (fun h => by first | exact h | cases h), (fun h => by first | exact h | cases h), fun _ _ => rfl⟩, fun _ _ => rfl⟩, ?_⟩ | refine ⟨⟨_, rfl, ⟨rfl, rfl, .inr rfl, (fun h => by first | exact h | cases h), (fun h => by first | exact h | cases h), fun _ _ => rfl⟩, fun _ _ => rfl⟩, ?_⟩)
      · refine SG.walk tab_ok mx 400 [false] [] ?_
        conv => whnf
        try dsimp only [rowL, rowN, growOk, hiN, fromL, tightN, maxOk]
        try simp (disch := omega) only [wI, wU64, wU32, wU8, Int.toNat_natCast, Int.reduceToNat, Option.getD_some, Option.getD_none, Nat.sub_zero, Nat.zero_add]
        refine ⟨?_, ?_⟩
        · simpa using hkj
        refine SG.sub [0] [0, 1] ⟨?_, ?_, ?_, by decide, rfl, rfl, rfl⟩ (next2 (j + 1) hjl (by omega))
        · repeat' (first | exact trivial | exact rfl | refine And.intro ?_ ?_)
        · repeat' (first | exact trivial | exact rfl | refine And.intro ?_ ?_)
        · repeat' (first | exact trivial | refine ⟨⟨_, rfl, ⟨rfl, rfl, .inl rfl, (fun h => by first | exact h | cases h), (fun h => by first | exact h | cases h), fun _ _ => rfl⟩, fun _ _ => rfl⟩, ?_⟩ | refine ⟨⟨_, rfl, ⟨rfl, rfl, .inr rfl, (fun h => by first | exact h | cases h), (fun h => by first | exact h | cases h), fun _ _ => rfl⟩, fun _ _ => rfl⟩, ?_⟩)
    · rcases hleft with e | e
      · subst e
        refine SG.walk tab_ok mx 400 [false, true] [] ?_
        conv => whnf
        try dsimp only [rowL, rowN, growOk, hiN, fromL, tightN, maxOk]
        try simp (disch := omega) only [wI, wU64, wU32, wU8, Int.toNat_natCast, Int.reduceToNat, Option.getD_some, Option.getD_none, Nat.sub_zero, Nat.zero_add]
        refine ⟨?_, ?_⟩
        · exact ⟨rfl, by simp⟩
        refine SG.ret tab_ok Try.func5 rfl ?_
        intro ρ w' v hm hv
        exact top_true hm hv rfl
      · by_cases hM0 : M.length = 0
        · obtain rfl := List.eq_nil_of_length_eq_zero hM0
          refine SG.walk tab_ok mx 400 [false, true] [] ?_
          conv => whnf
          try dsimp only [rowL, rowN, growOk, hiN, fromL, tightN, maxOk]
          try simp (disch := omega) only [wI, wU64, wU32, wU8, Int.toNat_natCast, Int.reduceToNat, Option.getD_some, Option.getD_none, Nat.sub_zero, Nat.zero_add]
          refine ⟨?_, ?_⟩
          · exact ⟨rfl, by simp⟩
          refine SG.ret tab_ok Try.func5 rfl ?_
          intro ρ w' v hm hv
          exact top_true hm hv rfl
        · refine SG.walk tab_ok mx 400 [false, false, true] [] ?_
          conv => whnf
          try dsimp only [rowL, rowN, growOk, hiN, fromL, tightN, maxOk]
          try simp (disch := omega) only [wI, wU64, wU32, wU8, Int.toNat_natCast, Int.reduceToNat, Option.getD_some, Option.getD_none, Nat.sub_zero, Nat.zero_add]
          refine ⟨?_, ?_⟩
          · exact ⟨by simp only [decide_eq_true_eq]; omega, by simp only [beq_eq_false_iff_ne, ne_eq]; omega, by simpa using hjl⟩
          refine SG.ret tab_ok Try.func5 rfl ?_
          intro ρ w' v hm hv
          exact top_v hm hv (by simp; omega)
  · refine SG.walk tab_ok mx 400 [false] [] ?_
    conv => whnf
    try dsimp only [rowL, rowN, growOk, hiN, fromL, tightN, maxOk]
    try simp (disch := omega) only [wI, wU64, wU32, wU8, Int.toNat_natCast, Int.reduceToNat, Option.getD_some, Option.getD_none, Nat.sub_zero, Nat.zero_add]
    refine ⟨?_, ?_⟩
    · simpa using hlt
    refine SG.loop (fun j : Nat => ⟨puts (List.replicate (Try.f5).ntmps .any) [(3, trueV), (4, bpV 0), (6, intV j)], [some [.rs 1, .v (.int .i64 m)]], [some (rowI L), some (rowI M)]⟩) (fun j => j ≤ M.length) (fun j => M.length - j) (0) (Nat.zero_le _) (fun h => SG.sub [0] [0, 1] ⟨?_, ?_, ?_, by decide, rfl, rfl, rfl⟩ h) ?_
    · repeat' (first | exact trivial | exact rfl | refine And.intro ?_ ?_)
    · repeat' (first | exact trivial | exact rfl | refine And.intro ?_ ?_)
    · repeat' (first | exact trivial | refine ⟨⟨_, rfl, ⟨rfl, rfl, .inl rfl, (fun h => by first | exact h | cases h), (fun h => by first | exact h | cases h), fun _ _ => rfl⟩, fun _ _ => rfl⟩, ?_⟩ | refine ⟨⟨_, rfl, ⟨rfl, rfl, .inr rfl, (fun h => by first | exact h | cases h), (fun h => by first | exact h | cases h), fun _ _ => rfl⟩, fun _ _ => rfl⟩, ?_⟩)
    intro j hj next2
    by_cases hjl : j < M.length
    · refine SG.walk tab_ok mx 400 [true] [] ?_
      conv => whnf
      try dsimp only [rowL, rowN, growOk, hiN, fromL, tightN, maxOk]
      try simp (disch := omega) only [wI, wU64, wU32, wU8, Int.toNat_natCast, Int.reduceToNat, Option.getD_some, Option.getD_none, Nat.sub_zero, Nat.zero_add]
      refine ⟨?_, ?_⟩
      · simpa using hjl
      refine SG.loop (fun k : Nat => ⟨puts (List.replicate (Try.f5).ntmps .any) [(3, trueV), (4, bpV 0), (6, intV j), (7, intV k)], [some [.rs 1, .v (.int .i64 m)]], [some (rowI L), some (rowI M)]⟩) (fun k => k ≤ j) (fun k => j - k) (0) (Nat.zero_le _) (fun h => SG.sub [0] [0, 1] ⟨?_, ?_, ?_, by decide, rfl, rfl, rfl⟩ h) ?_
      · repeat' (first | exact trivial | exact rfl | refine And.intro ?_ ?_)
      · repeat' (first | exact trivial | exact rfl | refine And.intro ?_ ?_)
      · repeat' (first | exact trivial | refine ⟨⟨_, rfl, ⟨rfl, rfl, .inl rfl, (fun h => by first | exact h | cases h), (fun h => by first | exact h | cases h), fun _ _ => rfl⟩, fun _ _ => rfl⟩, ?_⟩ | refine ⟨⟨_, rfl, ⟨rfl, rfl, .inr rfl, (fun h => by first | exact h | cases h), (fun h => by first | exact h | cases h), fun _ _ => rfl⟩, fun _ _ => rfl⟩, ?_⟩)
      intro k hk next3
      by_cases hkj : k < j
      · have hne := nodup_getD hM hjl hkj
        refine SG.walk tab_ok mx 400 [true, false] [] ?_
        conv => whnf
        try dsimp only [rowL, rowN, growOk, hiN, fromL, tightN, maxOk]
        try simp (disch := omega) only [wI, wU64, wU32, wU8, Int.toNat_natCast, Int.reduceToNat, Option.getD_some, Option.getD_none, Nat.sub_zero, Nat.zero_add]
        refine ⟨?_, ?_⟩
        · exact ⟨by simpa using hne, by omega, by omega, by omega, by omega, by simpa using hkj⟩
        refine SG.sub [0] [0, 1] ⟨?_, ?_, ?_, by decide, rfl, rfl, rfl⟩ (next3 (k + 1) hkj (by omega))
        · repeat' (first | exact trivial | exact rfl | refine And.intro ?_ ?_)
        · repeat' (first | exact trivial | exact rfl | refine And.intro ?_ ?_)
        · repeat' (first | exact trivial | refine ⟨⟨_, rfl, ⟨rfl, rfl, .inl rfl, (fun h => by first | exact h | cases h), (fun h => by first | exact h | cases h), fun _ _ => rfl⟩, fun _ _ => rfl⟩, ?_⟩ | refine ⟨⟨_, rfl, ⟨rfl, rfl, .inr rfl, (fun h => by first | exact h | cases h), (fun h => by first | exact h | cases h), fun _ _ => rfl⟩, fun _ _ => rfl⟩, ?_⟩)
      · refine SG.walk tab_ok mx 400 [false] [] ?_
        conv => whnf
        try dsimp only [rowL, rowN, growOk, hiN, fromL, tightN, maxOk]
        try simp (disch := omega) only [wI, wU64, wU32, wU8, Int.toNat_natCast, Int.reduceToNat, Option.getD_some, Option.getD_none, Nat.sub_zero, Nat.zero_add]
        refine ⟨?_, ?_⟩
        · simpa using hkj
        refine SG.sub [0] [0, 1] ⟨?_, ?_, ?_, by decide, rfl, rfl, rfl⟩ (next2 (j + 1) hjl (by omega))
        · repeat' (first | exact trivial | exact rfl | refine And.intro ?_ ?_)
        · repeat' (first | exact trivial | exact rfl | refine And.intro ?_ ?_)
        · repeat' (first | exact trivial | refine ⟨⟨_, rfl, ⟨rfl, rfl, .inl rfl, (fun h => by first | exact h | cases h), (fun h => by first | exact h | cases h), fun _ _ => rfl⟩, fun _ _ => rfl⟩, ?_⟩ | refine ⟨⟨_, rfl, ⟨rfl, rfl, .inr rfl, (fun h => by first | exact h | cases h), (fun h => by first | exact h | cases h), fun _ _ => rfl⟩, fun _ _ => rfl⟩, ?_⟩)
    · rcases hleft with e | e
      · subst e
        refine SG.walk tab_ok mx 400 [false, true] [] ?_
        conv => whnf
        try dsimp only [rowL, rowN, growOk, hiN, fromL, tightN, maxOk]
        try simp (disch := omega) only [wI, wU64, wU32, wU8, Int.toNat_natCast, Int.reduceToNat, Option.getD_some, Option.getD_none, Nat.sub_zero, Nat.zero_add]
        refine ⟨?_, ?_⟩
        · exact ⟨rfl, by simp⟩
        refine SG.ret tab_ok Try.func5 rfl ?_
        intro ρ w' v hm hv
        exact top_true hm hv rfl
      · by_cases hM0 : M.length = 0
        · obtain rfl := List.eq_nil_of_length_eq_zero hM0
          refine SG.walk tab_ok mx 400 [false, true] [] ?_
          conv => whnf
          try dsimp only [rowL, rowN, growOk, hiN, fromL, tightN, maxOk]
          try simp (disch := omega) only [wI, wU64, wU32, wU8, Int.toNat_natCast, Int.reduceToNat, Option.getD_some, Option.getD_none, Nat.sub_zero, Nat.zero_add]
          refine ⟨?_, ?_⟩
          · exact ⟨rfl, by simp⟩
          refine SG.ret tab_ok Try.func5 rfl ?_
          intro ρ w' v hm hv
          exact top_true hm hv rfl
        · refine SG.walk tab_ok mx 400 [false, false, true] [] ?_
          conv => whnf
          try dsimp only [rowL, rowN, growOk, hiN, fromL, tightN, maxOk]
          try simp (disch := omega) only [wI, wU64, wU32, wU8, Int.toNat_natCast, Int.reduceToNat, Option.getD_some, Option.getD_none, Nat.sub_zero, Nat.zero_add]
          refine ⟨?_, ?_⟩
          · exact ⟨by simp only [decide_eq_true_eq]; omega, by simp only [beq_eq_false_iff_ne, ne_eq]; omega, by simpa using hjl⟩
          refine SG.ret tab_ok Try.func5 rfl ?_
          intro ρ w' v hm hv
          exact top_v hm hv (by simp; omega)
end Go.Proofs.Ytanckelknhiaaaa
