/- Who spends, who goes round, who has their turn: the walks. -/
import Derived.Test.YtanckelknhiaaaaTurC
namespace Go.Proofs.Ytanckelknhiaaaa
open Go.Sx Go.RowKit
set_option linter.unusedVariables false
set_option linter.unusedSimpArgs false
section
variable {W : Base} {B : List (Option (List At))} {Rs : List (Option Row)}
set_option maxRecDepth 100000 in
theorem spend_min {r : Nat} {R : Row} {L : List Int} (hr : Rs[r]? = some (some R)) (hR : RowLe R (rowI L)) (hl : L.length ≤ 17592186044416) (h0 : 0 < L.length) :
    CallOk Try.prog W B Rs 12 [turnV r (-9223372036854775808)] (mkHd (turnV 0 9223372036854775807) [newI L]) := by
  refine CallOk.enter Try.func12 (by kernel_rfl) rfl [r] [rowI L] [turnV 0 (-9223372036854775808)] rfl (rows1 (.ro_ hr hR rfl rfl (fun _ _ => rfl))) (fun r h => by cases h) rfl rfl ?_
  intro w blk hblk
  refine SG.walk tab_ok mx 400 [false, false] [mkHd (turnV 0 9223372036854775807) [newI L]] ?_
  conv => whnf
  try dsimp only [rowL, rowN, growOk, hiN, fromL, tightN, maxOk]
  try simp (disch := omega) only [wI, wU64, wU32, wU8, Int.toNat_natCast, Int.reduceToNat, Option.getD_some, Option.getD_none, Nat.sub_zero, Nat.zero_add]
  refine ⟨?_, ?_⟩
  · refine ⟨same1 (r := 0) rfl (.of rfl rfl (fun _ _ => rfl)) hl, by decide, ?_⟩
    try simp only [beq_iff_eq, beq_eq_false_iff_ne, bne_iff_ne, bne_eq_false_iff_eq, decide_eq_true_eq, decide_eq_false_iff_not, ne_eq, Bool.not_eq_true', Bool.not_eq_false', Bool.not_eq_eq_eq_not, Bool.not_true, Bool.not_false]
    try omega
  · refine SG.ret tab_ok Try.func12 rfl ?_
    intro ρ w' v hm hv
    exact Post.mk hm (turnV 0 9223372036854775807) [newI L] none [1] hv rfl (rows1 (.of rfl rfl rfl rfl rfl (fun i hi => rfl) (fun _ => rfl))) rfl (by simp)
end
set_option maxRecDepth 100000 in
theorem spends_walk (w : World) (c : Value) (L : List Int) (l : Int) (hrow : ∀ W ρ, RowOk W ρ w c (rowI L)) (hl : L.length ≤ 17592186044416) (hl1 : -9223372036854775808 ≤ l) (hl2 : l ≤ 9223372036854775807) :
    Calls Try.prog 8 #[.agg #[c, .int .i64 l]] w fun e w' => e = .returned (.bool true) ∧ Below w.heap.size w w' := by
  obtain ⟨A, cap, rfl, _⟩ := (hrow ⟨w, none⟩ ⟨fun _ => none, fun _ => none⟩).form
  refine calls_top Try.func8 rfl [.slice A L.length cap] [rowI L] [turnV 0 l] (.cons hrow rfl .nil) ⟨rfl, trivial⟩ ?_
  clear hrow
  match L, hl with
  | [], hl =>
    refine SG.walk tab_ok mx 400 [true] [mkHd (.cv (.one (.lb true))) [], mkHd (turnV 0 l) [newI []], mkHd (.cv (.one (.lb true))) []] ?_
    conv => whnf
    try dsimp only [rowL, rowN, growOk, hiN, fromL, tightN, maxOk]
    try simp (disch := omega) only [wI, wU64, wU32, wU8, Int.toNat_natCast, Int.reduceToNat, Option.getD_some, Option.getD_none, Nat.sub_zero, Nat.zero_add]
    refine ⟨?_, ?_⟩
    · exact ⟨sameT (r := 1) (q := 0) (L := []) (M := []) rfl (.of rfl rfl (fun _ _ => rfl)) rfl (.of rfl rfl (fun _ _ => rfl)) (by simp) (by simp), rfl, spend_nil rfl (.of rfl rfl (fun _ _ => rfl)), shown1⟩
    refine SG.ret tab_ok Try.func8 rfl ?_
    intro ρ w' v hm hv
    exact top_true hm hv rfl
  | x :: M, hl =>
    by_cases h1 : 1 < l
    · refine SG.walk tab_ok mx 400 [false, true] [mkHd (.cv (.one (.lb true))) [], mkHd (turnV 0 (l - 1)) [newI (x :: M)], mkHd (.cv (.one (.lb true))) []] ?_
      conv => whnf
      try dsimp only [rowL, rowN, growOk, hiN, fromL, tightN, maxOk]
      try simp (disch := omega) only [wI, wU64, wU32, wU8, Int.toNat_natCast, Int.reduceToNat, Option.getD_some, Option.getD_none, Nat.sub_zero, Nat.zero_add]
      refine ⟨?_, ?_⟩
      · exact ⟨sameT (r := 1) (q := 0) (L := x :: M) (M := x :: M) rfl (.of rfl rfl (fun _ _ => rfl)) rfl (.of rfl rfl (fun _ _ => rfl)) hl (by simp), by simpa using h1, by simp; omega, spend_more rfl (.of rfl rfl (fun _ _ => rfl)) hl (by simp) h1 hl2, shown1⟩
      refine SG.ret tab_ok Try.func8 rfl ?_
      intro ρ w' v hm hv
      exact top_true hm hv rfl
    by_cases h2 : l < -4611686018427387904
    · by_cases h3 : l = -9223372036854775808
      · subst h3
        refine SG.walk tab_ok mx 400 [false, false, true] [mkHd (.cv (.one (.lb true))) [], mkHd (turnV 0 9223372036854775807) [newI (x :: M)]] ?_
        conv => whnf
        try dsimp only [rowL, rowN, growOk, hiN, fromL, tightN, maxOk]
        try simp (disch := omega) only [wI, wU64, wU32, wU8, Int.toNat_natCast, Int.reduceToNat, Option.getD_some, Option.getD_none, Nat.sub_zero, Nat.zero_add]
        refine ⟨?_, ?_⟩
        · exact ⟨by decide, by decide, by simp; omega, spend_min rfl (.of rfl rfl (fun _ _ => rfl)) hl (by simp), shown1⟩
        refine SG.ret tab_ok Try.func8 rfl ?_
        intro ρ w' v hm hv
        exact top_true hm hv rfl
      · refine SG.walk tab_ok mx 400 [false, false, true] [mkHd (.cv (.one (.lb true))) [], mkHd (turnV 0 5) [newI (M ++ [x])]] ?_
        conv => whnf
        try dsimp only [rowL, rowN, growOk, hiN, fromL, tightN, maxOk]
        try simp (disch := omega) only [wI, wU64, wU32, wU8, Int.toNat_natCast, Int.reduceToNat, Option.getD_some, Option.getD_none, Nat.sub_zero, Nat.zero_add]
        refine ⟨?_, ?_⟩
        · exact ⟨by simpa using h2, by simpa using h1, by simp; omega, spend_last rfl (.of rfl rfl (fun _ _ => rfl)) hl (by omega) (by omega), shown1⟩
        refine SG.ret tab_ok Try.func8 rfl ?_
        intro ρ w' v hm hv
        exact top_true hm hv rfl
    · refine SG.walk tab_ok mx 400 [false, false, false] [mkHd (.cv (.one (.lb true))) [], mkHd (turnV 0 5) [newI (M ++ [x])], mkHd (turnV 0 5) [newI (M ++ [x])], mkHd (.cv (.one (.lb true))) []] ?_
      conv => whnf
      try dsimp only [rowL, rowN, growOk, hiN, fromL, tightN, maxOk]
      try simp (disch := omega) only [wI, wU64, wU32, wU8, Int.toNat_natCast, Int.reduceToNat, Option.getD_some, Option.getD_none, Nat.sub_zero, Nat.zero_add]
      refine ⟨?_, ?_⟩
      · exact ⟨sameT (r := 1) (q := 2) (L := M ++ [x]) (M := M ++ [x]) rfl (.of rfl rfl (fun _ _ => rfl)) rfl (.of rfl rfl (fun _ _ => rfl)) (by simpa using hl) (by simp), yield_cons rfl (.of rfl rfl (fun _ _ => rfl)) hl, by simpa using h2, by simpa using h1, by simp; omega, spend_last rfl (.of rfl rfl (fun _ _ => rfl)) hl (by omega) (by omega), shown1⟩
      refine SG.ret tab_ok Try.func8 rfl ?_
      intro ρ w' v hm hv
      exact top_true hm hv rfl
theorem rot_len {L : List Int} {r : Nat} (h : r ≤ L.length) : (L.drop r ++ L.take r).length = L.length := by simp; omega
theorem rot_cons {L : List Int} {r : Nat} (h : r < L.length) : ∃ M, L.drop r ++ L.take r = L.getD r 0 :: M ∧ M ++ [L.getD r 0] = L.drop (r + 1) ++ L.take (r + 1) := by
  refine ⟨L.drop (r + 1) ++ L.take r, ?_, ?_⟩
  · have e : L.getD r 0 = L[r] := by simp [List.getD_eq_getElem?_getD, h]
    rw [e, List.drop_eq_getElem_cons h, List.cons_append]
  · rw [List.take_succ_eq_append_getElem h]
    simp [List.getD_eq_getElem?_getD, h]
set_option maxRecDepth 100000 in
theorem round_walk (w : World) (c : Value) (L : List Int) (l : Int) (hrow : ∀ W ρ, RowOk W ρ w c (rowI L)) (hl : L.length ≤ 17592186044416) :
    Calls Try.prog 7 #[.agg #[c, .int .i64 l]] w fun e w' => e = .returned (.bool true) ∧ Below w.heap.size w w' := by
  obtain ⟨A, cap, rfl, _⟩ := (hrow ⟨w, none⟩ ⟨fun _ => none, fun _ => none⟩).form
  refine calls_top Try.func7 rfl [.slice A L.length cap] [rowI L] [turnV 0 l] (.cons hrow rfl .nil) ⟨rfl, trivial⟩ ?_
  clear hrow
  by_cases h100 : 100 < L.length
  · refine SG.walk tab_ok mx 400 [true] [mkHd (.cv (.one (.lb true))) []] ?_
    conv => whnf
    try dsimp only [rowL, rowN, growOk, hiN, fromL, tightN, maxOk]
    try simp (disch := omega) only [wI, wU64, wU32, wU8, Int.toNat_natCast, Int.reduceToNat, Option.getD_some, Option.getD_none, Nat.sub_zero, Nat.zero_add]
    refine ⟨?_, ?_⟩
    · refine ⟨?_, shown1⟩
      try simp only [beq_iff_eq, beq_eq_false_iff_ne, bne_iff_ne, bne_eq_false_iff_eq, decide_eq_true_eq, decide_eq_false_iff_not, ne_eq, Bool.not_eq_true', Bool.not_eq_false', Bool.not_eq_eq_eq_not, Bool.not_true, Bool.not_false]
      try omega
    refine SG.ret tab_ok Try.func7 rfl ?_
    intro ρ w' v hm hv
    exact top_true hm hv rfl
  · refine SG.walk tab_ok mx 400 [false] [mkHd (.cv (.one (.lb true))) []] ?_
    conv => whnf
    try dsimp only [rowL, rowN, growOk, hiN, fromL, tightN, maxOk]
    try simp (disch := omega) only [wI, wU64, wU32, wU8, Int.toNat_natCast, Int.reduceToNat, Option.getD_some, Option.getD_none, Nat.sub_zero, Nat.zero_add]
    refine ⟨?_, ?_⟩
    · refine ⟨?_, shown1⟩
      try simp only [beq_iff_eq, beq_eq_false_iff_ne, bne_iff_ne, bne_eq_false_iff_eq, decide_eq_true_eq, decide_eq_false_iff_not, ne_eq, Bool.not_eq_true', Bool.not_eq_false', Bool.not_eq_eq_eq_not, Bool.not_true, Bool.not_false]
      try omega
    refine SG.loop (fun x : Nat × List Int × Int => ⟨puts (List.replicate (Try.f7).ntmps .any) [(1, bpV 0), (3, trueV), (4, bpV 1), (5, intV x.1)], [some [.rs 0, .v (.int .i64 l)], some [.rs 1, .v (.int .i64 x.2.2)]], [some (rowI L), some (rowI x.2.1)]⟩) (fun x => x.1 ≤ L.length ∧ x.2.1 = L.drop x.1 ++ L.take x.1 ∧ x.2.2 = (if x.1 = 0 then l else 5)) (fun x => L.length - x.1) ((0, L, l)) (⟨Nat.zero_le _, by simp, rfl⟩) (fun h => SG.sub [0, 1] [0, 0] ⟨?_, ?_, ?_, by decide, rfl, rfl, rfl⟩ h) ?_
    · repeat' (first | exact trivial | exact rfl | refine And.intro ?_ ?_)
    · repeat' (first | exact trivial | exact rfl | refine And.intro ?_ ?_)
    · repeat' (first | exact trivial | refine ⟨⟨_, rfl, ⟨rfl, rfl, .inl rfl, (fun h => by first | exact h | cases h), (fun h => by first | exact h | cases h), fun _ _ => rfl⟩, fun _ _ => rfl⟩, ?_⟩ | refine ⟨⟨_, rfl, ⟨rfl, rfl, .inr rfl, (fun h => by first | exact h | cases h), (fun h => by first | exact h | cases h), fun _ _ => rfl⟩, fun _ _ => rfl⟩, ?_⟩)
    rintro ⟨k, M, m⟩ ⟨hk, hM, hm⟩ next
    dsimp only at hk hM hm next ⊢
    by_cases hlt : k < L.length
    · obtain ⟨N, h1, h2⟩ := rot_cons hlt
      rw [h1] at hM
      have hlN := congrArg List.length h1
      rw [rot_len hk] at hlN
      simp only [List.length_cons] at hlN
      refine SG.walk tab_ok mx 400 [true] [mkHd (turnV 0 5) [newI (N ++ [L.getD k 0])]] ?_
      conv => whnf
      try dsimp only [rowL, rowN, growOk, hiN, fromL, tightN, maxOk]
      try simp (disch := omega) only [wI, wU64, wU32, wU8, Int.toNat_natCast, Int.reduceToNat, Option.getD_some, Option.getD_none, Nat.sub_zero, Nat.zero_add]
      refine ⟨?_, ?_⟩
      · refine ⟨?_, by simpa using hlt⟩
        subst hM
        exact yield_cons (r := 1) rfl (.of rfl rfl (fun _ _ => rfl)) (by simp; omega)
      refine SG.sub [0, 1] [0, 2] ⟨?_, ?_, ?_, by decide, rfl, rfl, rfl⟩ (next (k + 1, N ++ [L.getD k 0], 5) ⟨hlt, h2, by simp⟩ (by simp; omega))
      · repeat' (first | exact trivial | exact rfl | refine And.intro ?_ ?_)
      · repeat' (first | exact trivial | exact rfl | refine And.intro ?_ ?_)
      · repeat' (first | exact trivial | refine ⟨⟨_, rfl, ⟨rfl, rfl, .inl rfl, (fun h => by first | exact h | cases h), (fun h => by first | exact h | cases h), fun _ _ => rfl⟩, fun _ _ => rfl⟩, ?_⟩ | refine ⟨⟨_, rfl, ⟨rfl, rfl, .inr rfl, (fun h => by first | exact h | cases h), (fun h => by first | exact h | cases h), fun _ _ => rfl⟩, fun _ _ => rfl⟩, ?_⟩)
    · have hkL : k = L.length := by omega
      have hML : M = L := by rw [hM, hkL]; simp
      subst hML
      by_cases h0 : M.length = 0
      · rw [if_pos (by omega)] at hm
        subst hm
        refine SG.walk tab_ok mx 400 [false, false] [mkHd (.cv (.one (.lb true))) []] ?_
        conv => whnf
        try dsimp only [rowL, rowN, growOk, hiN, fromL, tightN, maxOk]
        try simp (disch := omega) only [wI, wU64, wU32, wU8, Int.toNat_natCast, Int.reduceToNat, Option.getD_some, Option.getD_none, Nat.sub_zero, Nat.zero_add]
        refine ⟨?_, ?_⟩
        · refine ⟨sameT (r := 1) (q := 0) (L := M) (M := M) rfl (.of rfl rfl (fun _ _ => rfl)) rfl (.of rfl rfl (fun _ _ => rfl)) hl (by simp), by simp only [decide_eq_true_eq, decide_eq_false_iff_not]; omega, by simp only [decide_eq_true_eq, decide_eq_false_iff_not]; omega⟩
        refine SG.ret tab_ok Try.func7 rfl ?_
        intro ρ w' v hm hv
        exact top_true hm hv rfl
      · rw [if_neg (by omega)] at hm
        subst hm
        refine SG.walk tab_ok mx 400 [false, true] [mkHd (.cv (.one (.lb true))) []] ?_
        conv => whnf
        try dsimp only [rowL, rowN, growOk, hiN, fromL, tightN, maxOk]
        try simp (disch := omega) only [wI, wU64, wU32, wU8, Int.toNat_natCast, Int.reduceToNat, Option.getD_some, Option.getD_none, Nat.sub_zero, Nat.zero_add]
        refine ⟨?_, ?_⟩
        · refine ⟨sameT (r := 1) (q := 0) (L := M) (M := M) rfl (.of rfl rfl (fun _ _ => rfl)) rfl (.of rfl rfl (fun _ _ => rfl)) hl (by simp), by simp only [decide_eq_true_eq, decide_eq_false_iff_not]; omega, by simp only [decide_eq_true_eq, decide_eq_false_iff_not]; omega⟩
        refine SG.ret tab_ok Try.func7 rfl ?_
        intro ρ w' v hm hv
        exact top_true hm hv rfl
set_option maxRecDepth 100000 in
theorem fair_walk (w : World) (c : Value) (L : List Int) (l i : Int) (hrow : ∀ W ρ, RowOk W ρ w c (rowI L)) (hl : L.length ≤ 17592186044416) (hi1 : -9223372036854775808 ≤ i) (hi2 : i ≤ 9223372036854775807) :
    Calls Try.prog 4 #[.agg #[c, .int .i64 l], .int .i64 i] w fun e w' => e = .returned (.bool true) ∧ Below w.heap.size w w' := by
  obtain ⟨A, cap, rfl, _⟩ := (hrow ⟨w, none⟩ ⟨fun _ => none, fun _ => none⟩).form
  refine calls_top Try.func4 rfl [.slice A L.length cap] [rowI L] [turnV 0 l, intV i] (.cons hrow rfl .nil) ⟨rfl, rfl, trivial⟩ ?_
  clear hrow
  by_cases c1 : i < 0
  · refine SG.walk tab_ok mx 400 [true] [mkHd (.cv (.one (.lb true))) []] ?_
    conv => whnf
    try dsimp only [rowL, rowN, growOk, hiN, fromL, tightN, maxOk]
    try simp (disch := omega) only [wI, wU64, wU32, wU8, Int.toNat_natCast, Int.reduceToNat, Option.getD_some, Option.getD_none, Nat.sub_zero, Nat.zero_add]
    refine ⟨?_, ?_⟩
    · exact ⟨by simpa using c1, shown1⟩
    refine SG.ret tab_ok Try.func4 rfl ?_
    intro ρ w' v hm hv
    exact top_true hm hv rfl
  obtain ⟨j, rfl⟩ := Int.eq_ofNat_of_zero_le (by omega : 0 ≤ i)
  by_cases c2 : L.length ≤ j
  · refine SG.walk tab_ok mx 400 [false, true] [mkHd (.cv (.one (.lb true))) []] ?_
    conv => whnf
    try dsimp only [rowL, rowN, growOk, hiN, fromL, tightN, maxOk]
    try simp (disch := omega) only [wI, wU64, wU32, wU8, Int.toNat_natCast, Int.reduceToNat, Option.getD_some, Option.getD_none, Nat.sub_zero, Nat.zero_add]
    refine ⟨?_, ?_⟩
    · exact ⟨by simpa using c2, by simp, shown1⟩
    refine SG.ret tab_ok Try.func4 rfl ?_
    intro ρ w' v hm hv
    exact top_true hm hv rfl
  by_cases c3 : 50 < L.length
  · refine SG.walk tab_ok mx 400 [false, false, true] [mkHd (.cv (.one (.lb true))) []] ?_
    conv => whnf
    try dsimp only [rowL, rowN, growOk, hiN, fromL, tightN, maxOk]
    try simp (disch := omega) only [wI, wU64, wU32, wU8, Int.toNat_natCast, Int.reduceToNat, Option.getD_some, Option.getD_none, Nat.sub_zero, Nat.zero_add]
    refine ⟨?_, ?_⟩
    · exact ⟨by simp; omega, by simp; omega, by simp, shown1⟩
    refine SG.ret tab_ok Try.func4 rfl ?_
    intro ρ w' v hm hv
    exact top_true hm hv rfl
  by_cases c4 : l < 1
  · refine SG.walk tab_ok mx 400 [false, false, false, true] [mkHd (.cv (.one (.lb true))) []] ?_
    conv => whnf
    try dsimp only [rowL, rowN, growOk, hiN, fromL, tightN, maxOk]
    try simp (disch := omega) only [wI, wU64, wU32, wU8, Int.toNat_natCast, Int.reduceToNat, Option.getD_some, Option.getD_none, Nat.sub_zero, Nat.zero_add]
    refine ⟨?_, ?_⟩
    · exact ⟨by simp; omega, by simp; omega, by simp; omega, by simp, shown1⟩
    refine SG.ret tab_ok Try.func4 rfl ?_
    intro ρ w' v hm hv
    exact top_true hm hv rfl
  by_cases c5 : 5 < l
  · refine SG.walk tab_ok mx 400 [false, false, false, false, true] [mkHd (.cv (.one (.lb true))) []] ?_
    conv => whnf
    try dsimp only [rowL, rowN, growOk, hiN, fromL, tightN, maxOk]
    try simp (disch := omega) only [wI, wU64, wU32, wU8, Int.toNat_natCast, Int.reduceToNat, Option.getD_some, Option.getD_none, Nat.sub_zero, Nat.zero_add]
    refine ⟨?_, ?_⟩
    · exact ⟨by simp; omega, by simp; omega, by simp; omega, by simp; omega, by simp, shown1⟩
    refine SG.ret tab_ok Try.func4 rfl ?_
    intro ρ w' v hm hv
    exact top_true hm hv rfl
  refine SG.walk tab_ok mx 400 [false, false, false, false, false] [mkHd (.cv (.one (.lb true))) []] ?_
  conv => whnf
  try dsimp only [rowL, rowN, growOk, hiN, fromL, tightN, maxOk]
  try simp (disch := omega) only [wI, wU64, wU32, wU8, Int.toNat_natCast, Int.reduceToNat, Option.getD_some, Option.getD_none, Nat.sub_zero, Nat.zero_add]
  refine ⟨?_, ?_⟩
  · exact ⟨by simp; omega, by simp; omega, by simp; omega, by simp; omega, by simp, shown1⟩
  refine SG.loop (fun x : Nat × List Int × Nat × Int => ⟨puts (List.replicate (Try.f4).ntmps .any) [(1, intV j), (2, bpV 0), (5, trueV), (6, bpV 1), (7, intV x.1)], [some [.rs 0, .v (.int .i64 l)], some [.rs 1, .v (.int .i64 x.2.2.2)]], [some (rowI L), some (rowI x.2.1)]⟩) (fun x => x.1 ≤ 5 * j ∧ x.2.1 = L.drop x.2.2.1 ++ L.take x.2.2.1 ∧ 5 * (x.2.2.1 : Int) - x.2.2.2 = x.1 - l ∧ 1 ≤ x.2.2.2 ∧ x.2.2.2 ≤ 5) (fun x => 5 * j - x.1) ((0, L, 0, l)) (⟨Nat.zero_le _, by simp, by simp, by simp; omega, by simp; omega⟩) (fun h => SG.sub [0, 1] [0, 0] ⟨?_, ?_, ?_, by decide, rfl, rfl, rfl⟩ h) ?_
  · repeat' (first | exact trivial | exact rfl | refine And.intro ?_ ?_)
  · repeat' (first | exact trivial | exact rfl | refine And.intro ?_ ?_)
  · repeat' (first | exact trivial | refine ⟨⟨_, rfl, ⟨rfl, rfl, .inl rfl, (fun h => by first | exact h | cases h), (fun h => by first | exact h | cases h), fun _ _ => rfl⟩, fun _ _ => rfl⟩, ?_⟩ | refine ⟨⟨_, rfl, ⟨rfl, rfl, .inr rfl, (fun h => by first | exact h | cases h), (fun h => by first | exact h | cases h), fun _ _ => rfl⟩, fun _ _ => rfl⟩, ?_⟩)
  rintro ⟨n, M, r, m⟩ ⟨hn, hM, hr, hm1, hm5⟩ next
  dsimp only at hn hM hr hm1 hm5 next ⊢
  have hrl : r < L.length := by omega
  obtain ⟨N, h1, h2⟩ := rot_cons hrl
  have hlN := congrArg List.length h1
  rw [rot_len (by omega)] at hlN
  simp only [List.length_cons] at hlN
  have hMl : M.length = L.length := by rw [hM]; exact rot_len (by omega)
  have hMN := hM
  rw [h1] at hMN
  have hM0 : M.getD 0 0 = L.getD r 0 := by rw [hMN]; rfl
  have hspend : ∀ {W B Rs} {r' : Nat} {R : Row} {m : Int} (hr : Rs[r']? = some (some R)) (hR : RowLe R (rowI M)) (h1 : m ≤ 1) (h2 : -9223372036854775807 ≤ m), CallOk Try.prog W B Rs 12 [turnV r' m] (mkHd (turnV 0 5) [newI (N ++ [L.getD r 0])]) := fun hr hR h1 h2 => spend_last hr (by rw [← hMN]; exact hR) (by simp; omega) h1 h2
  by_cases hlt : n < 5 * j
  · by_cases hm : 1 < m
    · by_cases he : M.getD 0 0 = L.getD j 0
      · refine SG.walk tab_ok mx 400 [true, true] [mkHd (turnV 0 (m - 1)) [newI M], mkHd (.tup [.one (.v (.int .i64 (M.getD 0 0))), .one (.lb true)]) []] ?_
        conv => whnf
        try dsimp only [rowL, rowN, growOk, hiN, fromL, tightN, maxOk]
        try simp (disch := omega) only [wI, wU64, wU32, wU8, Int.toNat_natCast, Int.reduceToNat, Option.getD_some, Option.getD_none, Nat.sub_zero, Nat.zero_add]
        refine ⟨?_, ?_⟩
        · exact ⟨by simpa using he, by omega, by omega, first_some (r := 2) (L := M) rfl (.of rfl rfl (fun _ _ => rfl)) (by omega), spend_more (r := 1) rfl (.of rfl rfl (fun _ _ => rfl)) (by omega) (by omega) hm (by omega), by simp; omega⟩
        refine SG.ret tab_ok Try.func4 rfl ?_
        intro ρ w' v hm hv
        exact top_true hm hv rfl
      · refine SG.walk tab_ok mx 400 [true, false] [mkHd (turnV 0 (m - 1)) [newI M], mkHd (.tup [.one (.v (.int .i64 (M.getD 0 0))), .one (.lb true)]) []] ?_
        conv => whnf
        try dsimp only [rowL, rowN, growOk, hiN, fromL, tightN, maxOk]
        try simp (disch := omega) only [wI, wU64, wU32, wU8, Int.toNat_natCast, Int.reduceToNat, Option.getD_some, Option.getD_none, Nat.sub_zero, Nat.zero_add]
        refine ⟨?_, ?_⟩
        · exact ⟨by simpa using he, by omega, by omega, first_some (r := 2) (L := M) rfl (.of rfl rfl (fun _ _ => rfl)) (by omega), spend_more (r := 1) rfl (.of rfl rfl (fun _ _ => rfl)) (by omega) (by omega) hm (by omega), by simp; omega⟩
        refine SG.sub [0, 1] [0, 2] ⟨?_, ?_, ?_, by decide, rfl, rfl, rfl⟩ (next (n + 1, M, r, m - 1) ⟨hlt, hM, by dsimp only; omega, by dsimp only; omega, by dsimp only; omega⟩ (by simp; omega))
        · repeat' (first | exact trivial | exact rfl | refine And.intro ?_ ?_)
        · repeat' (first | exact trivial | exact rfl | refine And.intro ?_ ?_)
        · repeat' (first | exact trivial | refine ⟨⟨_, rfl, ⟨rfl, rfl, .inl rfl, (fun h => by first | exact h | cases h), (fun h => by first | exact h | cases h), fun _ _ => rfl⟩, fun _ _ => rfl⟩, ?_⟩ | refine ⟨⟨_, rfl, ⟨rfl, rfl, .inr rfl, (fun h => by first | exact h | cases h), (fun h => by first | exact h | cases h), fun _ _ => rfl⟩, fun _ _ => rfl⟩, ?_⟩)
    · have hN0 : (N ++ [L.getD r 0]).length = L.length := by simp; omega
      by_cases he : (N ++ [L.getD r 0]).getD 0 0 = L.getD j 0
      · refine SG.walk tab_ok mx 400 [true, true] [mkHd (turnV 0 5) [newI (N ++ [L.getD r 0])], mkHd (.tup [.one (.v (.int .i64 ((N ++ [L.getD r 0]).getD 0 0))), .one (.lb true)]) []] ?_
        conv => whnf
        try dsimp only [rowL, rowN, growOk, hiN, fromL, tightN, maxOk]
        try simp (disch := omega) only [wI, wU64, wU32, wU8, Int.toNat_natCast, Int.reduceToNat, Option.getD_some, Option.getD_none, Nat.sub_zero, Nat.zero_add]
        refine ⟨?_, ?_⟩
        · exact ⟨by simpa using he, by omega, by omega, first_some (r := 2) (L := N ++ [L.getD r 0]) rfl (.of rfl rfl (fun _ _ => rfl)) (by omega), hspend (r' := 1) rfl (.of rfl rfl (fun _ _ => rfl)) (by omega) (by omega), by simp; omega⟩
        refine SG.ret tab_ok Try.func4 rfl ?_
        intro ρ w' v hm hv
        exact top_true hm hv rfl
      · refine SG.walk tab_ok mx 400 [true, false] [mkHd (turnV 0 5) [newI (N ++ [L.getD r 0])], mkHd (.tup [.one (.v (.int .i64 ((N ++ [L.getD r 0]).getD 0 0))), .one (.lb true)]) []] ?_
        conv => whnf
        try dsimp only [rowL, rowN, growOk, hiN, fromL, tightN, maxOk]
        try simp (disch := omega) only [wI, wU64, wU32, wU8, Int.toNat_natCast, Int.reduceToNat, Option.getD_some, Option.getD_none, Nat.sub_zero, Nat.zero_add]
        refine ⟨?_, ?_⟩
        · exact ⟨by simpa using he, by omega, by omega, first_some (r := 2) (L := N ++ [L.getD r 0]) rfl (.of rfl rfl (fun _ _ => rfl)) (by omega), hspend (r' := 1) rfl (.of rfl rfl (fun _ _ => rfl)) (by omega) (by omega), by simp; omega⟩
        refine SG.sub [0, 1] [0, 2] ⟨?_, ?_, ?_, by decide, rfl, rfl, rfl⟩ (next (n + 1, N ++ [L.getD r 0], r + 1, 5) ⟨hlt, h2, by dsimp only; omega, by dsimp only; omega, by dsimp only; omega⟩ (by simp; omega))
        · repeat' (first | exact trivial | exact rfl | refine And.intro ?_ ?_)
        · repeat' (first | exact trivial | exact rfl | refine And.intro ?_ ?_)
        · repeat' (first | exact trivial | refine ⟨⟨_, rfl, ⟨rfl, rfl, .inl rfl, (fun h => by first | exact h | cases h), (fun h => by first | exact h | cases h), fun _ _ => rfl⟩, fun _ _ => rfl⟩, ?_⟩ | refine ⟨⟨_, rfl, ⟨rfl, rfl, .inr rfl, (fun h => by first | exact h | cases h), (fun h => by first | exact h | cases h), fun _ _ => rfl⟩, fun _ _ => rfl⟩, ?_⟩)
  · have hrj : r = j := by omega
    refine SG.walk tab_ok mx 400 [false] [mkHd (.tup [.one (.v (.int .i64 (M.getD 0 0))), .one (.lb true)]) []] ?_
    conv => whnf
    try dsimp only [rowL, rowN, growOk, hiN, fromL, tightN, maxOk]
    try simp (disch := omega) only [wI, wU64, wU32, wU8, Int.toNat_natCast, Int.reduceToNat, Option.getD_some, Option.getD_none, Nat.sub_zero, Nat.zero_add]
    refine ⟨?_, ?_⟩
    · exact ⟨by omega, by omega, first_some (r := 1) (L := M) rfl (.of rfl rfl (fun _ _ => rfl)) (by omega), by simp; omega⟩
    refine SG.ret tab_ok Try.func4 rfl ?_
    intro ρ w' v hm hv
    exact top_v hm hv (by rw [hM0, hrj]; simp)
end Go.Proofs.Ytanckelknhiaaaa
