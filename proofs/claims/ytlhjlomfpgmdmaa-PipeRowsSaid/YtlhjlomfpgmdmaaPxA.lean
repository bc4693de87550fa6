/- Rows of pipes: contracts. -/
import Derived.Test.YtlhjlomfpgmdmaaSxY
import Derived.Test.YtlhjlomfpgmdmaaSxT
namespace Go.Proofs.Ytlhjlomfpgmdmaa
open Go.Sx Go.RowKit
set_option linter.unusedVariables false
set_option linter.unusedSimpArgs false
theorem mx : Try.prog.follows .mixedOrders = true := Try.checked.mixed
abbrev PP := ByteArray × Int × Int
abbrev ppC (x : PP) : List At := [.v (.string x.1), .v (.int .i64 x.2.1), .v (.int .i64 x.2.2)]
abbrev pp0 : PP := (⟨#[]⟩, 0, 0)
abbrev rowP (L : List PP) : Row := rowL 3 ppC pp0 L
abbrev newP (L : List PP) : Row := rowN 3 ppC pp0 L 23
abbrev rsV (r : Nat) : SV := .cv (.one (.rs r))
abbrev bpV (i : Nat) : SV := .cv (.one (.pt (.bp i 0)))
abbrev trueV : SV := .cv (.one (.lb true))
abbrev intV (x : Int) : SV := .cv (.one (.v (.int .i64 x)))
abbrev ppV (x : PP) : SV := .cv (.agg (ppC x))
def InB (x : PP) : Prop := (-9223372036854775808 ≤ x.2.1 ∧ x.2.1 ≤ 9223372036854775807) ∧ -9223372036854775808 ≤ x.2.2 ∧ x.2.2 ≤ 9223372036854775807
theorem toList_inj' {s t : ByteArray} (h : s.toList = t.toList) : s = t := by
  rw [ByteArray.toList_eq, ByteArray.toList_eq] at h
  exact ByteArray.ext (Array.toList_inj.1 h)
theorem pp_eq (x y : PP) : (x.1.toList == y.1.toList && (x.2.1 == y.2.1 && x.2.2 == y.2.2)) = decide (x = y) := by
  rw [Bool.eq_iff_iff]
  simp only [Bool.and_eq_true, beq_iff_eq, decide_eq_true_eq]
  constructor
  · rintro ⟨h1, h2, h3⟩
    exact Prod.ext (toList_inj' h1) (Prod.ext h2 h3)
  · rintro rfl; exact ⟨rfl, rfl, rfl⟩
theorem plist_eq {L M : List PP} (h : L.length = M.length) (hg : ∀ j, j < L.length → L.getD j pp0 = M.getD j pp0) : L = M := by
  apply List.ext_getElem h
  intro j h1 h2
  have := hg j h1
  simpa [List.getD_eq_getElem?_getD, h1, h2] using this
section
variable {W : Base} {B : List (Option (List At))} {Rs : List (Option Row)}
set_option maxRecDepth 100000 in
theorem cloneP {r : Nat} {R : Row} {L : List PP} (hr : Rs[r]? = some (some R)) (hR : RowLe R (rowP L)) (hl : L.length ≤ 4398046511104) :
    CallOk Try.prog W B Rs 24 [rsV r] (mkHd (rsV 0) [newP L]) := by
  refine CallOk.enter Try.func24 (by kernel_rfl) rfl [r] [rowP L] [rsV 0] rfl (rows1 (.ro_ hr hR rfl rfl (fun _ _ => rfl))) (fun r h => by cases h) rfl rfl ?_
  intro w blk hblk
  refine SG.walk tab_ok mx 400 [] [] ?_
  conv => whnf
  try dsimp only [rowL, rowN, growOk, hiN, fromL, tightN, maxOk]
  try simp (disch := omega) only [wI, wU64, wU32, wU8, Int.toNat_natCast, toNat_succ, toNat_pred, Int.reduceToNat, Option.getD_some, Option.getD_none, Nat.sub_zero, Nat.zero_add]
  refine ⟨?_, ?_⟩
  · trivial
  refine SG.askNil tab_ok (neg := false) (x := 3) (r := 0) rfl rfl rfl rfl rfl rfl rfl (fun h0 => ?_) ?_
  · have hL : L = [] := List.eq_nil_of_length_eq_zero h0
    subst hL
    refine SG.walk tab_ok mx 400 [] [] ?_
    conv => whnf
    try dsimp only [rowL, rowN, growOk, hiN, fromL, tightN, maxOk]
    try simp (disch := omega) only [wI, wU64, wU32, wU8, Int.toNat_natCast, toNat_succ, toNat_pred, Int.reduceToNat, Option.getD_some, Option.getD_none, Nat.sub_zero, Nat.zero_add]
    refine ⟨?_, ?_⟩
    · trivial
    refine SG.nilRow 2 23 3 rfl ?_
    refine SG.ret tab_ok Try.func24 rfl ?_
    intro ρ w' v hm hv
    exact Post.mk hm (rsV 0) [newP []] none [1] hv rfl (rows1 (.of rfl rfl rfl rfl rfl (fun i hi => by cases hi) (fun _ => rfl))) rfl (by simp)
  · refine SG.walk tab_ok mx 400 [] [] ?_
    conv => whnf
    try dsimp only [rowL, rowN, growOk, hiN, fromL, tightN, maxOk]
    try simp (disch := omega) only [wI, wU64, wU32, wU8, Int.toNat_natCast, toNat_succ, toNat_pred, Int.reduceToNat, Option.getD_some, Option.getD_none, Nat.sub_zero, Nat.zero_add]
    refine ⟨?_, ?_⟩
    · exact ⟨by omega, by omega, by omega⟩
    refine SG.ret tab_ok Try.func24 rfl ?_
    intro ρ w' v hm hv
    exact Post.mk hm (rsV 0) [newP L] none [2] hv rfl (rows1 (.of rfl rfl rfl (by simp) rfl (fun i hi => rfl) (fun _ => rfl))) rfl (by simp)
set_option maxRecDepth 100000 in
theorem sameP {r q : Nat} {R Rq : Row} {L M : List PP} (hr : Rs[r]? = some (some R)) (hR : RowLe R (rowP L)) (hq : Rs[q]? = some (some Rq)) (hRq : RowLe Rq (rowP M)) (hl : L.length ≤ 4398046511104) {b : Bool} (hb : decide (L = M) = b) :
    CallOk Try.prog W B Rs 21 [rsV r, rsV q] (mkHd (.cv (.one (.lb b))) []) := by
  refine CallOk.enter Try.func21 (by kernel_rfl) rfl [r, q] [rowP L, rowP M] [rsV 0, rsV 1] rfl (rows2 (.ro_ hr hR rfl rfl (fun _ _ => rfl)) (.ro_ hq hRq rfl rfl (fun _ _ => rfl))) (fun r h => by cases h) rfl rfl ?_
  intro w blk hblk
  by_cases he : L.length = M.length
  · refine SG.walk tab_ok mx 400 [false] [] ?_
    conv => whnf
    try dsimp only [rowL, rowN, growOk, hiN, fromL, tightN, maxOk]
    try simp (disch := omega) only [wI, wU64, wU32, wU8, Int.toNat_natCast, toNat_succ, toNat_pred, Int.reduceToNat, Option.getD_some, Option.getD_none, Nat.sub_zero, Nat.zero_add]
    refine ⟨?_, ?_⟩
    · simp; omega
    refine SG.loop (fun k : Nat => ⟨puts (List.replicate (Try.f21).ntmps .any) [(0, rsV 0), (1, rsV 1), (5, intV k)], [], [some (rowP L), some (rowP M)], []⟩) (fun k => k ≤ L.length ∧ ∀ j, j < k → L.getD j pp0 = M.getD j pp0) (fun k => L.length - k) (0) (⟨Nat.zero_le _, fun j hj => by omega⟩) (fun h => SG.sub [] [0, 1] ⟨?_, ?_, ?_, by decide, rfl, rfl, rfl, ?_⟩ h) ?_
    · repeat' (first | exact trivial | exact rfl | refine And.intro ?_ ?_)
    · repeat' (first | exact trivial | exact rfl | refine And.intro ?_ ?_)
    · repeat' (first | exact trivial | refine ⟨⟨_, rfl, ⟨rfl, rfl, .inl rfl, (fun h => by first | exact h | cases h), (fun h => by first | exact h | cases h), fun _ _ => rfl⟩, fun _ _ => rfl⟩, ?_⟩ | refine ⟨⟨_, rfl, ⟨rfl, rfl, .inr rfl, (fun h => by first | exact h | cases h), (fun h => by first | exact h | cases h), fun _ _ => rfl⟩, fun _ _ => rfl⟩, ?_⟩ | refine ⟨⟨_, rfl, ⟨rfl, rfl, .inr rfl, (fun h => by first | exact h | cases h), (fun h => by first | exact h | cases h), fun i hi => absurd hi (Nat.not_lt_zero i)⟩, fun i hi => absurd hi (Nat.not_lt_zero i)⟩, ?_⟩ | refine ⟨⟨_, rfl, ⟨rfl, rfl, .inl rfl, (fun h => by first | exact h | cases h), (fun h => by first | exact h | cases h), fun i hi => ren_closed (hQc i hi)⟩, fun i hi => inn_closed (hQc i hi)⟩, ?_⟩)
    · repeat' (first | exact trivial | exact rfl | refine And.intro ?_ ?_)
    intro k hk next
    by_cases hlt : k < L.length
    · by_cases hp : L.getD k pp0 = M.getD k pp0
      · refine SG.walk tab_ok mx 400 [true, false] [] ?_
        conv => whnf
        try dsimp only [rowL, rowN, growOk, hiN, fromL, tightN, maxOk]
        try simp (disch := omega) only [wI, wU64, wU32, wU8, Int.toNat_natCast, toNat_succ, toNat_pred, Int.reduceToNat, Option.getD_some, Option.getD_none, Nat.sub_zero, Nat.zero_add]
        refine ⟨?_, ?_⟩
        · simp only [pp_eq]
          refine ⟨by simpa using hp, by omega, by omega, by omega, by omega, by simpa using hlt⟩
        · refine SG.sub [] [0, 1] ⟨?_, ?_, ?_, by decide, rfl, rfl, rfl, ?_⟩ (next (k + 1) ⟨hlt, fun j hj => ?_⟩ (by omega))
          · repeat' (first | exact trivial | exact rfl | refine And.intro ?_ ?_)
          · repeat' (first | exact trivial | exact rfl | refine And.intro ?_ ?_)
          · repeat' (first | exact trivial | refine ⟨⟨_, rfl, ⟨rfl, rfl, .inl rfl, (fun h => by first | exact h | cases h), (fun h => by first | exact h | cases h), fun _ _ => rfl⟩, fun _ _ => rfl⟩, ?_⟩ | refine ⟨⟨_, rfl, ⟨rfl, rfl, .inr rfl, (fun h => by first | exact h | cases h), (fun h => by first | exact h | cases h), fun _ _ => rfl⟩, fun _ _ => rfl⟩, ?_⟩ | refine ⟨⟨_, rfl, ⟨rfl, rfl, .inr rfl, (fun h => by first | exact h | cases h), (fun h => by first | exact h | cases h), fun i hi => absurd hi (Nat.not_lt_zero i)⟩, fun i hi => absurd hi (Nat.not_lt_zero i)⟩, ?_⟩ | refine ⟨⟨_, rfl, ⟨rfl, rfl, .inl rfl, (fun h => by first | exact h | cases h), (fun h => by first | exact h | cases h), fun i hi => ren_closed (hQc i hi)⟩, fun i hi => inn_closed (hQc i hi)⟩, ?_⟩)
          · repeat' (first | exact trivial | exact rfl | refine And.intro ?_ ?_)
          rcases Nat.lt_or_ge j k with h | h
          · exact hk.2 j h
          · rw [show j = k by omega]; exact hp
      · refine SG.walk tab_ok mx 400 [true, true] [] ?_
        conv => whnf
        try dsimp only [rowL, rowN, growOk, hiN, fromL, tightN, maxOk]
        try simp (disch := omega) only [wI, wU64, wU32, wU8, Int.toNat_natCast, toNat_succ, toNat_pred, Int.reduceToNat, Option.getD_some, Option.getD_none, Nat.sub_zero, Nat.zero_add]
        refine ⟨?_, ?_⟩
        · simp only [pp_eq]
          refine ⟨by simpa using hp, by omega, by omega, by omega, by omega, by simpa using hlt⟩
        · have hne : b = false := by rw [← hb]; simp; rintro rfl; exact hp rfl
          subst hne
          refine SG.ret tab_ok Try.func21 rfl ?_
          intro ρ w' v hm hv
          exact Post.mk hm (.cv (.one (.lb false))) [] none [] hv rfl rows0 rfl (by simp)
    · refine SG.walk tab_ok mx 400 [false] [] ?_
      conv => whnf
      try dsimp only [rowL, rowN, growOk, hiN, fromL, tightN, maxOk]
      try simp (disch := omega) only [wI, wU64, wU32, wU8, Int.toNat_natCast, toNat_succ, toNat_pred, Int.reduceToNat, Option.getD_some, Option.getD_none, Nat.sub_zero, Nat.zero_add]
      refine ⟨?_, ?_⟩
      · simpa using hlt
      · have heq : b = true := by rw [← hb]; simp; exact plist_eq he fun j hj => hk.2 j (by omega)
        subst heq
        refine SG.ret tab_ok Try.func21 rfl ?_
        intro ρ w' v hm hv
        exact Post.mk hm (.cv (.one (.lb true))) [] none [] hv rfl rows0 rfl (by simp)
  · refine SG.walk tab_ok mx 400 [true] [] ?_
    conv => whnf
    try dsimp only [rowL, rowN, growOk, hiN, fromL, tightN, maxOk]
    try simp (disch := omega) only [wI, wU64, wU32, wU8, Int.toNat_natCast, toNat_succ, toNat_pred, Int.reduceToNat, Option.getD_some, Option.getD_none, Nat.sub_zero, Nat.zero_add]
    refine ⟨?_, ?_⟩
    · simp; omega
    have hne : b = false := by rw [← hb]; simp; rintro rfl; exact he rfl
    subst hne
    refine SG.ret tab_ok Try.func21 rfl ?_
    intro ρ w' v hm hv
    exact Post.mk hm (.cv (.one (.lb false))) [] none [] hv rfl rows0 rfl (by simp)
theorem freeF {x : PP} {b : Bool} (hb : decide (x.2.1 ≤ 0 ∧ x.2.2 ≤ 0) = b) : CallOk Try.prog W B Rs 26 [ppV x] (mkHd (.cv (.one (.lb b))) []) := by
  refine CallOk.enter Try.func26 (by kernel_rfl) rfl [] [] [ppV x] rfl rows0 (fun r h => by cases h) rfl rfl ?_
  intro w blk hblk
  by_cases h1 : x.2.1 ≤ 0
  · refine SG.walk tab_ok mx 400 [true] [] ?_
    conv => whnf
    try dsimp only [rowL, rowN, growOk, hiN, fromL, tightN, maxOk]
    try simp (disch := omega) only [wI, wU64, wU32, wU8, Int.toNat_natCast, toNat_succ, toNat_pred, Int.reduceToNat, Option.getD_some, Option.getD_none, Nat.sub_zero, Nat.zero_add]
    refine ⟨?_, ?_⟩
    · simpa using h1
    · have e : b = decide (x.2.2 ≤ 0) := by rw [← hb]; simp [h1]
      rw [e]
      refine SG.ret tab_ok Try.func26 rfl ?_
      intro ρ w' v hm hv
      exact Post.mk hm (.cv (.one (.lb (decide (x.2.2 ≤ 0))))) [] none [] hv rfl rows0 rfl (by simp)
  · refine SG.walk tab_ok mx 400 [false] [] ?_
    conv => whnf
    try dsimp only [rowL, rowN, growOk, hiN, fromL, tightN, maxOk]
    try simp (disch := omega) only [wI, wU64, wU32, wU8, Int.toNat_natCast, toNat_succ, toNat_pred, Int.reduceToNat, Option.getD_some, Option.getD_none, Nat.sub_zero, Nat.zero_add]
    refine ⟨?_, ?_⟩
    · simpa using h1
    · have e : b = false := by rw [← hb]; simp [h1]
      rw [e]
      refine SG.ret tab_ok Try.func26 rfl ?_
      intro ρ w' v hm hv
      exact Post.mk hm (.cv (.one (.lb false))) [] none [] hv rfl rows0 rfl (by simp)
def Free (x : PP) : Prop := x.2.1 ≤ 0 ∧ x.2.2 ≤ 0
instance (x : PP) : Decidable (Free x) := by unfold Free; infer_instance
def IxFree (L : List PP) (n : Int) : Prop := (∃ k : Nat, n = k ∧ k < L.length ∧ Free (L.getD k pp0) ∧ ∀ j, j < k → ¬ Free (L.getD j pp0)) ∨ (n = -1 ∧ ∀ j, j < L.length → ¬ Free (L.getD j pp0))
theorem ixFree_uniq {L : List PP} {n : Int} (h : IxFree L n) {k : Nat} (hk : k < L.length) (hf : Free (L.getD k pp0)) (hn : ∀ j, j < k → ¬ Free (L.getD j pp0)) : n = k := by
  rcases h with ⟨m, rfl, h1, h2, h3⟩ | ⟨_, h⟩
  · rcases Nat.lt_trichotomy m k with h | h | h
    · exact absurd h2 (hn m h)
    · rw [h]
    · exact absurd hf (h3 k h)
  · exact absurd hf (h k hk)
theorem ixFree_none {L : List PP} {n : Int} (h : IxFree L n) (hn : ∀ j, j < L.length → ¬ Free (L.getD j pp0)) : n = -1 := by
  rcases h with ⟨m, rfl, h1, h2, h3⟩ | ⟨h, _⟩
  · exact absurd h2 (hn m h1)
  · exact h
theorem ixFree_ex (L : List PP) : ∃ n, IxFree L n := by
  by_cases h : ∃ k, k < L.length ∧ Free (L.getD k pp0)
  · have key : ∀ m k, k ≤ m → k < L.length → Free (L.getD k pp0) → ∃ n : Nat, n < L.length ∧ Free (L.getD n pp0) ∧ ∀ j, j < n → ¬ Free (L.getD j pp0) := by
      intro m
      induction m with
      | zero => intro k hk hl hf; exact ⟨k, hl, hf, fun j hj => by omega⟩
      | succ m ih =>
        intro k hk hl hf
        by_cases h2 : ∃ j, j < k ∧ Free (L.getD j pp0)
        · obtain ⟨j, hj, hfj⟩ := h2
          exact ih j (by omega) (by omega) hfj
        · exact ⟨k, hl, hf, fun j hj hfj => h2 ⟨j, hj, hfj⟩⟩
    obtain ⟨k, hl, hf⟩ := h
    obtain ⟨n, h1, h2, h3⟩ := key k k (Nat.le_refl _) hl hf
    exact ⟨n, .inl ⟨n, rfl, h1, h2, h3⟩⟩
  · exact ⟨-1, .inr ⟨rfl, fun j hj hf => h ⟨j, hj, hf⟩⟩⟩
set_option maxRecDepth 100000 in
theorem indexFree {r : Nat} {R : Row} {L : List PP} {n : Int} (hr : Rs[r]? = some (some R)) (hR : RowLe R (rowP L)) (hl : L.length ≤ 4398046511104) (hn : IxFree L n) :
    CallOk Try.prog W B Rs 25 [rsV r, .cv (.one (.clo 26 []))] (mkHd (intV n) []) := by
  refine CallOk.enter Try.func25 (by kernel_rfl) rfl [r] [rowP L] [rsV 0, .cv (.one (.clo 26 []))] rfl (rows1 (.ro_ hr hR rfl rfl (fun _ _ => rfl))) (fun r h => by cases h) rfl rfl ?_
  intro w blk hblk
  refine SG.walk tab_ok mx 400 [] [] ?_
  conv => whnf
  try dsimp only [rowL, rowN, growOk, hiN, fromL, tightN, maxOk]
  try simp (disch := omega) only [wI, wU64, wU32, wU8, Int.toNat_natCast, toNat_succ, toNat_pred, Int.reduceToNat, Option.getD_some, Option.getD_none, Nat.sub_zero, Nat.zero_add]
  refine ⟨?_, ?_⟩
  · trivial
  refine SG.loop (fun k : Nat => ⟨puts (List.replicate (Try.f25).ntmps .any) [(0, rsV 0), (1, .cv (.one (.clo 26 []))), (7, intV L.length), (8, intV k)], [], [some (rowP L)], []⟩) (fun k => k ≤ L.length ∧ ∀ j, j < k → ¬ Free (L.getD j pp0)) (fun k => L.length - k) (0) (⟨Nat.zero_le _, fun j hj => by omega⟩) (fun h => SG.sub [] [0] ⟨?_, ?_, ?_, by decide, rfl, rfl, rfl, ?_⟩ h) ?_
  · repeat' (first | exact trivial | exact rfl | refine And.intro ?_ ?_)
  · repeat' (first | exact trivial | exact rfl | refine And.intro ?_ ?_)
  · repeat' (first | exact trivial | refine ⟨⟨_, rfl, ⟨rfl, rfl, .inl rfl, (fun h => by first | exact h | cases h), (fun h => by first | exact h | cases h), fun _ _ => rfl⟩, fun _ _ => rfl⟩, ?_⟩ | refine ⟨⟨_, rfl, ⟨rfl, rfl, .inr rfl, (fun h => by first | exact h | cases h), (fun h => by first | exact h | cases h), fun _ _ => rfl⟩, fun _ _ => rfl⟩, ?_⟩ | refine ⟨⟨_, rfl, ⟨rfl, rfl, .inr rfl, (fun h => by first | exact h | cases h), (fun h => by first | exact h | cases h), fun i hi => absurd hi (Nat.not_lt_zero i)⟩, fun i hi => absurd hi (Nat.not_lt_zero i)⟩, ?_⟩ | refine ⟨⟨_, rfl, ⟨rfl, rfl, .inl rfl, (fun h => by first | exact h | cases h), (fun h => by first | exact h | cases h), fun i hi => ren_closed (hQc i hi)⟩, fun i hi => inn_closed (hQc i hi)⟩, ?_⟩)
  · repeat' (first | exact trivial | exact rfl | refine And.intro ?_ ?_)
  intro k hk next
  by_cases hlt : k < L.length
  · by_cases hp : Free (L.getD k pp0)
    · refine SG.walk tab_ok mx 400 [true] [mkHd (.cv (.one (.lb true))) []] ?_
      conv => whnf
      try dsimp only [rowL, rowN, growOk, hiN, fromL, tightN, maxOk]
      try simp (disch := omega) only [wI, wU64, wU32, wU8, Int.toNat_natCast, toNat_succ, toNat_pred, Int.reduceToNat, Option.getD_some, Option.getD_none, Nat.sub_zero, Nat.zero_add]
      refine ⟨?_, ?_⟩
      · exact ⟨freeF (x := L.getD k pp0) (by simpa [Free] using hp), by omega, by omega, by simpa using hlt⟩
      · have hix := ixFree_uniq hn hlt hp hk.2
        rw [hix]
        refine SG.ret tab_ok Try.func25 rfl ?_
        intro ρ w' v hm hv
        exact Post.mk hm (intV k) [] none [] hv rfl rows0 rfl (by simp)
    · refine SG.walk tab_ok mx 400 [true] [mkHd (.cv (.one (.lb false))) []] ?_
      conv => whnf
      try dsimp only [rowL, rowN, growOk, hiN, fromL, tightN, maxOk]
      try simp (disch := omega) only [wI, wU64, wU32, wU8, Int.toNat_natCast, toNat_succ, toNat_pred, Int.reduceToNat, Option.getD_some, Option.getD_none, Nat.sub_zero, Nat.zero_add]
      refine ⟨?_, ?_⟩
      · exact ⟨freeF (x := L.getD k pp0) (by simpa [Free] using hp), by omega, by omega, by simpa using hlt⟩
      · refine SG.sub [] [0] ⟨?_, ?_, ?_, by decide, rfl, rfl, rfl, ?_⟩ (next (k + 1) ⟨hlt, fun j hj => ?_⟩ (by omega))
        · repeat' (first | exact trivial | exact rfl | refine And.intro ?_ ?_)
        · repeat' (first | exact trivial | exact rfl | refine And.intro ?_ ?_)
        · repeat' (first | exact trivial | refine ⟨⟨_, rfl, ⟨rfl, rfl, .inl rfl, (fun h => by first | exact h | cases h), (fun h => by first | exact h | cases h), fun _ _ => rfl⟩, fun _ _ => rfl⟩, ?_⟩ | refine ⟨⟨_, rfl, ⟨rfl, rfl, .inr rfl, (fun h => by first | exact h | cases h), (fun h => by first | exact h | cases h), fun _ _ => rfl⟩, fun _ _ => rfl⟩, ?_⟩ | refine ⟨⟨_, rfl, ⟨rfl, rfl, .inr rfl, (fun h => by first | exact h | cases h), (fun h => by first | exact h | cases h), fun i hi => absurd hi (Nat.not_lt_zero i)⟩, fun i hi => absurd hi (Nat.not_lt_zero i)⟩, ?_⟩ | refine ⟨⟨_, rfl, ⟨rfl, rfl, .inl rfl, (fun h => by first | exact h | cases h), (fun h => by first | exact h | cases h), fun i hi => ren_closed (hQc i hi)⟩, fun i hi => inn_closed (hQc i hi)⟩, ?_⟩)
        · repeat' (first | exact trivial | exact rfl | refine And.intro ?_ ?_)
        rcases Nat.lt_or_ge j k with h | h
        · exact hk.2 j h
        · rw [show j = k by omega]; exact hp
  · refine SG.walk tab_ok mx 400 [false] [] ?_
    conv => whnf
    try dsimp only [rowL, rowN, growOk, hiN, fromL, tightN, maxOk]
    try simp (disch := omega) only [wI, wU64, wU32, wU8, Int.toNat_natCast, toNat_succ, toNat_pred, Int.reduceToNat, Option.getD_some, Option.getD_none, Nat.sub_zero, Nat.zero_add]
    refine ⟨?_, ?_⟩
    · simpa using hlt
    · have hix := ixFree_none hn fun j hj => hk.2 j (by omega)
      rw [hix]
      refine SG.ret tab_ok Try.func25 rfl ?_
      intro ρ w' v hm hv
      exact Post.mk hm (intV (-1)) [] none [] hv rfl rows0 rfl (by simp)
abbrev pp1 : PP := (⟨#[]⟩, 1, 1)
abbrev madeV (n e : Int) : SV := .tup [.one (.rs 0), .one (.v (.int .i64 n)), .one (.v (.int .i64 e))]
abbrev madeC (r : Nat) (n e : Int) : List Cv := [.one (.rs r), .one (.v (.int .i64 n)), .one (.v (.int .i64 e))]
theorem set_cells (L : List PP) (k : Nat) (x : PP) (hk : k < L.length) (i : Nat) : ppC ((L.set k x).getD i pp0) = if i = k then ppC x else ppC (L.getD i pp0) := by
  simp only [List.getD_eq_getElem?_getD]
  split
  · rename_i h; subst h
    simp [hk]
  · rename_i h
    rw [List.getElem?_set_ne (Ne.symm h)]
theorem app_cells (L : List PP) (x : PP) (i : Nat) (hi : i < L.length + 1) : ppC ((L ++ [x]).getD i pp0) = if i < L.length then ppC (L.getD i pp0) else ppC x := by
  simp only [List.getD_eq_getElem?_getD]
  split
  · rename_i h; rw [List.getElem?_append_left h]
  · rename_i h
    rw [List.getElem?_append_right (by omega), show i - L.length = 0 by omega]
    rfl
theorem app_row (L : List PP) (x : PP) (i : Nat) (hi : i < L.length + 1) : ppC ((L ++ [x]).getD i pp0) = if i < L.length then ppC (L.getD i pp0) else ([ppC x][i - L.length]?).getD [] := by
  rw [app_cells L x i hi]
  split
  · rfl
  · rw [show i - L.length = 0 by omega]; rfl
set_option maxRecDepth 100000 in
theorem makeAt {r : Nat} {R : Row} {L : List PP} {k : Nat} (hr : Rs[r]? = some (some R)) (hR : RowLe R (rowP L)) (hl : L.length ≤ 4398046511104) (hn : IxFree L k) (hk : k < L.length) :
    CallOk Try.prog W B Rs 17 [rsV r] (mkHd (madeV (k + 1) 0) [newP (L.set k pp1)]) := by
  refine CallOk.enter Try.func17 (by kernel_rfl) rfl [r] [rowP L] [rsV 0] rfl (rows1 (.ro_ hr hR rfl rfl (fun _ _ => rfl))) (fun r h => by cases h) rfl rfl ?_
  intro w blk hblk
  refine SG.walk tab_ok mx 400 [true] [mkHd (rsV 0) [newP L], mkHd (intV k) []] ?_
  conv => whnf
  try dsimp only [rowL, rowN, growOk, hiN, fromL, tightN, maxOk]
  try simp (disch := omega) only [wI, wU64, wU32, wU8, Int.toNat_natCast, toNat_succ, toNat_pred, Int.reduceToNat, Option.getD_some, Option.getD_none, Nat.sub_zero, Nat.zero_add]
  refine ⟨?_, ?_⟩
  · exact ⟨by omega, by omega, by simp, indexFree (r := 1) rfl (.of rfl rfl (fun _ _ => rfl)) (by omega) hn, cloneP (r := 0) rfl (.of rfl rfl (fun _ _ => rfl)) (by omega)⟩
  refine SG.ret tab_ok Try.func17 rfl ?_
  intro ρ w' v hm hv
  exact Post.mk hm (madeV (k + 1) 0) [newP (L.set k pp1)] none [1] hv rfl (rows1 (.of rfl rfl rfl (by simp) rfl (fun i hi => by rw [set_cells L k pp1 hk]; dsimp only; split <;> rfl) (fun _ => rfl))) rfl (by simp)
set_option maxRecDepth 100000 in
theorem makeNew {r : Nat} {R : Row} {L : List PP} (hr : Rs[r]? = some (some R)) (hR : RowLe R (rowP L)) (hl : L.length < 4) (hn : IxFree L (-1)) :
    CallOk Try.prog W B Rs 17 [rsV r] (mkHd (madeV ((L.length + 1 : Nat) : Int) 0) [newP (L ++ [pp1])]) := by
  refine CallOk.enter Try.func17 (by kernel_rfl) rfl [r] [rowP L] [rsV 0] rfl (rows1 (.ro_ hr hR rfl rfl (fun _ _ => rfl))) (fun r h => by cases h) rfl rfl ?_
  intro w blk hblk
  refine SG.walk tab_ok mx 400 [false, true] [mkHd (rsV 0) [newP L], mkHd (intV (-1)) []] ?_
  conv => whnf
  try dsimp only [rowL, rowN, growOk, hiN, fromL, tightN, maxOk]
  try simp (disch := omega) only [wI, wU64, wU32, wU8, Int.toNat_natCast, toNat_succ, toNat_pred, Int.reduceToNat, Option.getD_some, Option.getD_none, Nat.sub_zero, Nat.zero_add]
  refine ⟨?_, ?_⟩
  · exact ⟨by omega, by simp only [decide_eq_true_eq]; omega, by decide, indexFree (r := 1) rfl (.of rfl rfl (fun _ _ => rfl)) (by omega) hn, cloneP (r := 0) rfl (.of rfl rfl (fun _ _ => rfl)) (by omega)⟩
  refine SG.ret tab_ok Try.func17 rfl ?_
  intro ρ w' v hm hv
  exact Post.mk hm (madeV ((L.length + 1 : Nat) : Int) 0) [newP (L ++ [pp1])] none [3] hv rfl (rows1 (.of rfl rfl rfl (by simp) rfl (fun i hi => app_row L pp1 i (by simpa using hi)) (fun _ => rfl))) rfl (by simp)
set_option maxRecDepth 100000 in
theorem makeFull {r : Nat} {R : Row} {L : List PP} (hr : Rs[r]? = some (some R)) (hR : RowLe R (rowP L)) (hl : L.length ≤ 4398046511104) (h4 : 4 ≤ L.length) (hn : IxFree L (-1)) :
    CallOk Try.prog W B Rs 17 [rsV r] (mkHd (madeV 0 5) [newP L]) := by
  refine CallOk.enter Try.func17 (by kernel_rfl) rfl [r] [rowP L] [rsV 0] rfl (rows1 (.ro_ hr hR rfl rfl (fun _ _ => rfl))) (fun r h => by cases h) rfl rfl ?_
  intro w blk hblk
  refine SG.walk tab_ok mx 400 [false, false] [mkHd (rsV 0) [newP L], mkHd (intV (-1)) []] ?_
  conv => whnf
  try dsimp only [rowL, rowN, growOk, hiN, fromL, tightN, maxOk]
  try simp (disch := omega) only [wI, wU64, wU32, wU8, Int.toNat_natCast, toNat_succ, toNat_pred, Int.reduceToNat, Option.getD_some, Option.getD_none, Nat.sub_zero, Nat.zero_add]
  refine ⟨?_, ?_⟩
  · exact ⟨by simp only [decide_eq_false_iff_not]; omega, by decide, indexFree (r := 1) rfl (.of rfl rfl (fun _ _ => rfl)) (by omega) hn, cloneP (r := 0) rfl (.of rfl rfl (fun _ _ => rfl)) (by omega)⟩
  refine SG.ret tab_ok Try.func17 rfl ?_
  intro ρ w' v hm hv
  exact Post.mk hm (madeV 0 5) [newP L] none [1] hv rfl (rows1 (.of rfl rfl rfl rfl rfl (fun i hi => rfl) (fun _ => rfl))) rfl (by simp)
end
end Go.Proofs.Ytlhjlomfpgmdmaa
