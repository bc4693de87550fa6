/- Traces: statements, on: what is ahead, what is cut. -/
import Derived.Test.YtajfcpehhhpgeaaTrD
namespace Go.Proofs.Ytajfcpehhhpgeaa
open Go.Sx Go.RowKit
set_option linter.unusedVariables false
set_option linter.unusedSimpArgs false
theorem tw_len {p : E → Bool} {L : List E} : (L.takeWhile p).length ≤ L.length := (List.takeWhile_sublist _).length_le
theorem tw_get {p : E → Bool} : ∀ {L : List E} {i : Nat}, i < (L.takeWhile p).length → (L.takeWhile p).getD i e0 = L.getD i e0 ∧ p (L.getD i e0) = true
  | [], i, h => by simp at h
  | x :: L, i, h => by
    rw [List.takeWhile_cons] at h ⊢
    by_cases hx : p x = true
    · rw [if_pos hx] at h ⊢
      cases i with
      | zero => simp [hx]
      | succ i =>
        have := tw_get (L := L) (i := i) (by simpa using h)
        simpa using this
    · rw [if_neg hx] at h; simp at h
theorem tw_end {p : E → Bool} : ∀ {L : List E}, (L.takeWhile p).length < L.length → p (L.getD (L.takeWhile p).length e0) = false
  | [], h => by simp at h
  | x :: L, h => by
    rw [List.takeWhile_cons] at h ⊢
    by_cases hx : p x = true
    · rw [if_pos hx] at h ⊢
      have := tw_end (L := L) (by simpa using h)
      simpa using this
    · rw [if_neg hx]; simpa using hx
theorem ris_mono {L : List E} (h : Ris L) {i : Nat} : ∀ {j : Nat}, i ≤ j → j < L.length → (L.getD i e0).at_ ≤ (L.getD j e0).at_
  | 0, hij, hj => by rw [show i = 0 by omega]; exact Int.le_refl _
  | j + 1, hij, hj => by
    rcases Nat.eq_or_lt_of_le hij with e | hlt
    · rw [e]; exact Int.le_refl _
    · have h1 := ris_mono h (i := i) (j := j) (by omega) (by omega)
      have h2 := h j hj
      omega
theorem ahead_iff {L : List E} {t : Int} (h : Ris L) {i : Nat} (hi : i < L.length) : (L.getD i e0).at_ < t ↔ i < (L.takeWhile (ltP t)).length := by
  constructor
  · intro h1
    rcases Nat.lt_or_ge i (L.takeWhile (ltP t)).length with h2 | h2
    · exact h2
    · exfalso
      have h3 := tw_end (p := ltP t) (L := L) (by omega)
      simp only [ltP, decide_eq_false_iff_not] at h3
      have h4 := ris_mono h h2 hi
      omega
  · intro h1
    have := (tw_get h1).2
    simpa [ltP, - List.getD_eq_getElem?_getD] using this
theorem ris_tw {L : List E} {p : E → Bool} (h : Ris L) : Ris (L.takeWhile p) := fun k hk => by
  rw [(tw_get (show k < _ by omega)).1, (tw_get hk).1]
  have := tw_len (p := p) (L := L)
  exact h k (by omega)
set_option maxHeartbeats 1000000 in
set_option maxRecDepth 100000 in
theorem ahead_walk (w : World) (c : Value) (L : List E) (t : Int) (hok : ∀ x ∈ L, okE x) (hrow : ∀ W' ρ, RowOk W' ρ w c (rowE L)) (hl : L.length ≤ 5864062014650) :
    Calls Try.prog 5 #[c, .int .u64 t] w fun e w' => e = .returned (.bool true) ∧ Below w.heap.size w w' := by
  obtain ⟨A, cap, rfl, _⟩ := (hrow ⟨w, none, [], []⟩ ⟨fun _ => none, fun _ => none⟩).form
  refine calls_top Try.func5 rfl [.slice A L.length cap] [rowE L] [rsV 0, u64V t] (.cons hrow rfl .nil) ⟨rfl, rfl, trivial⟩ ?_
  clear hrow
  obtain ⟨b, hb⟩ := ris_b L
  cases b with
  | false =>
    refine SG.walk tab_ok mx 400 [] [hdB true, hdB false] ?_
    conv => whnf
    try dsimp only [rowL, rowN, growOk, hiN, fromL, tightN, maxOk]
    try simp (disch := omega) only [wI, wU64, wU32, wU8, Int.toNat_natCast, toNat_succ, toNat_pred, Int.reduceToNat, Option.getD_some, Option.getD_none, Nat.sub_zero, Nat.zero_add]
    refine ⟨?_, ?_⟩
    · repeat' apply And.intro
      all_goals first
        | exact shownE
        | exact risesT (r := 0) rfl (.of rfl rfl (fun _ _ => rfl)) (by omega) (fun x hx => (hok x hx).2.1) hb
        | trivial
        | rfl
        | omega
        | ((try dsimp only [rowL, rowN]); simp only [beq_iff_eq, beq_eq_false_iff_ne, bne_iff_ne, bne_eq_false_iff_eq, decide_eq_true_eq, decide_eq_false_iff_not, ne_eq, Bool.not_eq_true', Bool.not_eq_false', Bool.not_eq_eq_eq_not, Bool.not_true, Bool.not_false, Option.some.injEq, Option.getD_some, Option.getD_none]; omega)
        | (simp; done)
        | (simp; omega)
    refine SG.ret tab_ok Try.func5 rfl ?_
    intro ρ w' v hm hv
    exact top_true hm hv rfl
  | true =>
    have hr : Ris L := hb.1 rfl
    obtain ⟨K, hK⟩ : ∃ K, L.takeWhile (ltP t) = K := ⟨_, rfl⟩
    have hU := fun {W : Base} {B : List (Option (List At))} {Rs : List (Option Row)} {R : Row} (h1 : Rs[0]? = some (some R)) (h2 : RowLe R (rowE L)) => hK ▸ @untilT W B Rs 0 R L t h1 h2 (by omega)
    have hkl : K.length ≤ L.length := by rw [← hK]; exact tw_len
    have hah : ∀ i, i < L.length → ((L.getD i e0).at_ < t ↔ i < K.length) := fun i hi => by rw [← hK]; exact ahead_iff hr hi
    have hget : ∀ i, i < K.length → K.getD i e0 = L.getD i e0 := fun i hi => by
      rw [← hK] at hi ⊢; exact (tw_get hi).1
    have hrk : Ris K := by rw [← hK]; exact ris_tw hr
    have hok2 : ∀ x ∈ K, 0 ≤ x.at_ := fun x hx => (hok x ((List.takeWhile_sublist _).subset (by rw [hK]; exact hx))).2.1
    clear hK
    refine SG.walk tab_ok mx 400 [] [hdB true, hdB true, hdE K] ?_
    conv => whnf
    try dsimp only [rowL, rowN, growOk, hiN, fromL, tightN, maxOk]
    try simp (disch := omega) only [wI, wU64, wU32, wU8, Int.toNat_natCast, toNat_succ, toNat_pred, Int.reduceToNat, Option.getD_some, Option.getD_none, Nat.sub_zero, Nat.zero_add]
    refine ⟨?_, ?_⟩
    · repeat' apply And.intro
      all_goals first
        | exact shownE
        | exact risesT (r := 0) rfl (.of rfl rfl (fun _ _ => rfl)) (by omega) (fun x hx => (hok x hx).2.1) hb
        | exact hU rfl (.of rfl rfl (fun _ _ => rfl))
        | trivial
        | rfl
        | omega
        | ((try dsimp only [rowL, rowN]); simp only [beq_iff_eq, beq_eq_false_iff_ne, bne_iff_ne, bne_eq_false_iff_eq, decide_eq_true_eq, decide_eq_false_iff_not, ne_eq, Bool.not_eq_true', Bool.not_eq_false', Bool.not_eq_eq_eq_not, Bool.not_true, Bool.not_false, Option.some.injEq, Option.getD_some, Option.getD_none]; omega)
        | (simp; done)
        | (simp; omega)
    refine SG.loop (fun k : Nat => ⟨puts (List.replicate (Try.f5).ntmps .any) [(0, rsV 0), (1, u64V t), (5, trueV), (6, rsV 1), (7, intV k)], [], [some (rowE L), some (newE K)], []⟩) (fun k => k ≤ L.length) (fun k => L.length - k) (0) (Nat.zero_le _) (fun h => SG.sub [] [0, 1] ⟨?_, ?_, ?_, by decide, rfl, rfl, rfl, ?_⟩ h) ?_
    · repeat' (first | exact trivial | exact rfl | refine And.intro ?_ ?_)
    · repeat' (first | exact trivial | exact rfl | refine And.intro ?_ ?_)
    · repeat' (first | exact trivial | refine ⟨⟨_, rfl, ⟨rfl, rfl, .inl rfl, (fun h => by first | exact h | cases h), (fun h => by first | exact h | cases h), fun _ _ => rfl⟩, fun _ _ => rfl⟩, ?_⟩ | refine ⟨⟨_, rfl, ⟨rfl, rfl, .inr rfl, (fun h => by first | exact h | cases h), (fun h => by first | exact h | cases h), fun _ _ => rfl⟩, fun _ _ => rfl⟩, ?_⟩ | refine ⟨⟨_, rfl, ⟨rfl, rfl, .inr rfl, (fun h => by first | exact h | cases h), (fun h => by first | exact h | cases h), fun i hi => absurd hi (Nat.not_lt_zero i)⟩, fun i hi => absurd hi (Nat.not_lt_zero i)⟩, ?_⟩ | refine ⟨⟨_, rfl, ⟨rfl, rfl, .inl rfl, (fun h => by first | exact h | cases h), (fun h => by first | exact h | cases h), fun i hi => ren_closed (hQc i hi)⟩, fun i hi => inn_closed (hQc i hi)⟩, ?_⟩)
    · repeat' (first | exact trivial | exact rfl | refine And.intro ?_ ?_)
    intro k hk next
    by_cases hlt : k < L.length
    · have h1 := hah k hlt
      by_cases hm : k < K.length
      · have h2 := h1.2 hm
        refine SG.walk tab_ok mx 400 [true, false, true, false] [] ?_
        conv => whnf
        try dsimp only [rowL, rowN, growOk, hiN, fromL, tightN, maxOk]
        try simp (disch := omega) only [wI, wU64, wU32, wU8, Int.toNat_natCast, toNat_succ, toNat_pred, Int.reduceToNat, Option.getD_some, Option.getD_none, Nat.sub_zero, Nat.zero_add]
        refine ⟨?_, ?_⟩
        · repeat' apply And.intro
          all_goals first
            | exact show (!eqB (K.getD k e0) (L.getD k e0)) = false by rw [hget k hm, eqB_refl]; rfl
            | exact show (decide ((L.getD k e0).at_ < t) != decide ((k : Int) < K.length)) = false by rw [decide_eq_true h2, decide_eq_true (by omega)]; rfl
            | trivial
            | rfl
            | omega
            | ((try dsimp only [rowL, rowN]); simp only [beq_iff_eq, beq_eq_false_iff_ne, bne_iff_ne, bne_eq_false_iff_eq, decide_eq_true_eq, decide_eq_false_iff_not, ne_eq, Bool.not_eq_true', Bool.not_eq_false', Bool.not_eq_eq_eq_not, Bool.not_true, Bool.not_false, Option.some.injEq, Option.getD_some, Option.getD_none]; omega)
            | (simp; done)
            | (simp; omega)
        refine SG.sub [] [0, 1] ⟨?_, ?_, ?_, by decide, rfl, rfl, rfl, ?_⟩ (next (k + 1) hlt (by omega))
        · repeat' (first | exact trivial | exact rfl | refine And.intro ?_ ?_)
        · repeat' (first | exact trivial | exact rfl | refine And.intro ?_ ?_)
        · repeat' (first | exact trivial | refine ⟨⟨_, rfl, ⟨rfl, rfl, .inl rfl, (fun h => by first | exact h | cases h), (fun h => by first | exact h | cases h), fun _ _ => rfl⟩, fun _ _ => rfl⟩, ?_⟩ | refine ⟨⟨_, rfl, ⟨rfl, rfl, .inr rfl, (fun h => by first | exact h | cases h), (fun h => by first | exact h | cases h), fun _ _ => rfl⟩, fun _ _ => rfl⟩, ?_⟩ | refine ⟨⟨_, rfl, ⟨rfl, rfl, .inr rfl, (fun h => by first | exact h | cases h), (fun h => by first | exact h | cases h), fun i hi => absurd hi (Nat.not_lt_zero i)⟩, fun i hi => absurd hi (Nat.not_lt_zero i)⟩, ?_⟩ | refine ⟨⟨_, rfl, ⟨rfl, rfl, .inl rfl, (fun h => by first | exact h | cases h), (fun h => by first | exact h | cases h), fun i hi => ren_closed (hQc i hi)⟩, fun i hi => inn_closed (hQc i hi)⟩, ?_⟩)
        · repeat' (first | exact trivial | exact rfl | refine And.intro ?_ ?_)
      · have h2 : ¬ (L.getD k e0).at_ < t := fun h => hm (h1.1 h)
        refine SG.walk tab_ok mx 400 [true, false, false] [] ?_
        conv => whnf
        try dsimp only [rowL, rowN, growOk, hiN, fromL, tightN, maxOk]
        try simp (disch := omega) only [wI, wU64, wU32, wU8, Int.toNat_natCast, toNat_succ, toNat_pred, Int.reduceToNat, Option.getD_some, Option.getD_none, Nat.sub_zero, Nat.zero_add]
        refine ⟨?_, ?_⟩
        · repeat' apply And.intro
          all_goals first
            | exact show (decide ((L.getD k e0).at_ < t) != decide ((k : Int) < K.length)) = false by rw [decide_eq_false h2, decide_eq_false (by omega)]; rfl
            | trivial
            | rfl
            | omega
            | ((try dsimp only [rowL, rowN]); simp only [beq_iff_eq, beq_eq_false_iff_ne, bne_iff_ne, bne_eq_false_iff_eq, decide_eq_true_eq, decide_eq_false_iff_not, ne_eq, Bool.not_eq_true', Bool.not_eq_false', Bool.not_eq_eq_eq_not, Bool.not_true, Bool.not_false, Option.some.injEq, Option.getD_some, Option.getD_none]; omega)
            | (simp; done)
            | (simp; omega)
        refine SG.sub [] [0, 1] ⟨?_, ?_, ?_, by decide, rfl, rfl, rfl, ?_⟩ (next (k + 1) hlt (by omega))
        · repeat' (first | exact trivial | exact rfl | refine And.intro ?_ ?_)
        · repeat' (first | exact trivial | exact rfl | refine And.intro ?_ ?_)
        · repeat' (first | exact trivial | refine ⟨⟨_, rfl, ⟨rfl, rfl, .inl rfl, (fun h => by first | exact h | cases h), (fun h => by first | exact h | cases h), fun _ _ => rfl⟩, fun _ _ => rfl⟩, ?_⟩ | refine ⟨⟨_, rfl, ⟨rfl, rfl, .inr rfl, (fun h => by first | exact h | cases h), (fun h => by first | exact h | cases h), fun _ _ => rfl⟩, fun _ _ => rfl⟩, ?_⟩ | refine ⟨⟨_, rfl, ⟨rfl, rfl, .inr rfl, (fun h => by first | exact h | cases h), (fun h => by first | exact h | cases h), fun i hi => absurd hi (Nat.not_lt_zero i)⟩, fun i hi => absurd hi (Nat.not_lt_zero i)⟩, ?_⟩ | refine ⟨⟨_, rfl, ⟨rfl, rfl, .inl rfl, (fun h => by first | exact h | cases h), (fun h => by first | exact h | cases h), fun i hi => ren_closed (hQc i hi)⟩, fun i hi => inn_closed (hQc i hi)⟩, ?_⟩)
        · repeat' (first | exact trivial | exact rfl | refine And.intro ?_ ?_)
    · refine SG.walk tab_ok mx 400 [false] [hdB true] ?_
      conv => whnf
      try dsimp only [rowL, rowN, growOk, hiN, fromL, tightN, maxOk]
      try simp (disch := omega) only [wI, wU64, wU32, wU8, Int.toNat_natCast, toNat_succ, toNat_pred, Int.reduceToNat, Option.getD_some, Option.getD_none, Nat.sub_zero, Nat.zero_add]
      refine ⟨?_, ?_⟩
      · repeat' apply And.intro
        all_goals first
          | exact risesT (r := 1) (L := K) rfl (.of rfl rfl (fun _ _ => rfl)) (by omega) hok2 (by simp [hrk])
          | trivial
          | rfl
          | omega
          | ((try dsimp only [rowL, rowN]); simp only [beq_iff_eq, beq_eq_false_iff_ne, bne_iff_ne, bne_eq_false_iff_eq, decide_eq_true_eq, decide_eq_false_iff_not, ne_eq, Bool.not_eq_true', Bool.not_eq_false', Bool.not_eq_eq_eq_not, Bool.not_true, Bool.not_false, Option.some.injEq, Option.getD_some, Option.getD_none]; omega)
          | (simp; done)
          | (simp; omega)
      refine SG.ret tab_ok Try.func5 rfl ?_
      intro ρ w' v hm hv
      exact top_true hm hv rfl
set_option maxHeartbeats 1000000 in
set_option maxRecDepth 100000 in
theorem cuts_walk (w : World) (c : Value) (L : List E) (a b : Int) (hrow : ∀ W' ρ, RowOk W' ρ w c (rowE L)) (hl : L.length ≤ 5864062014650) :
    Calls Try.prog 8 #[c, .int .u64 a, .int .u64 b] w fun e w' => e = .returned (.bool true) ∧ Below w.heap.size w w' := by
  obtain ⟨A, cap, rfl, _⟩ := (hrow ⟨w, none, [], []⟩ ⟨fun _ => none, fun _ => none⟩).form
  refine calls_top Try.func8 rfl [.slice A L.length cap] [rowE L] [rsV 0, u64V a, u64V b] (.cons hrow rfl .nil) ⟨rfl, rfl, rfl, trivial⟩ ?_
  clear hrow
  have hxg : ∀ i, i < (L.takeWhile (ltP a)).length → (L.takeWhile (ltP a)).getD i e0 = L.getD i e0 ∧ (L.getD i e0).at_ < a := fun i hi => ⟨(tw_get hi).1, by have := (tw_get hi).2; simpa [ltP, - List.getD_eq_getElem?_getD] using this⟩
  have hyg : ∀ i, i < (L.takeWhile (ltP b)).length → (L.takeWhile (ltP b)).getD i e0 = L.getD i e0 := fun i hi => (tw_get hi).1
  have hye : (L.takeWhile (ltP b)).length < L.length → ¬ (L.getD (L.takeWhile (ltP b)).length e0).at_ < b := fun h => by
    have := tw_end h
    simpa [ltP, - List.getD_eq_getElem?_getD] using this
  have hxl := tw_len (p := ltP a) (L := L)
  have hyl := tw_len (p := ltP b) (L := L)
  have hua := fun {W : Base} {B : List (Option (List At))} {Rs : List (Option Row)} {R : Row} (h1 : Rs[0]? = some (some R)) (h2 : RowLe R (rowE L)) => @untilT W B Rs 0 R L a h1 h2 (by omega)
  have hub := fun {W : Base} {B : List (Option (List At))} {Rs : List (Option Row)} {R : Row} (h1 : Rs[0]? = some (some R)) (h2 : RowLe R (rowE L)) => @untilT W B Rs 0 R L b h1 h2 (by omega)
  generalize L.takeWhile (ltP a) = X at *
  generalize L.takeWhile (ltP b) = Y at *
  by_cases hab : a > b
  · refine SG.walk tab_ok mx 400 [true] [hdB true, hdE X, hdE Y] ?_
    conv => whnf
    try dsimp only [rowL, rowN, growOk, hiN, fromL, tightN, maxOk]
    try simp (disch := omega) only [wI, wU64, wU32, wU8, Int.toNat_natCast, toNat_succ, toNat_pred, Int.reduceToNat, Option.getD_some, Option.getD_none, Nat.sub_zero, Nat.zero_add]
    refine ⟨?_, ?_⟩
    · repeat' apply And.intro
      all_goals first
        | exact shownE
        | exact hua rfl (.of rfl rfl (fun _ _ => rfl))
        | exact hub rfl (.of rfl rfl (fun _ _ => rfl))
        | trivial
        | rfl
        | omega
        | ((try dsimp only [rowL, rowN]); simp only [beq_iff_eq, beq_eq_false_iff_ne, bne_iff_ne, bne_eq_false_iff_eq, decide_eq_true_eq, decide_eq_false_iff_not, ne_eq, Bool.not_eq_true', Bool.not_eq_false', Bool.not_eq_eq_eq_not, Bool.not_true, Bool.not_false, Option.some.injEq, Option.getD_some, Option.getD_none]; omega)
        | (simp; done)
        | (simp; omega)
    refine SG.ret tab_ok Try.func8 rfl ?_
    intro ρ w' v hm hv
    exact top_v hm hv (by simp; omega)
  · have hxy : X.length ≤ Y.length := by
      rcases Nat.lt_or_ge Y.length X.length with h | h
      · have h1 := (hxg Y.length h).2
        have h2 := hye (by omega)
        omega
      · exact h
    refine SG.walk tab_ok mx 400 [false, false] [hdB true, hdE X, hdE Y] ?_
    conv => whnf
    try dsimp only [rowL, rowN, growOk, hiN, fromL, tightN, maxOk]
    try simp (disch := omega) only [wI, wU64, wU32, wU8, Int.toNat_natCast, toNat_succ, toNat_pred, Int.reduceToNat, Option.getD_some, Option.getD_none, Nat.sub_zero, Nat.zero_add]
    refine ⟨?_, ?_⟩
    · repeat' apply And.intro
      all_goals first
        | exact shownE
        | exact hua rfl (.of rfl rfl (fun _ _ => rfl))
        | exact hub rfl (.of rfl rfl (fun _ _ => rfl))
        | trivial
        | rfl
        | omega
        | ((try dsimp only [rowL, rowN]); simp only [beq_iff_eq, beq_eq_false_iff_ne, bne_iff_ne, bne_eq_false_iff_eq, decide_eq_true_eq, decide_eq_false_iff_not, ne_eq, Bool.not_eq_true', Bool.not_eq_false', Bool.not_eq_eq_eq_not, Bool.not_true, Bool.not_false, Option.some.injEq, Option.getD_some, Option.getD_none]; omega)
        | (simp; done)
        | (simp; omega)
    refine SG.loop (fun k : Nat => ⟨puts (List.replicate (Try.f8).ntmps .any) [(0, rsV 0), (1, u64V a), (2, u64V b), (7, trueV), (8, rsV 1), (9, rsV 2), (10, intV k)], [], [some (rowE L), some (newE X), some (newE Y)], []⟩) (fun k => k ≤ X.length) (fun k => X.length - k) (0) (Nat.zero_le _) (fun h => SG.sub [] [0, 1, 2] ⟨?_, ?_, ?_, by decide, rfl, rfl, rfl, ?_⟩ h) ?_
    · repeat' (first | exact trivial | exact rfl | refine And.intro ?_ ?_)
    · repeat' (first | exact trivial | exact rfl | refine And.intro ?_ ?_)
    · repeat' (first | exact trivial | refine ⟨⟨_, rfl, ⟨rfl, rfl, .inl rfl, (fun h => by first | exact h | cases h), (fun h => by first | exact h | cases h), fun _ _ => rfl⟩, fun _ _ => rfl⟩, ?_⟩ | refine ⟨⟨_, rfl, ⟨rfl, rfl, .inr rfl, (fun h => by first | exact h | cases h), (fun h => by first | exact h | cases h), fun _ _ => rfl⟩, fun _ _ => rfl⟩, ?_⟩ | refine ⟨⟨_, rfl, ⟨rfl, rfl, .inr rfl, (fun h => by first | exact h | cases h), (fun h => by first | exact h | cases h), fun i hi => absurd hi (Nat.not_lt_zero i)⟩, fun i hi => absurd hi (Nat.not_lt_zero i)⟩, ?_⟩ | refine ⟨⟨_, rfl, ⟨rfl, rfl, .inl rfl, (fun h => by first | exact h | cases h), (fun h => by first | exact h | cases h), fun i hi => ren_closed (hQc i hi)⟩, fun i hi => inn_closed (hQc i hi)⟩, ?_⟩)
    · repeat' (first | exact trivial | exact rfl | refine And.intro ?_ ?_)
    intro k hk next
    by_cases hlt : k < X.length
    · obtain ⟨g1, g2⟩ := hxg k hlt
      have g3 := hyg k (by omega)
      rw [← g1] at g2
      refine SG.walk tab_ok mx 400 [true, false, false] [] ?_
      conv => whnf
      try dsimp only [rowL, rowN, growOk, hiN, fromL, tightN, maxOk]
      try simp (disch := omega) only [wI, wU64, wU32, wU8, Int.toNat_natCast, toNat_succ, toNat_pred, Int.reduceToNat, Option.getD_some, Option.getD_none, Nat.sub_zero, Nat.zero_add]
      refine ⟨?_, ?_⟩
      · repeat' apply And.intro
        all_goals first
          | exact show (!eqB (X.getD k e0) (Y.getD k e0)) = false by rw [g1, g3, eqB_refl]; rfl
          | trivial
          | rfl
          | omega
          | ((try dsimp only [rowL, rowN]); simp only [beq_iff_eq, beq_eq_false_iff_ne, bne_iff_ne, bne_eq_false_iff_eq, decide_eq_true_eq, decide_eq_false_iff_not, ne_eq, Bool.not_eq_true', Bool.not_eq_false', Bool.not_eq_eq_eq_not, Bool.not_true, Bool.not_false, Option.some.injEq, Option.getD_some, Option.getD_none]; omega)
          | (simp; done)
          | (simp; omega)
      refine SG.sub [] [0, 1, 2] ⟨?_, ?_, ?_, by decide, rfl, rfl, rfl, ?_⟩ (next (k + 1) hlt (by omega))
      · repeat' (first | exact trivial | exact rfl | refine And.intro ?_ ?_)
      · repeat' (first | exact trivial | exact rfl | refine And.intro ?_ ?_)
      · repeat' (first | exact trivial | refine ⟨⟨_, rfl, ⟨rfl, rfl, .inl rfl, (fun h => by first | exact h | cases h), (fun h => by first | exact h | cases h), fun _ _ => rfl⟩, fun _ _ => rfl⟩, ?_⟩ | refine ⟨⟨_, rfl, ⟨rfl, rfl, .inr rfl, (fun h => by first | exact h | cases h), (fun h => by first | exact h | cases h), fun _ _ => rfl⟩, fun _ _ => rfl⟩, ?_⟩ | refine ⟨⟨_, rfl, ⟨rfl, rfl, .inr rfl, (fun h => by first | exact h | cases h), (fun h => by first | exact h | cases h), fun i hi => absurd hi (Nat.not_lt_zero i)⟩, fun i hi => absurd hi (Nat.not_lt_zero i)⟩, ?_⟩ | refine ⟨⟨_, rfl, ⟨rfl, rfl, .inl rfl, (fun h => by first | exact h | cases h), (fun h => by first | exact h | cases h), fun i hi => ren_closed (hQc i hi)⟩, fun i hi => inn_closed (hQc i hi)⟩, ?_⟩)
      · repeat' (first | exact trivial | exact rfl | refine And.intro ?_ ?_)
    · by_cases hy : Y.length = L.length
      · refine SG.walk tab_ok mx 400 [false, true] [] ?_
        conv => whnf
        try dsimp only [rowL, rowN, growOk, hiN, fromL, tightN, maxOk]
        try simp (disch := omega) only [wI, wU64, wU32, wU8, Int.toNat_natCast, toNat_succ, toNat_pred, Int.reduceToNat, Option.getD_some, Option.getD_none, Nat.sub_zero, Nat.zero_add]
        refine ⟨?_, ?_⟩
        · repeat' apply And.intro
          all_goals first
            | trivial
            | rfl
            | omega
            | ((try dsimp only [rowL, rowN]); simp only [beq_iff_eq, beq_eq_false_iff_ne, bne_iff_ne, bne_eq_false_iff_eq, decide_eq_true_eq, decide_eq_false_iff_not, ne_eq, Bool.not_eq_true', Bool.not_eq_false', Bool.not_eq_eq_eq_not, Bool.not_true, Bool.not_false, Option.some.injEq, Option.getD_some, Option.getD_none]; omega)
            | (simp; done)
            | (simp; omega)
        refine SG.ret tab_ok Try.func8 rfl ?_
        intro ρ w' v hm hv
        exact top_true hm hv rfl
      · have h2 := hye (by omega)
        refine SG.walk tab_ok mx 400 [false, false] [] ?_
        conv => whnf
        try dsimp only [rowL, rowN, growOk, hiN, fromL, tightN, maxOk]
        try simp (disch := omega) only [wI, wU64, wU32, wU8, Int.toNat_natCast, toNat_succ, toNat_pred, Int.reduceToNat, Option.getD_some, Option.getD_none, Nat.sub_zero, Nat.zero_add]
        refine ⟨?_, ?_⟩
        · repeat' apply And.intro
          all_goals first
            | trivial
            | rfl
            | omega
            | ((try dsimp only [rowL, rowN]); simp only [beq_iff_eq, beq_eq_false_iff_ne, bne_iff_ne, bne_eq_false_iff_eq, decide_eq_true_eq, decide_eq_false_iff_not, ne_eq, Bool.not_eq_true', Bool.not_eq_false', Bool.not_eq_eq_eq_not, Bool.not_true, Bool.not_false, Option.some.injEq, Option.getD_some, Option.getD_none]; omega)
            | (simp; done)
            | (simp; omega)
        refine SG.ret tab_ok Try.func8 rfl ?_
        intro ρ w' v hm hv
        exact top_v hm hv (decide_eq_true (by omega))
end Go.Proofs.Ytajfcpehhhpgeaa
