/- Traces: statements, on: one's own, gaps. -/
import Derived.Test.YtajfcpehhhpgeaaTrE
namespace Go.Proofs.Ytajfcpehhhpgeaa
open Go.Sx Go.RowKit
set_option linter.unusedVariables false
set_option linter.unusedSimpArgs false
theorem filt_split {p : E → Bool} {L : List E} {k : Nat} (hk : k < L.length) (hp : p (L.getD k e0) = true) : L.filter p = ((L.take k).filter p ++ [L.getD k e0]) ++ (L.drop (k + 1)).filter p := by
  rw [← filt_take_yes (d := e0) hk hp, ← List.filter_append, List.take_append_drop]
theorem filt_get {p : E → Bool} {L : List E} {k : Nat} (hk : k < L.length) (hp : p (L.getD k e0) = true) : (L.filter p).getD ((L.take k).filter p).length e0 = L.getD k e0 := by
  rw [filt_split hk hp]
  generalize (L.take k).filter p = A
  generalize L.getD k e0 = x
  simp [List.getD_eq_getElem?_getD]
theorem filt_lt {p : E → Bool} {L : List E} {k : Nat} (hk : k < L.length) (hp : p (L.getD k e0) = true) : ((L.take k).filter p).length < (L.filter p).length := by
  rw [filt_split hk hp]; simp
theorem cnt_le (p q : E → Bool) (L : List E) : cntL p (L.filter q) ≤ cntL p L := by
  unfold cntL
  have := ((List.filter_sublist (p := q) (l := L)).filter p).length_le
  omega
theorem cnt_nn (p : E → Bool) (L : List E) : 0 ≤ cntL p L ∧ cntL p L ≤ L.length := by
  unfold cntL
  have := List.length_filter_le p L
  omega
set_option maxHeartbeats 1000000 in
set_option maxRecDepth 100000 in
theorem own_walk (w : World) (c : Value) (L : List E) (pid n : Int) (hrow : ∀ W' ρ, RowOk W' ρ w c (rowE L)) (hl : L.length ≤ 5864062014650) :
    Calls Try.prog 7 #[c, .int .i64 pid, .int .u32 n] w fun e w' => e = .returned (.bool true) ∧ Below w.heap.size w w' := by
  obtain ⟨A, cap, rfl, _⟩ := (hrow ⟨w, none, [], []⟩ ⟨fun _ => none, fun _ => none⟩).form
  refine calls_top Try.func7 rfl [.slice A L.length cap] [rowE L] [rsV 0, intV pid, u32V n] (.cons hrow rfl .nil) ⟨rfl, rfl, rfl, trivial⟩ ?_
  clear hrow
  have hF : (L.filter (ofP pid)).length ≤ L.length := List.length_filter_le _ _
  have hg := fun (k : Nat) (hk : k < L.length) (hp : ofP pid (L.getD k e0) = true) => (⟨filt_get hk hp, filt_lt hk hp⟩ : _ ∧ _)
  have hc1 := cnt_le (asP n) (ofP pid) L
  have hc2 := cnt_le failP (ofP pid) L
  have hof := fun {W : Base} {B : List (Option (List At))} {Rs : List (Option Row)} {R : Row} (h1 : Rs[0]? = some (some R)) (h2 : RowLe R (rowE L)) => @ofT W B Rs 0 R L pid h1 h2 (by omega)
  have hfl : (L.take L.length).filter (ofP pid) = L.filter (ofP pid) := by rw [List.take_length]
  obtain ⟨K, hK⟩ : ∃ K, L.filter (ofP pid) = K := ⟨_, rfl⟩
  rw [hK] at hF hc1 hc2 hof hfl
  simp only [hK] at hg
  clear hK
  refine SG.walk tab_ok mx 400 [] [hdB true, hdE K] ?_
  conv => whnf
  try dsimp only [rowL, rowN, growOk, hiN, fromL, tightN, maxOk]
  try simp (disch := omega) only [wI, wU64, wU32, wU8, Int.toNat_natCast, toNat_succ, toNat_pred, Int.reduceToNat, Option.getD_some, Option.getD_none, Nat.sub_zero, Nat.zero_add]
  refine ⟨?_, ?_⟩
  · repeat' apply And.intro
    all_goals first
      | exact shownE
      | exact hof rfl (.of rfl rfl (fun _ _ => rfl))
      | trivial
      | rfl
      | omega
      | ((try dsimp only [rowL, rowN]); simp only [beq_iff_eq, beq_eq_false_iff_ne, bne_iff_ne, bne_eq_false_iff_eq, decide_eq_true_eq, decide_eq_false_iff_not, ne_eq, Bool.not_eq_true', Bool.not_eq_false', Bool.not_eq_eq_eq_not, Bool.not_true, Bool.not_false, Option.some.injEq, Option.getD_some, Option.getD_none]; omega)
      | (simp; done)
      | (simp; omega)
  refine SG.loop (fun k : Nat => ⟨puts (List.replicate (Try.f7).ntmps .any) [(0, rsV 0), (1, intV pid), (2, u32V n), (7, trueV), (8, rsV 1), (9, intV ((L.take k).filter (ofP pid)).length), (10, intV k)], [], [some (rowE L), some (newE K)], []⟩) (fun k => k ≤ L.length) (fun k => L.length - k) (0) (Nat.zero_le _) (fun h => SG.sub [] [0, 1] ⟨?_, ?_, ?_, by decide, rfl, rfl, rfl, ?_⟩ h) ?_
  · repeat' (first | exact trivial | exact rfl | refine And.intro ?_ ?_)
  · repeat' (first | exact trivial | exact rfl | refine And.intro ?_ ?_)
  · repeat' (first | exact trivial | refine ⟨⟨_, rfl, ⟨rfl, rfl, .inl rfl, (fun h => by first | exact h | cases h), (fun h => by first | exact h | cases h), fun _ _ => rfl⟩, fun _ _ => rfl⟩, ?_⟩ | refine ⟨⟨_, rfl, ⟨rfl, rfl, .inr rfl, (fun h => by first | exact h | cases h), (fun h => by first | exact h | cases h), fun _ _ => rfl⟩, fun _ _ => rfl⟩, ?_⟩ | refine ⟨⟨_, rfl, ⟨rfl, rfl, .inr rfl, (fun h => by first | exact h | cases h), (fun h => by first | exact h | cases h), fun i hi => absurd hi (Nat.not_lt_zero i)⟩, fun i hi => absurd hi (Nat.not_lt_zero i)⟩, ?_⟩ | refine ⟨⟨_, rfl, ⟨rfl, rfl, .inl rfl, (fun h => by first | exact h | cases h), (fun h => by first | exact h | cases h), fun i hi => ren_closed (hQc i hi)⟩, fun i hi => inn_closed (hQc i hi)⟩, ?_⟩)
  · repeat' (first | exact trivial | exact rfl | refine And.intro ?_ ?_)
  intro k hk next
  have hln : ((L.take k).filter (ofP pid)).length ≤ k := Nat.le_trans (List.length_filter_le _ _) (by simp; omega)
  by_cases hlt : k < L.length
  · have nx := next (k + 1) hlt (by omega)
    by_cases hp : (L.getD k e0).pid = pid
    · have hp' : ofP pid (L.getD k e0) = true := by simp [ofP, hp, - List.getD_eq_getElem?_getD]
      obtain ⟨g1, g2⟩ := hg k hlt hp'
      rw [filt_take_yes (d := e0) hlt hp', List.length_append] at nx
      refine SG.walk tab_ok mx 400 [true, true, false, false] [] ?_
      conv => whnf
      try dsimp only [rowL, rowN, growOk, hiN, fromL, tightN, maxOk]
      try simp (disch := omega) only [wI, wU64, wU32, wU8, Int.toNat_natCast, toNat_succ, toNat_pred, Int.reduceToNat, Option.getD_some, Option.getD_none, Nat.sub_zero, Nat.zero_add]
      refine ⟨?_, ?_⟩
      · repeat' apply And.intro
        all_goals first
          | exact show (!eqB (K.getD ((L.take k).filter (ofP pid)).length e0) (L.getD k e0)) = false by rw [g1, eqB_refl]; rfl
          | trivial
          | rfl
          | omega
          | ((try dsimp only [rowL, rowN]); simp only [beq_iff_eq, beq_eq_false_iff_ne, bne_iff_ne, bne_eq_false_iff_eq, decide_eq_true_eq, decide_eq_false_iff_not, ne_eq, Bool.not_eq_true', Bool.not_eq_false', Bool.not_eq_eq_eq_not, Bool.not_true, Bool.not_false, Option.some.injEq, Option.getD_some, Option.getD_none]; omega)
          | (simp; done)
          | (simp; omega)
      refine SG.sub [] [0, 1] ⟨?_, ?_, ?_, by decide, rfl, rfl, rfl, ?_⟩ nx
      · repeat' (first | exact trivial | exact rfl | refine And.intro ?_ ?_)
      · repeat' (first | exact trivial | exact rfl | refine And.intro ?_ ?_)
      · repeat' (first | exact trivial | refine ⟨⟨_, rfl, ⟨rfl, rfl, .inl rfl, (fun h => by first | exact h | cases h), (fun h => by first | exact h | cases h), fun _ _ => rfl⟩, fun _ _ => rfl⟩, ?_⟩ | refine ⟨⟨_, rfl, ⟨rfl, rfl, .inr rfl, (fun h => by first | exact h | cases h), (fun h => by first | exact h | cases h), fun _ _ => rfl⟩, fun _ _ => rfl⟩, ?_⟩ | refine ⟨⟨_, rfl, ⟨rfl, rfl, .inr rfl, (fun h => by first | exact h | cases h), (fun h => by first | exact h | cases h), fun i hi => absurd hi (Nat.not_lt_zero i)⟩, fun i hi => absurd hi (Nat.not_lt_zero i)⟩, ?_⟩ | refine ⟨⟨_, rfl, ⟨rfl, rfl, .inl rfl, (fun h => by first | exact h | cases h), (fun h => by first | exact h | cases h), fun i hi => ren_closed (hQc i hi)⟩, fun i hi => inn_closed (hQc i hi)⟩, ?_⟩)
      · repeat' (first | exact trivial | exact rfl | refine And.intro ?_ ?_)
    · rw [filt_take_no (p := ofP pid) (d := e0) hlt (by simp [ofP, hp, - List.getD_eq_getElem?_getD])] at nx
      refine SG.walk tab_ok mx 400 [true, false] [] ?_
      conv => whnf
      try dsimp only [rowL, rowN, growOk, hiN, fromL, tightN, maxOk]
      try simp (disch := omega) only [wI, wU64, wU32, wU8, Int.toNat_natCast, toNat_succ, toNat_pred, Int.reduceToNat, Option.getD_some, Option.getD_none, Nat.sub_zero, Nat.zero_add]
      refine ⟨?_, ?_⟩
      · repeat' apply And.intro
        all_goals first
          | trivial
          | rfl
          | omega
          | ((try dsimp only [rowL, rowN]); simp only [beq_iff_eq, beq_eq_false_iff_ne, bne_iff_ne, bne_eq_false_iff_eq, decide_eq_true_eq, decide_eq_false_iff_not, ne_eq, Bool.not_eq_true', Bool.not_eq_false', Bool.not_eq_eq_eq_not, Bool.not_true, Bool.not_false, Option.some.injEq, Option.getD_some, Option.getD_none]; omega)
          | (simp; done)
          | (simp; omega)
      refine SG.sub [] [0, 1] ⟨?_, ?_, ?_, by decide, rfl, rfl, rfl, ?_⟩ nx
      · repeat' (first | exact trivial | exact rfl | refine And.intro ?_ ?_)
      · repeat' (first | exact trivial | exact rfl | refine And.intro ?_ ?_)
      · repeat' (first | exact trivial | refine ⟨⟨_, rfl, ⟨rfl, rfl, .inl rfl, (fun h => by first | exact h | cases h), (fun h => by first | exact h | cases h), fun _ _ => rfl⟩, fun _ _ => rfl⟩, ?_⟩ | refine ⟨⟨_, rfl, ⟨rfl, rfl, .inr rfl, (fun h => by first | exact h | cases h), (fun h => by first | exact h | cases h), fun _ _ => rfl⟩, fun _ _ => rfl⟩, ?_⟩ | refine ⟨⟨_, rfl, ⟨rfl, rfl, .inr rfl, (fun h => by first | exact h | cases h), (fun h => by first | exact h | cases h), fun i hi => absurd hi (Nat.not_lt_zero i)⟩, fun i hi => absurd hi (Nat.not_lt_zero i)⟩, ?_⟩ | refine ⟨⟨_, rfl, ⟨rfl, rfl, .inl rfl, (fun h => by first | exact h | cases h), (fun h => by first | exact h | cases h), fun i hi => ren_closed (hQc i hi)⟩, fun i hi => inn_closed (hQc i hi)⟩, ?_⟩)
      · repeat' (first | exact trivial | exact rfl | refine And.intro ?_ ?_)
  · have hkl : k = L.length := by omega
    subst hkl
    rw [hfl]
    refine SG.walk tab_ok mx 400 [false, true, true] [hdInt (cntL (asP n) K), hdInt (cntL (asP n) L), hdInt (cntL failP K), hdInt (cntL failP L)] ?_
    conv => whnf
    try dsimp only [rowL, rowN, growOk, hiN, fromL, tightN, maxOk]
    try simp (disch := omega) only [wI, wU64, wU32, wU8, Int.toNat_natCast, toNat_succ, toNat_pred, Int.reduceToNat, Option.getD_some, Option.getD_none, Nat.sub_zero, Nat.zero_add]
    refine ⟨?_, ?_⟩
    · repeat' apply And.intro
      all_goals first
        | exact countT (r := 1) (L := K) rfl (.of rfl rfl (fun _ _ => rfl)) (by omega)
        | exact countT (r := 0) rfl (.of rfl rfl (fun _ _ => rfl)) (by omega)
        | exact errorsT (r := 1) (L := K) rfl (.of rfl rfl (fun _ _ => rfl)) (by omega)
        | exact errorsT (r := 0) rfl (.of rfl rfl (fun _ _ => rfl)) (by omega)
        | trivial
        | rfl
        | omega
        | ((try dsimp only [rowL, rowN]); simp only [beq_iff_eq, beq_eq_false_iff_ne, bne_iff_ne, bne_eq_false_iff_eq, decide_eq_true_eq, decide_eq_false_iff_not, ne_eq, Bool.not_eq_true', Bool.not_eq_false', Bool.not_eq_eq_eq_not, Bool.not_true, Bool.not_false, Option.some.injEq, Option.getD_some, Option.getD_none]; omega)
        | (simp; done)
        | (simp; omega)
    refine SG.ret tab_ok Try.func7 rfl ?_
    intro ρ w' v hm hv
    exact top_v hm hv (decide_eq_true hc2)
/-- From one to the next. -/
def dF (F : List E) (i : Nat) : Int := IntKind.u64.wrap ((F.getD i e0).at_ - (F.getD (i - 1) e0).at_)
structure GapOk (F : List E) (g : Int × Int × Bool) : Prop where
  first : g.2.2 = F.isEmpty
  last : 0 < F.length → g.2.1 = (F.getD (F.length - 1) e0).at_
  nn : 0 ≤ g.1
  all : ∀ i, 1 ≤ i → i < F.length → dF F i ≤ g.1
  hit : g.1 = 0 ∨ ∃ i, 1 ≤ i ∧ i < F.length ∧ dF F i = g.1
theorem dF_snoc {F : List E} {x : E} {i : Nat} (h1 : 1 ≤ i) (h : i < F.length) : dF (F ++ [x]) i = dF F i := by
  unfold dF
  simp only [List.getD_eq_getElem?_getD]
  rw [List.getElem?_append_left h, List.getElem?_append_left (by omega)]
theorem dF_last {F : List E} {x : E} (h : 0 < F.length) : dF (F ++ [x]) F.length = IntKind.u64.wrap (x.at_ - (F.getD (F.length - 1) e0).at_) := by
  unfold dF
  simp only [List.getD_eq_getElem?_getD]
  rw [List.getElem?_append_right (Nat.le_refl _), List.getElem?_append_left (by omega)]
  simp
theorem gap_ok (n : Int) (L : List E) : ∀ k, k ≤ L.length → GapOk ((L.take k).filter (ofP n)) (gs n L k)
  | 0, _ => by
    simp only [List.take_zero, List.filter_nil, gs]
    exact ⟨rfl, fun h => by simp at h, Int.le_refl _, fun i _ h => by simp at h, .inl rfl⟩
  | k + 1, hk => by
    have ih := gap_ok n L k (by omega)
    by_cases hp : (L.getD k e0).pid = n
    · have e := filt_take_yes (p := ofP n) (d := e0) (show k < L.length by omega) (by simp [ofP, hp, - List.getD_eq_getElem?_getD])
      rw [e]
      simp only [gs, if_pos hp]
      obtain ⟨h1, h2, h3, h4, h5⟩ := ih
      generalize (L.take k).filter (ofP n) = F at *
      generalize gs n L k = g at *
      obtain ⟨g, l, f⟩ := g
      dsimp only at *
      rcases Nat.eq_zero_or_pos F.length with h0 | h0
      · have hF : F = [] := List.length_eq_zero_iff.1 h0
        subst hF
        simp at h1
        subst h1
        simp only [if_true]
        exact ⟨rfl, fun _ => rfl, h3, fun i a b => by simp at b; omega, by rcases h5 with h | ⟨i, _, h, _⟩; exact .inl h; simp at h⟩
      · have hf : f = false := by rw [h1]; cases F with
          | nil => simp at h0
          | cons => rfl
        subst hf
        have hl := h2 h0
        have hd := dF_last (x := L.getD k e0) h0
        rw [← hl] at hd
        simp only [Bool.false_eq_true, if_false]
        generalize IntKind.u64.wrap ((L.getD k e0).at_ - l) = d at *
        refine ⟨by simp, fun _ => by simp, ?_, fun i a b => ?_, ?_⟩
        · split <;> omega
        · rcases Nat.lt_or_ge i F.length with h | h
          · rw [dF_snoc a h]
            have := h4 i a h
            split <;> omega
          · have : i = F.length := by simp at b; omega
            subst this
            rw [hd]
            split <;> omega
        · by_cases hgt : d > g
          · rw [if_pos hgt]
            exact .inr ⟨F.length, h0, by simp, hd⟩
          · rw [if_neg hgt]
            rcases h5 with h | ⟨i, a, b, c⟩
            · exact .inl h
            · exact .inr ⟨i, a, by simp; omega, by rw [dF_snoc a b]; exact c⟩
    · have e := filt_take_no (p := ofP n) (d := e0) (show k < L.length by omega) (by simp [ofP, hp, - List.getD_eq_getElem?_getD])
      rw [e]
      simp only [gs, if_neg hp]
      exact ih
def hitB (G : Int) (F : List E) (i : Nat) : Bool := G == 0 || (List.range i).any fun j => decide (1 ≤ j) && dF F j == G
theorem hit_one (G : Int) (F : List E) : hitB G F 1 = (G == 0) := by simp [hitB, List.range_succ]
theorem hit_succ (G : Int) (F : List E) {i : Nat} (h : 1 ≤ i) : hitB G F (i + 1) = (hitB G F i || dF F i == G) := by
  simp [hitB, List.range_succ, h, Bool.or_assoc]
set_option maxHeartbeats 1000000 in
set_option maxRecDepth 100000 in
theorem gaps_walk (w : World) (c : Value) (L : List E) (pid : Int) (hrow : ∀ W' ρ, RowOk W' ρ w c (rowE L)) (hl : L.length ≤ 5864062014650) :
    Calls Try.prog 6 #[c, .int .i64 pid] w fun e w' => e = .returned (.bool true) ∧ Below w.heap.size w w' := by
  obtain ⟨A, cap, rfl, _⟩ := (hrow ⟨w, none, [], []⟩ ⟨fun _ => none, fun _ => none⟩).form
  refine calls_top Try.func6 rfl [.slice A L.length cap] [rowE L] [rsV 0, intV pid] (.cons hrow rfl .nil) ⟨rfl, rfl, trivial⟩ ?_
  clear hrow
  have hF : (L.filter (ofP pid)).length ≤ L.length := List.length_filter_le _ _
  have hG := gap_ok pid L L.length (Nat.le_refl _)
  rw [List.take_length] at hG
  have hof := fun {W : Base} {B : List (Option (List At))} {Rs : List (Option Row)} {R : Row} (h1 : Rs[0]? = some (some R)) (h2 : RowLe R (rowE L)) => @ofT W B Rs 0 R L pid h1 h2 (by omega)
  have hgp := fun {W : Base} {B : List (Option (List At))} {Rs : List (Option Row)} {R : Row} (h1 : Rs[0]? = some (some R)) (h2 : RowLe R (rowE L)) => @gapT W B Rs 0 R L pid h1 h2 (by omega)
  obtain ⟨K, hK⟩ : ∃ K, L.filter (ofP pid) = K := ⟨_, rfl⟩
  obtain ⟨G, hGG⟩ : ∃ G, (gs pid L L.length).1 = G := ⟨_, rfl⟩
  have hall := hG.all
  have hhit := hG.hit
  rw [hK] at hF hof hall hhit
  rw [hGG] at hgp hall hhit
  clear hK hGG hG
  refine SG.walk tab_ok mx 400 [] [hdB true, hdE K, hdU G] ?_
  conv => whnf
  try dsimp only [rowL, rowN, growOk, hiN, fromL, tightN, maxOk]
  try simp (disch := omega) only [wI, wU64, wU32, wU8, Int.toNat_natCast, toNat_succ, toNat_pred, Int.reduceToNat, Option.getD_some, Option.getD_none, Nat.sub_zero, Nat.zero_add]
  refine ⟨?_, ?_⟩
  · repeat' apply And.intro
    all_goals first
      | exact shownE
      | exact hof rfl (.of rfl rfl (fun _ _ => rfl))
      | exact hgp rfl (.of rfl rfl (fun _ _ => rfl))
      | trivial
      | rfl
      | omega
      | ((try dsimp only [rowL, rowN]); simp only [beq_iff_eq, beq_eq_false_iff_ne, bne_iff_ne, bne_eq_false_iff_eq, decide_eq_true_eq, decide_eq_false_iff_not, ne_eq, Bool.not_eq_true', Bool.not_eq_false', Bool.not_eq_eq_eq_not, Bool.not_true, Bool.not_false, Option.some.injEq, Option.getD_some, Option.getD_none]; omega)
      | (simp; done)
      | (simp; omega)
  refine SG.lbSlot 8 rfl (show (G == 0) = hitB G K 1 by rw [hit_one]) ?_
  refine SG.norm ?_
  conv => whnf
  refine SG.loop (fun k : Nat => ⟨puts (List.replicate (Try.f6).ntmps .any) [(0, rsV 0), (1, intV pid), (5, trueV), (6, rsV 1), (7, u64V G), (8, .cv (.one (.lb (hitB G K k)))), (9, intV k)], [], [some (rowE L), some (newE K)], []⟩) (fun k => 1 ≤ k ∧ (k ≤ K.length ∨ k = 1)) (fun k => K.length - k) (1) (⟨Nat.le_refl _, .inr rfl⟩) (fun h => SG.sub [] [0, 1] ⟨?_, ?_, ?_, by decide, rfl, rfl, rfl, ?_⟩ h) ?_
  · repeat' (first | exact trivial | exact rfl | refine And.intro ?_ ?_)
  · repeat' (first | exact trivial | exact rfl | refine And.intro ?_ ?_)
  · repeat' (first | exact trivial | refine ⟨⟨_, rfl, ⟨rfl, rfl, .inl rfl, (fun h => by first | exact h | cases h), (fun h => by first | exact h | cases h), fun _ _ => rfl⟩, fun _ _ => rfl⟩, ?_⟩ | refine ⟨⟨_, rfl, ⟨rfl, rfl, .inr rfl, (fun h => by first | exact h | cases h), (fun h => by first | exact h | cases h), fun _ _ => rfl⟩, fun _ _ => rfl⟩, ?_⟩ | refine ⟨⟨_, rfl, ⟨rfl, rfl, .inr rfl, (fun h => by first | exact h | cases h), (fun h => by first | exact h | cases h), fun i hi => absurd hi (Nat.not_lt_zero i)⟩, fun i hi => absurd hi (Nat.not_lt_zero i)⟩, ?_⟩ | refine ⟨⟨_, rfl, ⟨rfl, rfl, .inl rfl, (fun h => by first | exact h | cases h), (fun h => by first | exact h | cases h), fun i hi => ren_closed (hQc i hi)⟩, fun i hi => inn_closed (hQc i hi)⟩, ?_⟩)
  · repeat' (first | exact trivial | exact rfl | refine And.intro ?_ ?_)
  rintro k ⟨hk1, hk⟩ next
  by_cases hlt : k < K.length
  · have nx := next (k + 1) ⟨by omega, .inl hlt⟩ (by omega)
    rw [hit_succ G K hk1] at nx
    have hd := hall k hk1 hlt
    have hdd : dF K k = IntKind.u64.wrap ((K.getD k e0).at_ - (K.getD (k - 1) e0).at_) := rfl
    rw [hdd] at hd nx
    have hkk : ((k : Int) - 1).toNat = k - 1 := by omega
    cases hh : hitB G K k with
    | true =>
      rw [hh, Bool.true_or] at nx
      refine SG.walk tab_ok mx 400 [true, false] [] ?_
      conv => whnf
      try dsimp only [rowL, rowN, growOk, hiN, fromL, tightN, maxOk]
      try simp (disch := omega) only [wI, wU64, wU32, wU8, Int.toNat_natCast, toNat_succ, toNat_pred, Int.reduceToNat, Option.getD_some, Option.getD_none, Nat.sub_zero, Nat.zero_add]
      refine ⟨?_, ?_⟩
      · simp only [hkk]
        repeat' apply And.intro
        all_goals first
          | trivial
          | rfl
          | omega
          | ((try dsimp only [rowL, rowN]); simp only [beq_iff_eq, beq_eq_false_iff_ne, bne_iff_ne, bne_eq_false_iff_eq, decide_eq_true_eq, decide_eq_false_iff_not, ne_eq, Bool.not_eq_true', Bool.not_eq_false', Bool.not_eq_eq_eq_not, Bool.not_true, Bool.not_false, Option.some.injEq, Option.getD_some, Option.getD_none]; omega)
          | (simp; done)
          | (simp; omega)
      refine SG.sub [] [0, 1] ⟨?_, ?_, ?_, by decide, rfl, rfl, rfl, ?_⟩ nx
      · repeat' (first | exact trivial | exact rfl | refine And.intro ?_ ?_)
      · repeat' (first | exact trivial | exact rfl | refine And.intro ?_ ?_)
      · repeat' (first | exact trivial | refine ⟨⟨_, rfl, ⟨rfl, rfl, .inl rfl, (fun h => by first | exact h | cases h), (fun h => by first | exact h | cases h), fun _ _ => rfl⟩, fun _ _ => rfl⟩, ?_⟩ | refine ⟨⟨_, rfl, ⟨rfl, rfl, .inr rfl, (fun h => by first | exact h | cases h), (fun h => by first | exact h | cases h), fun _ _ => rfl⟩, fun _ _ => rfl⟩, ?_⟩ | refine ⟨⟨_, rfl, ⟨rfl, rfl, .inr rfl, (fun h => by first | exact h | cases h), (fun h => by first | exact h | cases h), fun i hi => absurd hi (Nat.not_lt_zero i)⟩, fun i hi => absurd hi (Nat.not_lt_zero i)⟩, ?_⟩ | refine ⟨⟨_, rfl, ⟨rfl, rfl, .inl rfl, (fun h => by first | exact h | cases h), (fun h => by first | exact h | cases h), fun i hi => ren_closed (hQc i hi)⟩, fun i hi => inn_closed (hQc i hi)⟩, ?_⟩)
      · repeat' (first | exact trivial | exact rfl | refine And.intro ?_ ?_)
    | false =>
      rw [hh, Bool.false_or] at nx
      refine SG.walk tab_ok mx 400 [true, false] [] ?_
      conv => whnf
      try dsimp only [rowL, rowN, growOk, hiN, fromL, tightN, maxOk]
      try simp (disch := omega) only [wI, wU64, wU32, wU8, Int.toNat_natCast, toNat_succ, toNat_pred, Int.reduceToNat, Option.getD_some, Option.getD_none, Nat.sub_zero, Nat.zero_add]
      refine ⟨?_, ?_⟩
      · simp only [hkk]
        repeat' apply And.intro
        all_goals first
          | trivial
          | rfl
          | omega
          | ((try dsimp only [rowL, rowN]); simp only [beq_iff_eq, beq_eq_false_iff_ne, bne_iff_ne, bne_eq_false_iff_eq, decide_eq_true_eq, decide_eq_false_iff_not, ne_eq, Bool.not_eq_true', Bool.not_eq_false', Bool.not_eq_eq_eq_not, Bool.not_true, Bool.not_false, Option.some.injEq, Option.getD_some, Option.getD_none]; omega)
          | (simp; done)
          | (simp; omega)
      refine SG.lbSlot 8 rfl (show (IntKind.u64.wrap ((K.getD k e0).at_ - (K.getD ((k : Int) - 1).toNat e0).at_) == G) = (IntKind.u64.wrap ((K.getD k e0).at_ - (K.getD (k - 1) e0).at_) == G) by rw [hkk]) ?_
      refine SG.norm ?_
      conv => whnf
      refine SG.sub [] [0, 1] ⟨?_, ?_, ?_, by decide, rfl, rfl, rfl, ?_⟩ nx
      · repeat' (first | exact trivial | exact rfl | refine And.intro ?_ ?_)
      · repeat' (first | exact trivial | exact rfl | refine And.intro ?_ ?_)
      · repeat' (first | exact trivial | refine ⟨⟨_, rfl, ⟨rfl, rfl, .inl rfl, (fun h => by first | exact h | cases h), (fun h => by first | exact h | cases h), fun _ _ => rfl⟩, fun _ _ => rfl⟩, ?_⟩ | refine ⟨⟨_, rfl, ⟨rfl, rfl, .inr rfl, (fun h => by first | exact h | cases h), (fun h => by first | exact h | cases h), fun _ _ => rfl⟩, fun _ _ => rfl⟩, ?_⟩ | refine ⟨⟨_, rfl, ⟨rfl, rfl, .inr rfl, (fun h => by first | exact h | cases h), (fun h => by first | exact h | cases h), fun i hi => absurd hi (Nat.not_lt_zero i)⟩, fun i hi => absurd hi (Nat.not_lt_zero i)⟩, ?_⟩ | refine ⟨⟨_, rfl, ⟨rfl, rfl, .inl rfl, (fun h => by first | exact h | cases h), (fun h => by first | exact h | cases h), fun i hi => ren_closed (hQc i hi)⟩, fun i hi => inn_closed (hQc i hi)⟩, ?_⟩)
      · repeat' (first | exact trivial | exact rfl | refine And.intro ?_ ?_)
  · have hb : hitB G K k = true := by
      rcases hhit with h | ⟨i, h1, h2, h3⟩
      · simp [hitB, h]
      · simp only [hitB, Bool.or_eq_true, List.any_eq_true, List.mem_range, Bool.and_eq_true, decide_eq_true_eq, beq_iff_eq]
        exact .inr ⟨i, by omega, h1, h3⟩
    rw [hb]
    refine SG.walk tab_ok mx 400 [false] [] ?_
    conv => whnf
    try dsimp only [rowL, rowN, growOk, hiN, fromL, tightN, maxOk]
    try simp (disch := omega) only [wI, wU64, wU32, wU8, Int.toNat_natCast, toNat_succ, toNat_pred, Int.reduceToNat, Option.getD_some, Option.getD_none, Nat.sub_zero, Nat.zero_add]
    refine ⟨?_, ?_⟩
    · repeat' apply And.intro
      all_goals first
        | trivial
        | rfl
        | omega
        | ((try dsimp only [rowL, rowN]); simp only [beq_iff_eq, beq_eq_false_iff_ne, bne_iff_ne, bne_eq_false_iff_eq, decide_eq_true_eq, decide_eq_false_iff_not, ne_eq, Bool.not_eq_true', Bool.not_eq_false', Bool.not_eq_eq_eq_not, Bool.not_true, Bool.not_false, Option.some.injEq, Option.getD_some, Option.getD_none]; omega)
        | (simp; done)
        | (simp; omega)
    refine SG.ret tab_ok Try.func6 rfl ?_
    intro ρ w' v hm hv
    exact top_true hm hv rfl
end Go.Proofs.Ytajfcpehhhpgeaa
