/- Plans: the laws of which may be. -/
import Derived.Test.YtlbldfdkicofdaaPpA
import Derived.Test.YtlbldfdkicofdaaPlV
namespace Go.Proofs.Ytlbldfdkicofdaa
open Go.Sx Go.RowKit
set_option linter.unusedVariables false
set_option linter.unusedSimpArgs false
theorem ckX {W : Base} {B : List (Option (List At))} {Rs : List (Option Row)} {a b c : Nat} {P : List Pa} {S : List RW} {C : List Ch} {F x : Int} (h : PlanAt Rs a b c P S C) (hS : okS S) (e : chk P F S C = x) : CallOk Try.prog W B Rs 8 [planV a F b c] (hdInt x) := by rw [← e]; exact checkC h hS
/-- A plan that may be. -/
structure May (P : List Pa) (F : Int) (S : List RW) (C : List Ch) : Prop where
  F1 : 1 ≤ F
  F2 : F ≤ 4096
  p1 : 1 ≤ P.length
  p4 : P.length ≤ 4
  s1 : 1 ≤ S.length
  s3 : S.length ≤ 3
  c6 : C.length ≤ 6
  l8 : ∀ r ∈ S, r.L.length ≤ 8
  sc : ∀ r ∈ S, scanW P.length F 0 r.L = 0
  ch : ∀ c ∈ C, badCh P.length c = false
  tb : tooB P S C = false
  pb : ¬ P.any badPa = true
  cb : ¬ C.any (badCh P.length) = true
theorem May.of {P : List Pa} {F : Int} {S : List RW} {C : List Ch} (h : chk P F S C = 0) : May P F S C := by
  unfold chk at h
  split at h
  · omega
  · rename_i h1
    have h1' := Bool.eq_false_iff.2 h1
    obtain ⟨a, b, c, d⟩ := too_le h1'
    split at h
    · omega
    · rename_i h2
      split at h
      · omega
      · rename_i h3
        split at h
        · omega
        · rename_i h4
          split at h
          · rename_i h5
            split at h
            · omega
            · rename_i h6
              refine ⟨by omega, by omega, by omega, a, by omega, b, c, d, scanS_ok h5, fun x hx => ?_, h1', h3, h6⟩
              by_cases hb : badCh P.length x = true
              · exact absurd (List.any_eq_true.2 ⟨x, hx, hb⟩) h6
              · exact Bool.eq_false_iff.2 hb
          · rename_i h5; exact absurd h h5
/-- The greatest end. -/
def mxW : Int → List Wn → Int
  | e, [] => e
  | e, w :: l => mxW (if w.f + w.l > e then w.f + w.l else e) l
def mxS : Int → List RW → Int
  | e, [] => e
  | e, r :: l => mxS (mxW e r.L) l
theorem mxW_le {G : Int} : ∀ {L : List Wn} {e : Int}, mxW e L ≤ G ↔ e ≤ G ∧ ∀ w ∈ L, w.f + w.l ≤ G
  | [], e => by simp [mxW]
  | w :: l, e => by
    rw [mxW, mxW_le]
    constructor
    · rintro ⟨h1, h2⟩
      split at h1
      · exact ⟨by omega, fun x hx => by rcases List.mem_cons.1 hx with rfl | hx; exact h1; exact h2 x hx⟩
      · exact ⟨h1, fun x hx => by rcases List.mem_cons.1 hx with rfl | hx; omega; exact h2 x hx⟩
    · rintro ⟨h1, h2⟩
      have := h2 w (by simp)
      exact ⟨by split <;> omega, fun x hx => h2 x (List.mem_cons_of_mem _ hx)⟩
theorem mxS_le {G : Int} : ∀ {S : List RW} {e : Int}, mxS e S ≤ G ↔ e ≤ G ∧ ∀ r ∈ S, ∀ w ∈ r.L, w.f + w.l ≤ G
  | [], e => by simp [mxS]
  | r :: l, e => by
    rw [mxS, mxS_le, mxW_le]
    constructor
    · rintro ⟨⟨h1, h2⟩, h3⟩
      exact ⟨h1, fun x hx => by rcases List.mem_cons.1 hx with rfl | hx; exact h2; exact h3 x hx⟩
    · rintro ⟨h1, h2⟩
      exact ⟨⟨h1, h2 r (by simp)⟩, fun x hx => h2 x (List.mem_cons_of_mem _ hx)⟩
theorem scanW_moved {np F G : Int} : ∀ {L : List Wn} {e : Int}, scanW np F e L = 0 → (scanW np G e L = 0 ↔ ∀ w ∈ L, w.f + w.l ≤ G)
  | [], e, _ => by simp [scanW]
  | w :: l, e, h => by
    have hw := scanW_ok h w (by simp)
    rw [scanW] at h
    split at h
    · have ih := scanW_moved (G := G) h
      rw [scanW]
      by_cases g : w.f + w.l ≤ G
      · have hz : winE np G w e = 0 := by unfold winE; rw [if_neg (by omega), if_neg (by omega)]
        rw [if_pos hz, ih]
        exact ⟨fun h x hx => by rcases List.mem_cons.1 hx with rfl | hx; exact g; exact h x hx, fun h x hx => h x (List.mem_cons_of_mem _ hx)⟩
      · have hz : winE np G w e = 1 := by unfold winE; rw [if_pos (by omega)]
        rw [hz, if_neg (by decide)]
        exact ⟨fun h => absurd h (by decide), fun h => absurd (h w (by simp)) g⟩
    · rename_i h0; exact absurd h h0
theorem scanS_moved {np F G : Int} : ∀ {S : List RW}, (∀ r ∈ S, scanW np F 0 r.L = 0) → (scanS np G S = 0 ↔ ∀ r ∈ S, ∀ w ∈ r.L, w.f + w.l ≤ G)
  | [], _ => by simp [scanS]
  | r :: l, h => by
    have ih := scanS_moved (G := G) (fun x hx => h x (List.mem_cons_of_mem _ hx))
    have h1 := scanW_moved (G := G) (h r (by simp))
    rw [scanS]
    by_cases g : scanW np G 0 r.L = 0
    · rw [if_pos g, ih]
      exact ⟨fun k x hx => by rcases List.mem_cons.1 hx with rfl | hx; exact h1.1 g; exact k x hx, fun k x hx => k x (List.mem_cons_of_mem _ hx)⟩
    · rw [if_neg g]
      exact ⟨fun k => absurd k g, fun k => absurd (h1.2 (k r (by simp))) g⟩
theorem moved_iff {P : List Pa} {F G : Int} {S : List RW} {C : List Ch} (M : May P F S C) : chk P G S C = 0 ↔ mxS 1 S ≤ G ∧ G ≤ 4096 := by
  have p1 := M.p1
  have s1 := M.s1
  rw [mxS_le, ← scanS_moved M.sc]
  unfold chk
  rw [if_neg (by rw [M.tb]; decide), if_neg (by omega), if_neg M.pb, if_neg M.cb]
  by_cases g : G < 1 ∨ G > 4096
  · rw [if_pos g]
    exact ⟨fun h => absurd h (by decide), fun h => by omega⟩
  · rw [if_neg g]
    by_cases k : scanS P.length G S = 0
    · rw [if_pos k]; exact ⟨fun _ => ⟨⟨by omega, k⟩, by omega⟩, fun _ => rfl⟩
    · rw [if_neg k]; exact ⟨fun h => absurd h k, fun h => absurd h.1.2 k⟩
theorem wSucc {k : Nat} (h : k < 9223372036854775807) : IntKind.i64.wrap ((k : Int) + 1) = ((k + 1 : Nat) : Int) := by rw [wI (by omega) (by omega)]; simp
set_option maxHeartbeats 4000000 in
set_option maxRecDepth 100000 in
theorem windows_walk (w : World) (va vb vc : Value) (P : List Pa) (S : List RW) (C : List Ch) (F : Int) (h : PlanIn w va vb vc P S C) :
    Calls Try.prog 3 #[.agg #[va, .int .i64 F, vb, vc]] w fun e w' => e = .returned (.bool true) ∧ Below w.heap.size w w' := by
  have hS := h.s
  have htop := h.top
  obtain ⟨⟨A, na, ca, rfl⟩, ⟨B, nb, cb, rfl⟩, ⟨D, nc, cc, rfl⟩⟩ := h.forms
  refine calls_top Try.func3 rfl _ _ [planV 0 F 1 2] htop ⟨rfl, trivial⟩ ?_
  clear h htop
  by_cases hk : chk P F S C = 0
  · have M := May.of hk
    refine SG.walk tab_ok mx 400 [false] [hdB true, hdInt 0] ?_
    conv => whnf
    try dsimp only [rowL, rowN, growOk, hiN, fromL, tightN, maxOk]
    refine ⟨?_, ?_⟩
    · repeat' apply And.intro
      all_goals first
        | exact shownC
        | exact ckX (thereP rfl rfl rfl) hS hk
        | trivial
        | rfl
        | omega
        | ((try dsimp only [rowL, rowN]); simp only [beq_iff_eq, beq_eq_false_iff_ne, bne_iff_ne, bne_eq_false_iff_eq, decide_eq_true_eq, decide_eq_false_iff_not, ne_eq, Bool.not_eq_true', Bool.not_eq_false', Bool.not_eq_eq_eq_not, Bool.not_true, Bool.not_false, Option.some.injEq, Option.getD_some, Option.getD_none]; omega)
        | (simp; done)
        | (simp; omega)
    have s1 := M.s1
    have s3 := M.s3
    have f1 := M.F1
    have f2 := M.F2
    have p1 := M.p1
    have p4 := M.p4
    refine SG.loop (fun i : Nat => ⟨puts (List.replicate (Try.f3).ntmps .any) [(1, bpV 0), (3, trueV), (4, intV i)], [some [.rs 0, aI F, .rs 1, .rs 2]], [some (rowPa P), some (rowWs S), some (rowCh C)], []⟩) (fun i => i ≤ S.length) (fun i => S.length - i) (0) (Nat.zero_le _) (fun h => SG.sub [0] [0, 1, 2] ⟨?_, ?_, ?_, by decide, rfl, rfl, rfl, ?_⟩ h) ?_
    · repeat' (first | exact trivial | exact rfl | refine And.intro ?_ ?_)
    · repeat' (first | exact trivial | exact rfl | refine And.intro ?_ ?_)
    · repeat' (first | exact trivial | refine ⟨⟨_, rfl, ⟨rfl, rfl, .inl rfl, (fun h => by first | exact h | cases h), (fun h => by first | exact h | cases h), fun _ _ => rfl⟩, fun _ _ => rfl⟩, ?_⟩ | refine ⟨⟨_, rfl, ⟨rfl, rfl, .inr rfl, (fun h => by first | exact h | cases h), (fun h => by first | exact h | cases h), fun _ _ => rfl⟩, fun _ _ => rfl⟩, ?_⟩ | refine ⟨⟨_, rfl, ⟨rfl, rfl, .inr rfl, (fun h => by first | exact h | cases h), (fun h => by first | exact h | cases h), fun i hi => absurd hi (Nat.not_lt_zero i)⟩, fun i hi => absurd hi (Nat.not_lt_zero i)⟩, ?_⟩ | refine ⟨⟨_, rfl, ⟨rfl, rfl, .inl rfl, (fun h => by first | exact h | cases h), (fun h => by first | exact h | cases h), fun i hi => ren_closed (hQc i hi)⟩, fun i hi => inn_closed (hQc i hi)⟩, ?_⟩)
    · repeat' (first | exact trivial | exact rfl | refine And.intro ?_ ?_)
    intro i hi next
    by_cases hlt : i < S.length
    · have hm := getD_mem' (d := rw0) hlt
      have l8 := M.l8 _ hm
      have hsc := M.sc _ hm
      refine SG.walk tab_ok mx 400 [true] [] ?_
      conv => whnf
      try dsimp only [rowL, rowN, growOk, hiN, fromL, tightN, maxOk]
      try simp only [Int.toNat_natCast, Int.reduceToNat, Option.getD_some, Option.getD_none, Nat.sub_zero, Nat.zero_add]
      try simp (disch := omega) only [wSucc]
      refine ⟨?_, ?_⟩
      · repeat' apply And.intro
        all_goals first
          | trivial
          | rfl
          | omega
          | ((try dsimp only [rowL, rowN]); simp only [beq_iff_eq, beq_eq_false_iff_ne, bne_iff_ne, bne_eq_false_iff_eq, decide_eq_true_eq, decide_eq_false_iff_not, ne_eq, Bool.not_eq_true', Bool.not_eq_false', Bool.not_eq_eq_eq_not, Bool.not_true, Bool.not_false, Option.some.injEq, Option.getD_some, Option.getD_none]; omega)
          | (simp; done)
          | (simp; omega)
      refine SG.loop (fun ke : Nat × Int => ⟨puts (List.replicate (Try.f3).ntmps .any) [(1, bpV 0), (3, trueV), (4, intV i), (5, intV ke.2), (6, intV ke.1)], [some [.rs 0, aI F, .rs 1, .rs 2]], [some (rowPa P), some (rowWs S), some (rowCh C)], []⟩) (fun ke => ke.1 ≤ (S.getD i rw0).L.length ∧ 0 ≤ ke.2 ∧ ke.2 ≤ F ∧ scanW P.length F ke.2 ((S.getD i rw0).L.drop ke.1) = 0) (fun ke => (S.getD i rw0).L.length - ke.1) ((0, 0)) (⟨Nat.zero_le _, Int.le_refl 0, by dsimp only; omega, hsc⟩) (fun h => SG.sub [0] [0, 1, 2] ⟨?_, ?_, ?_, by decide, rfl, rfl, rfl, ?_⟩ h) ?_
      · repeat' (first | exact trivial | exact rfl | refine And.intro ?_ ?_)
      · repeat' (first | exact trivial | exact rfl | refine And.intro ?_ ?_)
      · repeat' (first | exact trivial | refine ⟨⟨_, rfl, ⟨rfl, rfl, .inl rfl, (fun h => by first | exact h | cases h), (fun h => by first | exact h | cases h), fun _ _ => rfl⟩, fun _ _ => rfl⟩, ?_⟩ | refine ⟨⟨_, rfl, ⟨rfl, rfl, .inr rfl, (fun h => by first | exact h | cases h), (fun h => by first | exact h | cases h), fun _ _ => rfl⟩, fun _ _ => rfl⟩, ?_⟩ | refine ⟨⟨_, rfl, ⟨rfl, rfl, .inr rfl, (fun h => by first | exact h | cases h), (fun h => by first | exact h | cases h), fun i hi => absurd hi (Nat.not_lt_zero i)⟩, fun i hi => absurd hi (Nat.not_lt_zero i)⟩, ?_⟩ | refine ⟨⟨_, rfl, ⟨rfl, rfl, .inl rfl, (fun h => by first | exact h | cases h), (fun h => by first | exact h | cases h), fun i hi => ren_closed (hQc i hi)⟩, fun i hi => inn_closed (hQc i hi)⟩, ?_⟩)
      · repeat' (first | exact trivial | exact rfl | refine And.intro ?_ ?_)
      rintro ⟨k, e⟩ ⟨hk1, he0, he1, hs⟩ nextk
      dsimp only at hk1 he0 he1 hs nextk ⊢
      by_cases hkt : k < (S.getD i rw0).L.length
      · rw [drop_getD (d := wn0) hkt] at hs
        have hw := scanW_ok hs _ (List.mem_cons_self ..)
        rw [scanW] at hs
        have hs' : scanW P.length F (((S.getD i rw0).L.getD k wn0).f + ((S.getD i rw0).L.getD k wn0).l) ((S.getD i rw0).L.drop (k + 1)) = 0 := by
          split at hs
          · exact hs
          · rename_i h0; exact absurd hs h0
        have hwe : IntKind.i64.wrap (((S.getD i rw0).L.getD k wn0).f + ((S.getD i rw0).L.getD k wn0).l) = ((S.getD i rw0).L.getD k wn0).f + ((S.getD i rw0).L.getD k wn0).l := wI (by omega) (by omega)
        refine SG.walk tab_ok mx 400 [true, false, false, false, false] [] ?_
        conv => whnf
        try dsimp only [rowL, rowN, growOk, hiN, fromL, tightN, maxOk]
        try simp only [Int.toNat_natCast, Int.reduceToNat, Option.getD_some, Option.getD_none, Nat.sub_zero, Nat.zero_add]
        try simp (disch := omega) only [wSucc]
        refine ⟨?_, ?_⟩
        · repeat' apply And.intro
          all_goals first
            | trivial
            | rfl
            | omega
            | ((try dsimp only [rowL, rowN]); simp only [beq_iff_eq, beq_eq_false_iff_ne, bne_iff_ne, bne_eq_false_iff_eq, decide_eq_true_eq, decide_eq_false_iff_not, ne_eq, Bool.not_eq_true', Bool.not_eq_false', Bool.not_eq_eq_eq_not, Bool.not_true, Bool.not_false, Option.some.injEq, Option.getD_some, Option.getD_none]; omega)
            | (simp; done)
            | (simp; omega)
        rw [hwe]
        refine SG.sub [0] [0, 1, 2] ⟨?_, ?_, ?_, by decide, rfl, rfl, rfl, ?_⟩ (nextk (k + 1, ((S.getD i rw0).L.getD k wn0).f + ((S.getD i rw0).L.getD k wn0).l) ⟨hkt, by dsimp only; omega, by dsimp only; omega, hs'⟩ (by dsimp only; omega))
        · repeat' (first | exact trivial | exact rfl | refine And.intro ?_ ?_)
        · repeat' (first | exact trivial | exact rfl | refine And.intro ?_ ?_)
        · repeat' (first | exact trivial | refine ⟨⟨_, rfl, ⟨rfl, rfl, .inl rfl, (fun h => by first | exact h | cases h), (fun h => by first | exact h | cases h), fun _ _ => rfl⟩, fun _ _ => rfl⟩, ?_⟩ | refine ⟨⟨_, rfl, ⟨rfl, rfl, .inr rfl, (fun h => by first | exact h | cases h), (fun h => by first | exact h | cases h), fun _ _ => rfl⟩, fun _ _ => rfl⟩, ?_⟩ | refine ⟨⟨_, rfl, ⟨rfl, rfl, .inr rfl, (fun h => by first | exact h | cases h), (fun h => by first | exact h | cases h), fun i hi => absurd hi (Nat.not_lt_zero i)⟩, fun i hi => absurd hi (Nat.not_lt_zero i)⟩, ?_⟩ | refine ⟨⟨_, rfl, ⟨rfl, rfl, .inl rfl, (fun h => by first | exact h | cases h), (fun h => by first | exact h | cases h), fun i hi => ren_closed (hQc i hi)⟩, fun i hi => inn_closed (hQc i hi)⟩, ?_⟩)
        · repeat' (first | exact trivial | exact rfl | refine And.intro ?_ ?_)
      · refine SG.walk tab_ok mx 400 [false, false, false] [] ?_
        conv => whnf
        try dsimp only [rowL, rowN, growOk, hiN, fromL, tightN, maxOk]
        try simp only [Int.toNat_natCast, Int.reduceToNat, Option.getD_some, Option.getD_none, Nat.sub_zero, Nat.zero_add]
        try simp (disch := omega) only [wSucc]
        refine ⟨?_, ?_⟩
        · repeat' apply And.intro
          all_goals first
            | trivial
            | rfl
            | omega
            | ((try dsimp only [rowL, rowN]); simp only [beq_iff_eq, beq_eq_false_iff_ne, bne_iff_ne, bne_eq_false_iff_eq, decide_eq_true_eq, decide_eq_false_iff_not, ne_eq, Bool.not_eq_true', Bool.not_eq_false', Bool.not_eq_eq_eq_not, Bool.not_true, Bool.not_false, Option.some.injEq, Option.getD_some, Option.getD_none]; omega)
            | (simp; done)
            | (simp; omega)
        refine SG.sub [0] [0, 1, 2] ⟨?_, ?_, ?_, by decide, rfl, rfl, rfl, ?_⟩ (next (i + 1) hlt (by omega))
        · repeat' (first | exact trivial | exact rfl | refine And.intro ?_ ?_)
        · repeat' (first | exact trivial | exact rfl | refine And.intro ?_ ?_)
        · repeat' (first | exact trivial | refine ⟨⟨_, rfl, ⟨rfl, rfl, .inl rfl, (fun h => by first | exact h | cases h), (fun h => by first | exact h | cases h), fun _ _ => rfl⟩, fun _ _ => rfl⟩, ?_⟩ | refine ⟨⟨_, rfl, ⟨rfl, rfl, .inr rfl, (fun h => by first | exact h | cases h), (fun h => by first | exact h | cases h), fun _ _ => rfl⟩, fun _ _ => rfl⟩, ?_⟩ | refine ⟨⟨_, rfl, ⟨rfl, rfl, .inr rfl, (fun h => by first | exact h | cases h), (fun h => by first | exact h | cases h), fun i hi => absurd hi (Nat.not_lt_zero i)⟩, fun i hi => absurd hi (Nat.not_lt_zero i)⟩, ?_⟩ | refine ⟨⟨_, rfl, ⟨rfl, rfl, .inl rfl, (fun h => by first | exact h | cases h), (fun h => by first | exact h | cases h), fun i hi => ren_closed (hQc i hi)⟩, fun i hi => inn_closed (hQc i hi)⟩, ?_⟩)
        · repeat' (first | exact trivial | exact rfl | refine And.intro ?_ ?_)
    · refine SG.walk tab_ok mx 400 [false, true, true] [] ?_
      conv => whnf
      try dsimp only [rowL, rowN, growOk, hiN, fromL, tightN, maxOk]
      try simp only [Int.toNat_natCast, Int.reduceToNat, Option.getD_some, Option.getD_none, Nat.sub_zero, Nat.zero_add]
      try simp (disch := omega) only [wSucc]
      refine ⟨?_, ?_⟩
      · repeat' apply And.intro
        all_goals first
          | trivial
          | rfl
          | omega
          | ((try dsimp only [rowL, rowN]); simp only [beq_iff_eq, beq_eq_false_iff_ne, bne_iff_ne, bne_eq_false_iff_eq, decide_eq_true_eq, decide_eq_false_iff_not, ne_eq, Bool.not_eq_true', Bool.not_eq_false', Bool.not_eq_eq_eq_not, Bool.not_true, Bool.not_false, Option.some.injEq, Option.getD_some, Option.getD_none]; omega)
          | (simp; done)
          | (simp; omega)
      refine SG.ret tab_ok Try.func3 rfl ?_
      intro ρ w' v hm hv
      exact top_v hm hv (decide_eq_true f2)
  · refine SG.walk tab_ok mx 400 [true] [hdB true, hdInt (chk P F S C)] ?_
    conv => whnf
    try dsimp only [rowL, rowN, growOk, hiN, fromL, tightN, maxOk]
    refine ⟨?_, ?_⟩
    · repeat' apply And.intro
      all_goals first
        | exact shownC
        | exact checkC (thereP rfl rfl rfl) hS
        | exact hk
        | trivial
        | rfl
        | omega
        | ((try dsimp only [rowL, rowN]); simp only [beq_iff_eq, beq_eq_false_iff_ne, bne_iff_ne, bne_eq_false_iff_eq, decide_eq_true_eq, decide_eq_false_iff_not, ne_eq, Bool.not_eq_true', Bool.not_eq_false', Bool.not_eq_eq_eq_not, Bool.not_true, Bool.not_false, Option.some.injEq, Option.getD_some, Option.getD_none]; omega)
        | (simp; done)
        | (simp; omega)
    refine SG.ret tab_ok Try.func3 rfl ?_
    intro ρ w' v hm hv
    exact top_true hm hv rfl
set_option maxHeartbeats 4000000 in
set_option maxRecDepth 100000 in
theorem chans_walk (w : World) (va vb vc : Value) (P : List Pa) (S : List RW) (C : List Ch) (F : Int) (h : PlanIn w va vb vc P S C) :
    Calls Try.prog 5 #[.agg #[va, .int .i64 F, vb, vc]] w fun e w' => e = .returned (.bool true) ∧ Below w.heap.size w w' := by
  have hS := h.s
  have htop := h.top
  obtain ⟨⟨A, na, ca, rfl⟩, ⟨B, nb, cb, rfl⟩, ⟨D, nc, cc, rfl⟩⟩ := h.forms
  refine calls_top Try.func5 rfl _ _ [planV 0 F 1 2] htop ⟨rfl, trivial⟩ ?_
  clear h htop
  by_cases hk : chk P F S C = 0
  · have M := May.of hk
    refine SG.walk tab_ok mx 400 [false] [hdB true, hdInt 0] ?_
    conv => whnf
    try dsimp only [rowL, rowN, growOk, hiN, fromL, tightN, maxOk]
    refine ⟨?_, ?_⟩
    · repeat' apply And.intro
      all_goals first
        | exact shownC
        | exact ckX (thereP rfl rfl rfl) hS hk
        | trivial
        | rfl
        | omega
        | ((try dsimp only [rowL, rowN]); simp only [beq_iff_eq, beq_eq_false_iff_ne, bne_iff_ne, bne_eq_false_iff_eq, decide_eq_true_eq, decide_eq_false_iff_not, ne_eq, Bool.not_eq_true', Bool.not_eq_false', Bool.not_eq_eq_eq_not, Bool.not_true, Bool.not_false, Option.some.injEq, Option.getD_some, Option.getD_none]; omega)
        | (simp; done)
        | (simp; omega)
    have s1 := M.s1
    have s3 := M.s3
    have c6 := M.c6
    refine SG.loop (fun i : Nat => ⟨puts (List.replicate (Try.f5).ntmps .any) [(1, bpV 0), (3, trueV), (4, intV i)], [some [.rs 0, aI F, .rs 1, .rs 2]], [some (rowPa P), some (rowWs S), some (rowCh C)], []⟩) (fun i => i ≤ C.length) (fun i => C.length - i) (0) (Nat.zero_le _) (fun h => SG.sub [0] [0, 1, 2] ⟨?_, ?_, ?_, by decide, rfl, rfl, rfl, ?_⟩ h) ?_
    · repeat' (first | exact trivial | exact rfl | refine And.intro ?_ ?_)
    · repeat' (first | exact trivial | exact rfl | refine And.intro ?_ ?_)
    · repeat' (first | exact trivial | refine ⟨⟨_, rfl, ⟨rfl, rfl, .inl rfl, (fun h => by first | exact h | cases h), (fun h => by first | exact h | cases h), fun _ _ => rfl⟩, fun _ _ => rfl⟩, ?_⟩ | refine ⟨⟨_, rfl, ⟨rfl, rfl, .inr rfl, (fun h => by first | exact h | cases h), (fun h => by first | exact h | cases h), fun _ _ => rfl⟩, fun _ _ => rfl⟩, ?_⟩ | refine ⟨⟨_, rfl, ⟨rfl, rfl, .inr rfl, (fun h => by first | exact h | cases h), (fun h => by first | exact h | cases h), fun i hi => absurd hi (Nat.not_lt_zero i)⟩, fun i hi => absurd hi (Nat.not_lt_zero i)⟩, ?_⟩ | refine ⟨⟨_, rfl, ⟨rfl, rfl, .inl rfl, (fun h => by first | exact h | cases h), (fun h => by first | exact h | cases h), fun i hi => ren_closed (hQc i hi)⟩, fun i hi => inn_closed (hQc i hi)⟩, ?_⟩)
    · repeat' (first | exact trivial | exact rfl | refine And.intro ?_ ?_)
    intro i hi next
    by_cases hlt : i < C.length
    · have hb := M.ch _ (getD_mem' (d := ch0) hlt)
      simp only [badCh, Bool.or_eq_false_iff, Bool.and_eq_false_iff, bne_eq_false_iff_eq, decide_eq_false_iff_not, beq_eq_false_iff_ne, ne_eq] at hb
      obtain ⟨b0, b1, b2, b3, b4, b5, b6, b7, b8, b9, b10⟩ := hb
      by_cases k1 : (C.getD i ch0).k = 1
      · refine SG.walk tab_ok mx 400 [true, false, false, false, false, false, false, false, false, false, true, false, false] [] ?_
        conv => whnf
        try dsimp only [rowL, rowN, growOk, hiN, fromL, tightN, maxOk]
        try simp only [Int.toNat_natCast, Int.reduceToNat, Option.getD_some, Option.getD_none, Nat.sub_zero, Nat.zero_add]
        try simp (disch := omega) only [wSucc]
        refine ⟨?_, ?_⟩
        · repeat' apply And.intro
          all_goals first
            | trivial
            | rfl
            | omega
            | ((try dsimp only [rowL, rowN]); simp only [beq_iff_eq, beq_eq_false_iff_ne, bne_iff_ne, bne_eq_false_iff_eq, decide_eq_true_eq, decide_eq_false_iff_not, ne_eq, Bool.not_eq_true', Bool.not_eq_false', Bool.not_eq_eq_eq_not, Bool.not_true, Bool.not_false, Option.some.injEq, Option.getD_some, Option.getD_none]; omega)
            | (simp; done)
            | (simp; omega)
        refine SG.sub [0] [0, 1, 2] ⟨?_, ?_, ?_, by decide, rfl, rfl, rfl, ?_⟩ (next (i + 1) hlt (by omega))
        · repeat' (first | exact trivial | exact rfl | refine And.intro ?_ ?_)
        · repeat' (first | exact trivial | exact rfl | refine And.intro ?_ ?_)
        · repeat' (first | exact trivial | refine ⟨⟨_, rfl, ⟨rfl, rfl, .inl rfl, (fun h => by first | exact h | cases h), (fun h => by first | exact h | cases h), fun _ _ => rfl⟩, fun _ _ => rfl⟩, ?_⟩ | refine ⟨⟨_, rfl, ⟨rfl, rfl, .inr rfl, (fun h => by first | exact h | cases h), (fun h => by first | exact h | cases h), fun _ _ => rfl⟩, fun _ _ => rfl⟩, ?_⟩ | refine ⟨⟨_, rfl, ⟨rfl, rfl, .inr rfl, (fun h => by first | exact h | cases h), (fun h => by first | exact h | cases h), fun i hi => absurd hi (Nat.not_lt_zero i)⟩, fun i hi => absurd hi (Nat.not_lt_zero i)⟩, ?_⟩ | refine ⟨⟨_, rfl, ⟨rfl, rfl, .inl rfl, (fun h => by first | exact h | cases h), (fun h => by first | exact h | cases h), fun i hi => ren_closed (hQc i hi)⟩, fun i hi => inn_closed (hQc i hi)⟩, ?_⟩)
        · repeat' (first | exact trivial | exact rfl | refine And.intro ?_ ?_)
      · refine SG.walk tab_ok mx 400 [true, false, false, false, false, false, false, false, false, false, false, true, false] [] ?_
        conv => whnf
        try dsimp only [rowL, rowN, growOk, hiN, fromL, tightN, maxOk]
        try simp only [Int.toNat_natCast, Int.reduceToNat, Option.getD_some, Option.getD_none, Nat.sub_zero, Nat.zero_add]
        try simp (disch := omega) only [wSucc]
        refine ⟨?_, ?_⟩
        · repeat' apply And.intro
          all_goals first
            | trivial
            | rfl
            | omega
            | ((try dsimp only [rowL, rowN]); simp only [beq_iff_eq, beq_eq_false_iff_ne, bne_iff_ne, bne_eq_false_iff_eq, decide_eq_true_eq, decide_eq_false_iff_not, ne_eq, Bool.not_eq_true', Bool.not_eq_false', Bool.not_eq_eq_eq_not, Bool.not_true, Bool.not_false, Option.some.injEq, Option.getD_some, Option.getD_none]; omega)
            | (simp; done)
            | (simp; omega)
        refine SG.sub [0] [0, 1, 2] ⟨?_, ?_, ?_, by decide, rfl, rfl, rfl, ?_⟩ (next (i + 1) hlt (by omega))
        · repeat' (first | exact trivial | exact rfl | refine And.intro ?_ ?_)
        · repeat' (first | exact trivial | exact rfl | refine And.intro ?_ ?_)
        · repeat' (first | exact trivial | refine ⟨⟨_, rfl, ⟨rfl, rfl, .inl rfl, (fun h => by first | exact h | cases h), (fun h => by first | exact h | cases h), fun _ _ => rfl⟩, fun _ _ => rfl⟩, ?_⟩ | refine ⟨⟨_, rfl, ⟨rfl, rfl, .inr rfl, (fun h => by first | exact h | cases h), (fun h => by first | exact h | cases h), fun _ _ => rfl⟩, fun _ _ => rfl⟩, ?_⟩ | refine ⟨⟨_, rfl, ⟨rfl, rfl, .inr rfl, (fun h => by first | exact h | cases h), (fun h => by first | exact h | cases h), fun i hi => absurd hi (Nat.not_lt_zero i)⟩, fun i hi => absurd hi (Nat.not_lt_zero i)⟩, ?_⟩ | refine ⟨⟨_, rfl, ⟨rfl, rfl, .inl rfl, (fun h => by first | exact h | cases h), (fun h => by first | exact h | cases h), fun i hi => ren_closed (hQc i hi)⟩, fun i hi => inn_closed (hQc i hi)⟩, ?_⟩)
        · repeat' (first | exact trivial | exact rfl | refine And.intro ?_ ?_)
    · refine SG.walk tab_ok mx 400 [false, true, true] [] ?_
      conv => whnf
      try dsimp only [rowL, rowN, growOk, hiN, fromL, tightN, maxOk]
      try simp only [Int.toNat_natCast, Int.reduceToNat, Option.getD_some, Option.getD_none, Nat.sub_zero, Nat.zero_add]
      try simp (disch := omega) only [wSucc]
      refine ⟨?_, ?_⟩
      · repeat' apply And.intro
        all_goals first
          | trivial
          | rfl
          | omega
          | ((try dsimp only [rowL, rowN]); simp only [beq_iff_eq, beq_eq_false_iff_ne, bne_iff_ne, bne_eq_false_iff_eq, decide_eq_true_eq, decide_eq_false_iff_not, ne_eq, Bool.not_eq_true', Bool.not_eq_false', Bool.not_eq_eq_eq_not, Bool.not_true, Bool.not_false, Option.some.injEq, Option.getD_some, Option.getD_none]; omega)
          | (simp; done)
          | (simp; omega)
      refine SG.ret tab_ok Try.func5 rfl ?_
      intro ρ w' v hm hv
      exact top_v hm hv (decide_eq_true (show (S.length : Int) ≤ 3 by omega))
  · refine SG.walk tab_ok mx 400 [true] [hdB true, hdInt (chk P F S C)] ?_
    conv => whnf
    try dsimp only [rowL, rowN, growOk, hiN, fromL, tightN, maxOk]
    refine ⟨?_, ?_⟩
    · repeat' apply And.intro
      all_goals first
        | exact shownC
        | exact checkC (thereP rfl rfl rfl) hS
        | exact hk
        | trivial
        | rfl
        | omega
        | ((try dsimp only [rowL, rowN]); simp only [beq_iff_eq, beq_eq_false_iff_ne, bne_iff_ne, bne_eq_false_iff_eq, decide_eq_true_eq, decide_eq_false_iff_not, ne_eq, Bool.not_eq_true', Bool.not_eq_false', Bool.not_eq_eq_eq_not, Bool.not_true, Bool.not_false, Option.some.injEq, Option.getD_some, Option.getD_none]; omega)
        | (simp; done)
        | (simp; omega)
    refine SG.ret tab_ok Try.func5 rfl ?_
    intro ρ w' v hm hv
    exact top_true hm hv rfl
set_option maxHeartbeats 4000000 in
set_option maxRecDepth 100000 in
theorem moved_walk (w : World) (va vb vc : Value) (P : List Pa) (S : List RW) (C : List Ch) (F G : Int) (h : PlanIn w va vb vc P S C) :
    Calls Try.prog 6 #[.agg #[va, .int .i64 F, vb, vc], .int .i64 G] w fun e w' => e = .returned (.bool true) ∧ Below w.heap.size w w' := by
  have hS := h.s
  have htop := h.top
  obtain ⟨⟨A, na, ca, rfl⟩, ⟨B, nb, cb, rfl⟩, ⟨D, nc, cc, rfl⟩⟩ := h.forms
  refine calls_top Try.func6 rfl _ _ [planV 0 F 1 2, intV G] htop ⟨rfl, rfl, trivial⟩ ?_
  clear h htop
  by_cases hk : chk P F S C = 0
  · have M := May.of hk
    refine SG.walk tab_ok mx 400 [false] [hdB true, hdInt 0] ?_
    conv => whnf
    try dsimp only [rowL, rowN, growOk, hiN, fromL, tightN, maxOk]
    refine ⟨?_, ?_⟩
    · repeat' apply And.intro
      all_goals first
        | exact shownC
        | exact ckX (thereP rfl rfl rfl) hS hk
        | trivial
        | rfl
        | omega
        | ((try dsimp only [rowL, rowN]); simp only [beq_iff_eq, beq_eq_false_iff_ne, bne_iff_ne, bne_eq_false_iff_eq, decide_eq_true_eq, decide_eq_false_iff_not, ne_eq, Bool.not_eq_true', Bool.not_eq_false', Bool.not_eq_eq_eq_not, Bool.not_true, Bool.not_false, Option.some.injEq, Option.getD_some, Option.getD_none]; omega)
        | (simp; done)
        | (simp; omega)
    have s1 := M.s1
    have s3 := M.s3
    have f1 := M.F1
    have f2 := M.F2
    refine SG.loop (fun ie : Nat × Int => ⟨puts (List.replicate (Try.f6).ntmps .any) [(1, intV G), (2, bpV 0), (5, trueV), (6, intV ie.2), (7, intV ie.1)], [some [.rs 0, aI F, .rs 1, .rs 2]], [some (rowPa P), some (rowWs S), some (rowCh C)], []⟩) (fun ie => ie.1 ≤ S.length ∧ 1 ≤ ie.2 ∧ ie.2 ≤ 4096 ∧ mxS 1 S = mxS ie.2 (S.drop ie.1)) (fun ie => S.length - ie.1) ((0, 1)) (⟨Nat.zero_le _, Int.le_refl 1, by dsimp only; omega, rfl⟩) (fun h => SG.sub [0] [0, 1, 2] ⟨?_, ?_, ?_, by decide, rfl, rfl, rfl, ?_⟩ h) ?_
    · repeat' (first | exact trivial | exact rfl | refine And.intro ?_ ?_)
    · repeat' (first | exact trivial | exact rfl | refine And.intro ?_ ?_)
    · repeat' (first | exact trivial | refine ⟨⟨_, rfl, ⟨rfl, rfl, .inl rfl, (fun h => by first | exact h | cases h), (fun h => by first | exact h | cases h), fun _ _ => rfl⟩, fun _ _ => rfl⟩, ?_⟩ | refine ⟨⟨_, rfl, ⟨rfl, rfl, .inr rfl, (fun h => by first | exact h | cases h), (fun h => by first | exact h | cases h), fun _ _ => rfl⟩, fun _ _ => rfl⟩, ?_⟩ | refine ⟨⟨_, rfl, ⟨rfl, rfl, .inr rfl, (fun h => by first | exact h | cases h), (fun h => by first | exact h | cases h), fun i hi => absurd hi (Nat.not_lt_zero i)⟩, fun i hi => absurd hi (Nat.not_lt_zero i)⟩, ?_⟩ | refine ⟨⟨_, rfl, ⟨rfl, rfl, .inl rfl, (fun h => by first | exact h | cases h), (fun h => by first | exact h | cases h), fun i hi => ren_closed (hQc i hi)⟩, fun i hi => inn_closed (hQc i hi)⟩, ?_⟩)
    · repeat' (first | exact trivial | exact rfl | refine And.intro ?_ ?_)
    rintro ⟨i, e⟩ ⟨hi, he0, he1, hs⟩ next
    dsimp only at hi he0 he1 hs next ⊢
    by_cases hlt : i < S.length
    · have hm := getD_mem' (d := rw0) hlt
      have l8 := M.l8 _ hm
      have hsc := scanW_ok (M.sc _ hm)
      rw [drop_getD (d := rw0) hlt, mxS] at hs
      refine SG.walk tab_ok mx 400 [true] [] ?_
      conv => whnf
      try dsimp only [rowL, rowN, growOk, hiN, fromL, tightN, maxOk]
      try simp only [Int.toNat_natCast, Int.reduceToNat, Option.getD_some, Option.getD_none, Nat.sub_zero, Nat.zero_add]
      try simp (disch := omega) only [wSucc]
      refine ⟨?_, ?_⟩
      · repeat' apply And.intro
        all_goals first
          | trivial
          | rfl
          | omega
          | ((try dsimp only [rowL, rowN]); simp only [beq_iff_eq, beq_eq_false_iff_ne, bne_iff_ne, bne_eq_false_iff_eq, decide_eq_true_eq, decide_eq_false_iff_not, ne_eq, Bool.not_eq_true', Bool.not_eq_false', Bool.not_eq_eq_eq_not, Bool.not_true, Bool.not_false, Option.some.injEq, Option.getD_some, Option.getD_none]; omega)
          | (simp; done)
          | (simp; omega)
      refine SG.loop (fun ke : Nat × Int => ⟨puts (List.replicate (Try.f6).ntmps .any) [(1, intV G), (2, bpV 0), (5, trueV), (6, intV ke.2), (7, intV i), (8, intV ke.1)], [some [.rs 0, aI F, .rs 1, .rs 2]], [some (rowPa P), some (rowWs S), some (rowCh C)], []⟩) (fun ke => ke.1 ≤ (S.getD i rw0).L.length ∧ 1 ≤ ke.2 ∧ ke.2 ≤ 4096 ∧ mxS 1 S = mxS (mxW ke.2 ((S.getD i rw0).L.drop ke.1)) (S.drop (i + 1))) (fun ke => (S.getD i rw0).L.length - ke.1) ((0, e)) (⟨Nat.zero_le _, he0, he1, hs⟩) (fun h => SG.sub [0] [0, 1, 2] ⟨?_, ?_, ?_, by decide, rfl, rfl, rfl, ?_⟩ h) ?_
      · repeat' (first | exact trivial | exact rfl | refine And.intro ?_ ?_)
      · repeat' (first | exact trivial | exact rfl | refine And.intro ?_ ?_)
      · repeat' (first | exact trivial | refine ⟨⟨_, rfl, ⟨rfl, rfl, .inl rfl, (fun h => by first | exact h | cases h), (fun h => by first | exact h | cases h), fun _ _ => rfl⟩, fun _ _ => rfl⟩, ?_⟩ | refine ⟨⟨_, rfl, ⟨rfl, rfl, .inr rfl, (fun h => by first | exact h | cases h), (fun h => by first | exact h | cases h), fun _ _ => rfl⟩, fun _ _ => rfl⟩, ?_⟩ | refine ⟨⟨_, rfl, ⟨rfl, rfl, .inr rfl, (fun h => by first | exact h | cases h), (fun h => by first | exact h | cases h), fun i hi => absurd hi (Nat.not_lt_zero i)⟩, fun i hi => absurd hi (Nat.not_lt_zero i)⟩, ?_⟩ | refine ⟨⟨_, rfl, ⟨rfl, rfl, .inl rfl, (fun h => by first | exact h | cases h), (fun h => by first | exact h | cases h), fun i hi => ren_closed (hQc i hi)⟩, fun i hi => inn_closed (hQc i hi)⟩, ?_⟩)
      · repeat' (first | exact trivial | exact rfl | refine And.intro ?_ ?_)
      rintro ⟨k, d⟩ ⟨hk1, hd0, hd1, hs⟩ nextk
      dsimp only at hk1 hd0 hd1 hs nextk ⊢
      by_cases hkt : k < (S.getD i rw0).L.length
      · have hw := hsc _ (getD_mem' (d := wn0) hkt)
        rw [drop_getD (d := wn0) hkt, mxW] at hs
        have hwe : IntKind.i64.wrap (((S.getD i rw0).L.getD k wn0).f + ((S.getD i rw0).L.getD k wn0).l) = ((S.getD i rw0).L.getD k wn0).f + ((S.getD i rw0).L.getD k wn0).l := wI (by omega) (by omega)
        by_cases g : ((S.getD i rw0).L.getD k wn0).f + ((S.getD i rw0).L.getD k wn0).l > d
        · rw [if_pos g] at hs
          refine SG.walk tab_ok mx 400 [true, true] [] ?_
          conv => whnf
          try dsimp only [rowL, rowN, growOk, hiN, fromL, tightN, maxOk]
          try simp only [Int.toNat_natCast, Int.reduceToNat, Option.getD_some, Option.getD_none, Nat.sub_zero, Nat.zero_add]
          try simp (disch := omega) only [wSucc]
          refine ⟨?_, ?_⟩
          · simp only [hwe]
            repeat' apply And.intro
            all_goals first
              | trivial
              | rfl
              | omega
              | ((try dsimp only [rowL, rowN]); simp only [beq_iff_eq, beq_eq_false_iff_ne, bne_iff_ne, bne_eq_false_iff_eq, decide_eq_true_eq, decide_eq_false_iff_not, ne_eq, Bool.not_eq_true', Bool.not_eq_false', Bool.not_eq_eq_eq_not, Bool.not_true, Bool.not_false, Option.some.injEq, Option.getD_some, Option.getD_none]; omega)
              | (simp; done)
              | (simp; omega)
          simp only [hwe]
          refine SG.sub [0] [0, 1, 2] ⟨?_, ?_, ?_, by decide, rfl, rfl, rfl, ?_⟩ (nextk (k + 1, ((S.getD i rw0).L.getD k wn0).f + ((S.getD i rw0).L.getD k wn0).l) ⟨hkt, by dsimp only; omega, by dsimp only; omega, hs⟩ (by dsimp only; omega))
          · repeat' (first | exact trivial | exact rfl | refine And.intro ?_ ?_)
          · repeat' (first | exact trivial | exact rfl | refine And.intro ?_ ?_)
          · repeat' (first | exact trivial | refine ⟨⟨_, rfl, ⟨rfl, rfl, .inl rfl, (fun h => by first | exact h | cases h), (fun h => by first | exact h | cases h), fun _ _ => rfl⟩, fun _ _ => rfl⟩, ?_⟩ | refine ⟨⟨_, rfl, ⟨rfl, rfl, .inr rfl, (fun h => by first | exact h | cases h), (fun h => by first | exact h | cases h), fun _ _ => rfl⟩, fun _ _ => rfl⟩, ?_⟩ | refine ⟨⟨_, rfl, ⟨rfl, rfl, .inr rfl, (fun h => by first | exact h | cases h), (fun h => by first | exact h | cases h), fun i hi => absurd hi (Nat.not_lt_zero i)⟩, fun i hi => absurd hi (Nat.not_lt_zero i)⟩, ?_⟩ | refine ⟨⟨_, rfl, ⟨rfl, rfl, .inl rfl, (fun h => by first | exact h | cases h), (fun h => by first | exact h | cases h), fun i hi => ren_closed (hQc i hi)⟩, fun i hi => inn_closed (hQc i hi)⟩, ?_⟩)
          · repeat' (first | exact trivial | exact rfl | refine And.intro ?_ ?_)
        · rw [if_neg g] at hs
          refine SG.walk tab_ok mx 400 [true, false] [] ?_
          conv => whnf
          try dsimp only [rowL, rowN, growOk, hiN, fromL, tightN, maxOk]
          try simp only [Int.toNat_natCast, Int.reduceToNat, Option.getD_some, Option.getD_none, Nat.sub_zero, Nat.zero_add]
          try simp (disch := omega) only [wSucc]
          refine ⟨?_, ?_⟩
          · simp only [hwe]
            repeat' apply And.intro
            all_goals first
              | trivial
              | rfl
              | omega
              | ((try dsimp only [rowL, rowN]); simp only [beq_iff_eq, beq_eq_false_iff_ne, bne_iff_ne, bne_eq_false_iff_eq, decide_eq_true_eq, decide_eq_false_iff_not, ne_eq, Bool.not_eq_true', Bool.not_eq_false', Bool.not_eq_eq_eq_not, Bool.not_true, Bool.not_false, Option.some.injEq, Option.getD_some, Option.getD_none]; omega)
              | (simp; done)
              | (simp; omega)
          refine SG.sub [0] [0, 1, 2] ⟨?_, ?_, ?_, by decide, rfl, rfl, rfl, ?_⟩ (nextk (k + 1, d) ⟨hkt, hd0, hd1, hs⟩ (by dsimp only; omega))
          · repeat' (first | exact trivial | exact rfl | refine And.intro ?_ ?_)
          · repeat' (first | exact trivial | exact rfl | refine And.intro ?_ ?_)
          · repeat' (first | exact trivial | refine ⟨⟨_, rfl, ⟨rfl, rfl, .inl rfl, (fun h => by first | exact h | cases h), (fun h => by first | exact h | cases h), fun _ _ => rfl⟩, fun _ _ => rfl⟩, ?_⟩ | refine ⟨⟨_, rfl, ⟨rfl, rfl, .inr rfl, (fun h => by first | exact h | cases h), (fun h => by first | exact h | cases h), fun _ _ => rfl⟩, fun _ _ => rfl⟩, ?_⟩ | refine ⟨⟨_, rfl, ⟨rfl, rfl, .inr rfl, (fun h => by first | exact h | cases h), (fun h => by first | exact h | cases h), fun i hi => absurd hi (Nat.not_lt_zero i)⟩, fun i hi => absurd hi (Nat.not_lt_zero i)⟩, ?_⟩ | refine ⟨⟨_, rfl, ⟨rfl, rfl, .inl rfl, (fun h => by first | exact h | cases h), (fun h => by first | exact h | cases h), fun i hi => ren_closed (hQc i hi)⟩, fun i hi => inn_closed (hQc i hi)⟩, ?_⟩)
          · repeat' (first | exact trivial | exact rfl | refine And.intro ?_ ?_)
      · rw [List.drop_eq_nil_of_le (by omega), mxW] at hs
        refine SG.walk tab_ok mx 400 [false] [] ?_
        conv => whnf
        try dsimp only [rowL, rowN, growOk, hiN, fromL, tightN, maxOk]
        try simp only [Int.toNat_natCast, Int.reduceToNat, Option.getD_some, Option.getD_none, Nat.sub_zero, Nat.zero_add]
        try simp (disch := omega) only [wSucc]
        refine ⟨?_, ?_⟩
        · repeat' apply And.intro
          all_goals first
            | trivial
            | rfl
            | omega
            | ((try dsimp only [rowL, rowN]); simp only [beq_iff_eq, beq_eq_false_iff_ne, bne_iff_ne, bne_eq_false_iff_eq, decide_eq_true_eq, decide_eq_false_iff_not, ne_eq, Bool.not_eq_true', Bool.not_eq_false', Bool.not_eq_eq_eq_not, Bool.not_true, Bool.not_false, Option.some.injEq, Option.getD_some, Option.getD_none]; omega)
            | (simp; done)
            | (simp; omega)
        refine SG.sub [0] [0, 1, 2] ⟨?_, ?_, ?_, by decide, rfl, rfl, rfl, ?_⟩ (next (i + 1, d) ⟨hlt, hd0, hd1, hs⟩ (by dsimp only; omega))
        · repeat' (first | exact trivial | exact rfl | refine And.intro ?_ ?_)
        · repeat' (first | exact trivial | exact rfl | refine And.intro ?_ ?_)
        · repeat' (first | exact trivial | refine ⟨⟨_, rfl, ⟨rfl, rfl, .inl rfl, (fun h => by first | exact h | cases h), (fun h => by first | exact h | cases h), fun _ _ => rfl⟩, fun _ _ => rfl⟩, ?_⟩ | refine ⟨⟨_, rfl, ⟨rfl, rfl, .inr rfl, (fun h => by first | exact h | cases h), (fun h => by first | exact h | cases h), fun _ _ => rfl⟩, fun _ _ => rfl⟩, ?_⟩ | refine ⟨⟨_, rfl, ⟨rfl, rfl, .inr rfl, (fun h => by first | exact h | cases h), (fun h => by first | exact h | cases h), fun i hi => absurd hi (Nat.not_lt_zero i)⟩, fun i hi => absurd hi (Nat.not_lt_zero i)⟩, ?_⟩ | refine ⟨⟨_, rfl, ⟨rfl, rfl, .inl rfl, (fun h => by first | exact h | cases h), (fun h => by first | exact h | cases h), fun i hi => ren_closed (hQc i hi)⟩, fun i hi => inn_closed (hQc i hi)⟩, ?_⟩)
        · repeat' (first | exact trivial | exact rfl | refine And.intro ?_ ?_)
    · rw [List.drop_eq_nil_of_le (by omega), mxS] at hs
      have hio := moved_iff M (G := G)
      rw [hs] at hio
      obtain ⟨x, hx⟩ : ∃ x, chk P G S C = x := ⟨_, rfl⟩
      rw [hx] at hio
      by_cases g : G ≥ e
      · refine SG.walk tab_ok mx 400 [false, true] [hdInt x] ?_
        conv => whnf
        try dsimp only [rowL, rowN, growOk, hiN, fromL, tightN, maxOk]
        try simp only [Int.toNat_natCast, Int.reduceToNat, Option.getD_some, Option.getD_none, Nat.sub_zero, Nat.zero_add]
        try simp (disch := omega) only [wSucc]
        refine ⟨?_, ?_⟩
        · repeat' apply And.intro
          all_goals first
            | exact ckX (thereP rfl rfl rfl) hS hx
            | trivial
            | rfl
            | omega
            | ((try dsimp only [rowL, rowN]); simp only [beq_iff_eq, beq_eq_false_iff_ne, bne_iff_ne, bne_eq_false_iff_eq, decide_eq_true_eq, decide_eq_false_iff_not, ne_eq, Bool.not_eq_true', Bool.not_eq_false', Bool.not_eq_eq_eq_not, Bool.not_true, Bool.not_false, Option.some.injEq, Option.getD_some, Option.getD_none]; omega)
            | (simp; done)
            | (simp; omega)
        refine SG.ret tab_ok Try.func6 rfl ?_
        intro ρ w' v hm hv
        exact top_v hm hv (by by_cases g2 : G ≤ 4096 <;> by_cases g3 : x = 0 <;> simp [g2, g3] <;> omega)
      · refine SG.walk tab_ok mx 400 [false, false] [hdInt x] ?_
        conv => whnf
        try dsimp only [rowL, rowN, growOk, hiN, fromL, tightN, maxOk]
        try simp only [Int.toNat_natCast, Int.reduceToNat, Option.getD_some, Option.getD_none, Nat.sub_zero, Nat.zero_add]
        try simp (disch := omega) only [wSucc]
        refine ⟨?_, ?_⟩
        · repeat' apply And.intro
          all_goals first
            | exact ckX (thereP rfl rfl rfl) hS hx
            | trivial
            | rfl
            | omega
            | ((try dsimp only [rowL, rowN]); simp only [beq_iff_eq, beq_eq_false_iff_ne, bne_iff_ne, bne_eq_false_iff_eq, decide_eq_true_eq, decide_eq_false_iff_not, ne_eq, Bool.not_eq_true', Bool.not_eq_false', Bool.not_eq_eq_eq_not, Bool.not_true, Bool.not_false, Option.some.injEq, Option.getD_some, Option.getD_none]; omega)
            | (simp; done)
            | (simp; omega)
        refine SG.ret tab_ok Try.func6 rfl ?_
        intro ρ w' v hm hv
        exact top_v hm hv (by by_cases g3 : x = 0 <;> simp [g3] <;> omega)
  · refine SG.walk tab_ok mx 400 [true] [hdB true, hdInt (chk P F S C)] ?_
    conv => whnf
    try dsimp only [rowL, rowN, growOk, hiN, fromL, tightN, maxOk]
    refine ⟨?_, ?_⟩
    · repeat' apply And.intro
      all_goals first
        | exact shownC
        | exact checkC (thereP rfl rfl rfl) hS
        | exact hk
        | trivial
        | rfl
        | omega
        | ((try dsimp only [rowL, rowN]); simp only [beq_iff_eq, beq_eq_false_iff_ne, bne_iff_ne, bne_eq_false_iff_eq, decide_eq_true_eq, decide_eq_false_iff_not, ne_eq, Bool.not_eq_true', Bool.not_eq_false', Bool.not_eq_eq_eq_not, Bool.not_true, Bool.not_false, Option.some.injEq, Option.getD_some, Option.getD_none]; omega)
        | (simp; done)
        | (simp; omega)
    refine SG.ret tab_ok Try.func6 rfl ?_
    intro ρ w' v hm hv
    exact top_true hm hv rfl
end Go.Proofs.Ytlbldfdkicofdaa
