/- Windows: the laws, on. -/
import Derived.Test.YtpnfjkkofdlndaaPlM
namespace Go.Proofs.Ytpnfjkkofdlndaa
open Go.Sx Go.RowKit
set_option linter.unusedVariables false
set_option linter.unusedSimpArgs false
set_option maxHeartbeats 4000000 in
set_option maxRecDepth 100000 in
theorem sums_walk (w : World) (va vb vc : Value) (P : List Pa) (S : List RW) (C : List Ch) (F i n : Int) (h : PlanIn w va vb vc P S C) :
    Calls Try.prog 7 #[.agg #[va, .int .i64 F, vb, vc], .int .i64 i, .int .i64 n] w fun e w' => e = .returned (.bool true) ∧ Below w.heap.size w w' := by
  have hS := h.s
  have hSl := h.l
  have htop := h.top
  obtain ⟨⟨A, na, ca, rfl⟩, ⟨B, nb, cb, rfl⟩, ⟨D, nc, cc, rfl⟩⟩ := h.forms
  refine calls_top Try.func7 rfl _ _ [planV 0 F 1 2, intV i, intV n] htop ⟨rfl, rfl, rfl, trivial⟩ ?_
  clear h htop
  by_cases hk : chk P F S C = 0
  · obtain ⟨hF1, hF2, hP4, _⟩ := chk_all hk
    by_cases hx : n < 0
    · refine SG.walk tab_ok mx 400 [false, true] [hdB true, hdInt 0] ?_
      conv => whnf
      try dsimp only [rowL, rowN, growOk, hiN, fromL, tightN, maxOk]
      refine ⟨?_, ?_⟩
      · repeat' apply And.intro
        all_goals first
          | exact shownC
          | exact ckX (thereP rfl rfl rfl) hS hSl hk
          | exact hx
          | trivial
          | rfl
          | omega
          | ((try dsimp only [rowL, rowN]); simp only [beq_iff_eq, beq_eq_false_iff_ne, bne_iff_ne, bne_eq_false_iff_eq, decide_eq_true_eq, decide_eq_false_iff_not, ne_eq, Bool.not_eq_true', Bool.not_eq_false', Bool.not_eq_eq_eq_not, Bool.not_true, Bool.not_false, Option.some.injEq, Option.getD_some, Option.getD_none]; omega)
          | (simp; done)
          | (simp; omega)
      refine SG.ret tab_ok Try.func7 rfl ?_
      intro ρ w' v hm hv
      exact top_true hm hv rfl
    by_cases hy : n > F
    · refine SG.walk tab_ok mx 400 [false, false, true] [hdB true, hdInt 0] ?_
      conv => whnf
      try dsimp only [rowL, rowN, growOk, hiN, fromL, tightN, maxOk]
      refine ⟨?_, ?_⟩
      · repeat' apply And.intro
        all_goals first
          | exact shownC
          | exact ckX (thereP rfl rfl rfl) hS hSl hk
          | exact hx
          | trivial
          | rfl
          | omega
          | ((try dsimp only [rowL, rowN]); simp only [beq_iff_eq, beq_eq_false_iff_ne, bne_iff_ne, bne_eq_false_iff_eq, decide_eq_true_eq, decide_eq_false_iff_not, ne_eq, Bool.not_eq_true', Bool.not_eq_false', Bool.not_eq_eq_eq_not, Bool.not_true, Bool.not_false, Option.some.injEq, Option.getD_some, Option.getD_none]; omega)
          | (simp; done)
          | (simp; omega)
      refine SG.ret tab_ok Try.func7 rfl ?_
      intro ρ w' v hm hv
      exact top_true hm hv rfl
    refine SG.walk tab_ok mx 400 [false, false, false] [hdB true, hdInt 0] ?_
    conv => whnf
    try dsimp only [rowL, rowN, growOk, hiN, fromL, tightN, maxOk]
    refine ⟨?_, ?_⟩
    · repeat' apply And.intro
      all_goals first
        | exact shownC
        | exact ckX (thereP rfl rfl rfl) hS hSl hk
        | exact hx
        | trivial
        | rfl
        | omega
        | ((try dsimp only [rowL, rowN]); simp only [beq_iff_eq, beq_eq_false_iff_ne, bne_iff_ne, bne_eq_false_iff_eq, decide_eq_true_eq, decide_eq_false_iff_not, ne_eq, Bool.not_eq_true', Bool.not_eq_false', Bool.not_eq_eq_eq_not, Bool.not_true, Bool.not_false, Option.some.injEq, Option.getD_some, Option.getD_none]; omega)
        | (simp; done)
        | (simp; omega)
    obtain ⟨N, rfl⟩ := Int.eq_ofNat_of_zero_le (show 0 ≤ n by omega)
    refine SG.loop (fun km : Nat × Int => ⟨puts (List.replicate (Try.f7).ntmps .any) [(1, intV i), (2, intV N), (3, bpV 0), (7, trueV), (8, intV km.2), (9, intV km.1)], [some [.rs 0, aI F, .rs 1, .rs 2]], [some (rowPa P), some (rowWs S), some (rowCh C)], []⟩) (fun km => km.1 ≤ P.length ∧ 0 ≤ km.2 ∧ km.2 ≤ 4096 * km.1 ∧ km.2 = sumK (fun p => frS P F S C i p N) km.1) (fun km => P.length - km.1) ((0, 0)) (⟨Nat.zero_le _, Int.le_refl 0, by simp, rfl⟩) (fun h => SG.sub [0] [0, 1, 2] ⟨?_, ?_, ?_, by decide, rfl, rfl, rfl, ?_⟩ h) ?_
    · repeat' (first | exact trivial | exact rfl | refine And.intro ?_ ?_)
    · repeat' (first | exact trivial | exact rfl | refine And.intro ?_ ?_)
    · repeat' (first | exact trivial | refine ⟨⟨_, rfl, ⟨rfl, rfl, .inl rfl, (fun h => by first | exact h | cases h), (fun h => by first | exact h | cases h), fun _ _ => rfl⟩, fun _ _ => rfl⟩, ?_⟩ | refine ⟨⟨_, rfl, ⟨rfl, rfl, .inr rfl, (fun h => by first | exact h | cases h), (fun h => by first | exact h | cases h), fun _ _ => rfl⟩, fun _ _ => rfl⟩, ?_⟩ | refine ⟨⟨_, rfl, ⟨rfl, rfl, .inr rfl, (fun h => by first | exact h | cases h), (fun h => by first | exact h | cases h), fun i hi => absurd hi (Nat.not_lt_zero i)⟩, fun i hi => absurd hi (Nat.not_lt_zero i)⟩, ?_⟩ | refine ⟨⟨_, rfl, ⟨rfl, rfl, .inl rfl, (fun h => by first | exact h | cases h), (fun h => by first | exact h | cases h), fun i hi => ren_closed (hQc i hi)⟩, fun i hi => inn_closed (hQc i hi)⟩, ?_⟩)
    · repeat' (first | exact trivial | exact rfl | refine And.intro ?_ ?_)
    rintro ⟨k, m⟩ ⟨hk1, hm0, hm1, hm⟩ next
    dsimp only at hk1 hm0 hm1 hm next ⊢
    by_cases hlt : k < P.length
    · obtain ⟨b0, b1⟩ := fr_bound (P := P) (F := F) (S := S) (C := C) (i := i) (part := (k : Int)) (n := (N : Int)) (by omega)
      have b2 := fr_mono (P := P) (F := F) (S := S) (C := C) (i := i) (part := (k : Int)) (n := (N : Int)) (by omega) (by omega)
      obtain ⟨x, hxx⟩ : ∃ x, frS P F S C i (k : Int) N = x := ⟨_, rfl⟩
      obtain ⟨y, hyy⟩ : ∃ y, frS P F S C i (k : Int) F = y := ⟨_, rfl⟩
      rw [hxx] at b0 b1
      rw [hxx, hyy] at b2
      have hm' : m + x = sumK (fun p => frS P F S C i p N) (k + 1) := by rw [sumK, hm, hxx]
      refine SG.walk tab_ok mx 400 [true, false, false, false] [hdInt x, hdInt y] ?_
      conv => whnf
      try dsimp only [rowL, rowN, growOk, hiN, fromL, tightN, maxOk]
      refine ⟨?_, ?_⟩
      · repeat' apply And.intro
        all_goals first
          | exact frX (thereP rfl rfl rfl) hS hxx
          | exact frX (thereP rfl rfl rfl) hS hyy
          | trivial
          | rfl
          | omega
          | ((try dsimp only [rowL, rowN]); simp only [beq_iff_eq, beq_eq_false_iff_ne, bne_iff_ne, bne_eq_false_iff_eq, decide_eq_true_eq, decide_eq_false_iff_not, ne_eq, Bool.not_eq_true', Bool.not_eq_false', Bool.not_eq_eq_eq_not, Bool.not_true, Bool.not_false, Option.some.injEq, Option.getD_some, Option.getD_none]; omega)
          | (simp; done)
          | (simp; omega)
      rw [show IntKind.i64.wrap ((k : Int) + 1) = ((k + 1 : Nat) : Int) from by rw [wI (by omega) (by omega)]; simp, show IntKind.i64.wrap (m + x) = m + x from wI (by omega) (by omega)]
      refine SG.sub [0] [0, 1, 2] ⟨?_, ?_, ?_, by decide, rfl, rfl, rfl, ?_⟩ (next (k + 1, m + x) ⟨hlt, by dsimp only; omega, by dsimp only; omega, hm'⟩ (by dsimp only; omega))
      · repeat' (first | exact trivial | exact rfl | refine And.intro ?_ ?_)
      · repeat' (first | exact trivial | exact rfl | refine And.intro ?_ ?_)
      · repeat' (first | exact trivial | refine ⟨⟨_, rfl, ⟨rfl, rfl, .inl rfl, (fun h => by first | exact h | cases h), (fun h => by first | exact h | cases h), fun _ _ => rfl⟩, fun _ _ => rfl⟩, ?_⟩ | refine ⟨⟨_, rfl, ⟨rfl, rfl, .inr rfl, (fun h => by first | exact h | cases h), (fun h => by first | exact h | cases h), fun _ _ => rfl⟩, fun _ _ => rfl⟩, ?_⟩ | refine ⟨⟨_, rfl, ⟨rfl, rfl, .inr rfl, (fun h => by first | exact h | cases h), (fun h => by first | exact h | cases h), fun i hi => absurd hi (Nat.not_lt_zero i)⟩, fun i hi => absurd hi (Nat.not_lt_zero i)⟩, ?_⟩ | refine ⟨⟨_, rfl, ⟨rfl, rfl, .inl rfl, (fun h => by first | exact h | cases h), (fun h => by first | exact h | cases h), fun i hi => ren_closed (hQc i hi)⟩, fun i hi => inn_closed (hQc i hi)⟩, ?_⟩)
      · repeat' (first | exact trivial | exact rfl | refine And.intro ?_ ?_)
    have hke : k = P.length := by omega
    subst hke
    have hall := fr_all (P := P) (F := F) (S := S) (C := C) (i := i) N
    rw [← hm] at hall
    refine SG.walk tab_ok mx 400 [false] [] ?_
    conv => whnf
    try dsimp only [rowL, rowN, growOk, hiN, fromL, tightN, maxOk]
    refine ⟨?_, ?_⟩
    · repeat' apply And.intro
      all_goals first
        | trivial
        | rfl
        | omega
        | ((try dsimp only [rowL, rowN]); simp only [beq_iff_eq, beq_eq_false_iff_ne, bne_iff_ne, bne_eq_false_iff_eq, decide_eq_true_eq, decide_eq_false_iff_not, ne_eq, Bool.not_eq_true', Bool.not_eq_false', Bool.not_eq_eq_eq_not, Bool.not_true, Bool.not_false, Option.some.injEq, Option.getD_some, Option.getD_none]; omega)
        | (simp; done)
        | (simp; omega)
    have hthere : ∀ r : Nat, r < N → cyN F (r : Int) = r := fun r hr => (cyN_of (F := F) (t := (r : Int)) (q := 0) (n := (r : Int)) (by omega) (by simp) (by omega) (by omega) (by omega)).1
    refine SG.loop (fun km : Nat × Int => ⟨puts (List.replicate (Try.f7).ntmps .any) [(1, intV i), (2, intV N), (3, bpV 0), (7, trueV), (8, intV m), (11, intV km.2), (12, intV km.1)], [some [.rs 0, aI F, .rs 1, .rs 2]], [some (rowPa P), some (rowWs S), some (rowCh C)], []⟩) (fun km => km.1 ≤ N ∧ km.2 = othK (cycS P F S C i) km.1) (fun km => N - km.1) ((0, 0)) (⟨Nat.zero_le _, rfl⟩) (fun h => SG.sub [0] [0, 1, 2] ⟨?_, ?_, ?_, by decide, rfl, rfl, rfl, ?_⟩ h) ?_
    · repeat' (first | exact trivial | exact rfl | refine And.intro ?_ ?_)
    · repeat' (first | exact trivial | exact rfl | refine And.intro ?_ ?_)
    · repeat' (first | exact trivial | refine ⟨⟨_, rfl, ⟨rfl, rfl, .inl rfl, (fun h => by first | exact h | cases h), (fun h => by first | exact h | cases h), fun _ _ => rfl⟩, fun _ _ => rfl⟩, ?_⟩ | refine ⟨⟨_, rfl, ⟨rfl, rfl, .inr rfl, (fun h => by first | exact h | cases h), (fun h => by first | exact h | cases h), fun _ _ => rfl⟩, fun _ _ => rfl⟩, ?_⟩ | refine ⟨⟨_, rfl, ⟨rfl, rfl, .inr rfl, (fun h => by first | exact h | cases h), (fun h => by first | exact h | cases h), fun i hi => absurd hi (Nat.not_lt_zero i)⟩, fun i hi => absurd hi (Nat.not_lt_zero i)⟩, ?_⟩ | refine ⟨⟨_, rfl, ⟨rfl, rfl, .inl rfl, (fun h => by first | exact h | cases h), (fun h => by first | exact h | cases h), fun i hi => ren_closed (hQc i hi)⟩, fun i hi => inn_closed (hQc i hi)⟩, ?_⟩)
    · repeat' (first | exact trivial | exact rfl | refine And.intro ?_ ?_)
    rintro ⟨r, o⟩ ⟨hr1, ho⟩ next
    dsimp only at hr1 ho next ⊢
    have hob := oth_le (cycS P F S C i) r
    rw [← ho] at hob
    by_cases hlt : r < N
    · have hr2 := hthere r hlt
      have hw1 : IntKind.u64.wrap (r : Int) = r := wU64 (by omega) (by omega)
      have htr : 0 ≤ (r : Int) ∧ (r : Int) ≤ 18446744073709551615 := by omega
      obtain ⟨x, hxx⟩ : ∃ x, cycS P F S C i r = x := ⟨_, rfl⟩
      have hxx' : cycS P F S C i (cyN F r) = x := by rw [hr2]; exact hxx
      have hat : ∀ {W : Base} {B : List (Option (List At))} {Rs : List (Option Row)} {a b c : Nat}, PlanAt Rs a b c P S C → CallOk Try.prog W B Rs 11 [planV a F b c, intV i, u64V (r : Int)] (hdC x) := fun h => atX h hS htr hxx'
      by_cases g : x.2 = 2
      · have ho' : o = othK (cycS P F S C i) (r + 1) := by rw [othK, hxx, if_neg (by omega), ← ho]; omega
        refine SG.walk tab_ok mx 400 [true, false] [hdC x] ?_
        conv => whnf
        try dsimp only [rowL, rowN, growOk, hiN, fromL, tightN, maxOk]
        refine ⟨?_, ?_⟩
        · simp only [hw1]
          repeat' apply And.intro
          all_goals first
            | exact hat (thereP rfl rfl rfl)
            | trivial
            | rfl
            | omega
            | ((try dsimp only [rowL, rowN]); simp only [beq_iff_eq, beq_eq_false_iff_ne, bne_iff_ne, bne_eq_false_iff_eq, decide_eq_true_eq, decide_eq_false_iff_not, ne_eq, Bool.not_eq_true', Bool.not_eq_false', Bool.not_eq_eq_eq_not, Bool.not_true, Bool.not_false, Option.some.injEq, Option.getD_some, Option.getD_none]; omega)
            | (simp; done)
            | (simp; omega)
        rw [show IntKind.i64.wrap ((r : Int) + 1) = ((r + 1 : Nat) : Int) from by rw [wI (by omega) (by omega)]; simp]
        refine SG.sub [0] [0, 1, 2] ⟨?_, ?_, ?_, by decide, rfl, rfl, rfl, ?_⟩ (next (r + 1, o) ⟨hlt, ho'⟩ (by dsimp only; omega))
        · repeat' (first | exact trivial | exact rfl | refine And.intro ?_ ?_)
        · repeat' (first | exact trivial | exact rfl | refine And.intro ?_ ?_)
        · repeat' (first | exact trivial | refine ⟨⟨_, rfl, ⟨rfl, rfl, .inl rfl, (fun h => by first | exact h | cases h), (fun h => by first | exact h | cases h), fun _ _ => rfl⟩, fun _ _ => rfl⟩, ?_⟩ | refine ⟨⟨_, rfl, ⟨rfl, rfl, .inr rfl, (fun h => by first | exact h | cases h), (fun h => by first | exact h | cases h), fun _ _ => rfl⟩, fun _ _ => rfl⟩, ?_⟩ | refine ⟨⟨_, rfl, ⟨rfl, rfl, .inr rfl, (fun h => by first | exact h | cases h), (fun h => by first | exact h | cases h), fun i hi => absurd hi (Nat.not_lt_zero i)⟩, fun i hi => absurd hi (Nat.not_lt_zero i)⟩, ?_⟩ | refine ⟨⟨_, rfl, ⟨rfl, rfl, .inl rfl, (fun h => by first | exact h | cases h), (fun h => by first | exact h | cases h), fun i hi => ren_closed (hQc i hi)⟩, fun i hi => inn_closed (hQc i hi)⟩, ?_⟩)
        · repeat' (first | exact trivial | exact rfl | refine And.intro ?_ ?_)
      · have ho' : o + 1 = othK (cycS P F S C i) (r + 1) := by rw [othK, hxx, if_pos g, ← ho]
        refine SG.walk tab_ok mx 400 [true, true] [hdC x] ?_
        conv => whnf
        try dsimp only [rowL, rowN, growOk, hiN, fromL, tightN, maxOk]
        refine ⟨?_, ?_⟩
        · simp only [hw1]
          repeat' apply And.intro
          all_goals first
            | exact hat (thereP rfl rfl rfl)
            | trivial
            | rfl
            | omega
            | ((try dsimp only [rowL, rowN]); simp only [beq_iff_eq, beq_eq_false_iff_ne, bne_iff_ne, bne_eq_false_iff_eq, decide_eq_true_eq, decide_eq_false_iff_not, ne_eq, Bool.not_eq_true', Bool.not_eq_false', Bool.not_eq_eq_eq_not, Bool.not_true, Bool.not_false, Option.some.injEq, Option.getD_some, Option.getD_none]; omega)
            | (simp; done)
            | (simp; omega)
        rw [show IntKind.i64.wrap ((r : Int) + 1) = ((r + 1 : Nat) : Int) from by rw [wI (by omega) (by omega)]; simp, show IntKind.i64.wrap (o + 1) = o + 1 from wI (by omega) (by omega)]
        refine SG.sub [0] [0, 1, 2] ⟨?_, ?_, ?_, by decide, rfl, rfl, rfl, ?_⟩ (next (r + 1, o + 1) ⟨hlt, ho'⟩ (by dsimp only; omega))
        · repeat' (first | exact trivial | exact rfl | refine And.intro ?_ ?_)
        · repeat' (first | exact trivial | exact rfl | refine And.intro ?_ ?_)
        · repeat' (first | exact trivial | refine ⟨⟨_, rfl, ⟨rfl, rfl, .inl rfl, (fun h => by first | exact h | cases h), (fun h => by first | exact h | cases h), fun _ _ => rfl⟩, fun _ _ => rfl⟩, ?_⟩ | refine ⟨⟨_, rfl, ⟨rfl, rfl, .inr rfl, (fun h => by first | exact h | cases h), (fun h => by first | exact h | cases h), fun _ _ => rfl⟩, fun _ _ => rfl⟩, ?_⟩ | refine ⟨⟨_, rfl, ⟨rfl, rfl, .inr rfl, (fun h => by first | exact h | cases h), (fun h => by first | exact h | cases h), fun i hi => absurd hi (Nat.not_lt_zero i)⟩, fun i hi => absurd hi (Nat.not_lt_zero i)⟩, ?_⟩ | refine ⟨⟨_, rfl, ⟨rfl, rfl, .inl rfl, (fun h => by first | exact h | cases h), (fun h => by first | exact h | cases h), fun i hi => ren_closed (hQc i hi)⟩, fun i hi => inn_closed (hQc i hi)⟩, ?_⟩)
        · repeat' (first | exact trivial | exact rfl | refine And.intro ?_ ?_)
    have hre : r = N := by omega
    subst hre
    rw [← ho] at hall
    refine SG.walk tab_ok mx 400 [false] [] ?_
    conv => whnf
    try dsimp only [rowL, rowN, growOk, hiN, fromL, tightN, maxOk]
    refine ⟨?_, ?_⟩
    · repeat' apply And.intro
      all_goals first
        | trivial
        | rfl
        | omega
        | ((try dsimp only [rowL, rowN]); simp only [beq_iff_eq, beq_eq_false_iff_ne, bne_iff_ne, bne_eq_false_iff_eq, decide_eq_true_eq, decide_eq_false_iff_not, ne_eq, Bool.not_eq_true', Bool.not_eq_false', Bool.not_eq_eq_eq_not, Bool.not_true, Bool.not_false, Option.some.injEq, Option.getD_some, Option.getD_none]; omega)
        | (simp; done)
        | (simp; omega)
    rw [show IntKind.i64.wrap (m + o) = m + o from wI (by omega) (by omega)]
    refine SG.ret tab_ok Try.func7 rfl ?_
    intro ρ w' v hm hv
    exact top_v hm hv (beq_iff_eq.2 hall)
  · refine SG.walk tab_ok mx 400 [true] [hdB true, hdInt (chk P F S C)] ?_
    conv => whnf
    try dsimp only [rowL, rowN, growOk, hiN, fromL, tightN, maxOk]
    refine ⟨?_, ?_⟩
    · repeat' apply And.intro
      all_goals first
        | exact shownC
        | exact rCheckC (thereP rfl rfl rfl) hS hSl
        | exact hk
        | trivial
        | rfl
        | omega
        | ((try dsimp only [rowL, rowN]); simp only [beq_iff_eq, beq_eq_false_iff_ne, bne_iff_ne, bne_eq_false_iff_eq, decide_eq_true_eq, decide_eq_false_iff_not, ne_eq, Bool.not_eq_true', Bool.not_eq_false', Bool.not_eq_eq_eq_not, Bool.not_true, Bool.not_false, Option.some.injEq, Option.getD_some, Option.getD_none]; omega)
        | (simp; done)
        | (simp; omega)
    refine SG.ret tab_ok Try.func7 rfl ?_
    intro ρ w' v hm hv
    exact top_true hm hv rfl
set_option maxHeartbeats 4000000 in
set_option maxRecDepth 100000 in
theorem one_walk (w : World) (va vb vc : Value) (P : List Pa) (S : List RW) (C : List Ch) (F i t : Int) (h : PlanIn w va vb vc P S C) (ht : 0 ≤ t ∧ t ≤ 18446744073709551615) :
    Calls Try.prog 8 #[.agg #[va, .int .i64 F, vb, vc], .int .i64 i, .int .u64 t] w fun e w' => e = .returned (.bool true) ∧ Below w.heap.size w w' := by
  have hS := h.s
  have hSl := h.l
  have htop := h.top
  obtain ⟨⟨A, na, ca, rfl⟩, ⟨B, nb, cb, rfl⟩, ⟨D, nc, cc, rfl⟩⟩ := h.forms
  refine calls_top Try.func8 rfl _ _ [planV 0 F 1 2, intV i, u64V t] htop ⟨rfl, rfl, rfl, trivial⟩ ?_
  clear h htop
  by_cases hk : chk P F S C = 0
  · obtain ⟨hF1, hF2, hP4, _⟩ := chk_all hk
    by_cases hx : t > 4611686018427387904
    · refine SG.walk tab_ok mx 400 [false, true] [hdB true, hdInt 0] ?_
      conv => whnf
      try dsimp only [rowL, rowN, growOk, hiN, fromL, tightN, maxOk]
      refine ⟨?_, ?_⟩
      · repeat' apply And.intro
        all_goals first
          | exact shownC
          | exact ckX (thereP rfl rfl rfl) hS hSl hk
          | exact hx
          | trivial
          | rfl
          | omega
          | ((try dsimp only [rowL, rowN]); simp only [beq_iff_eq, beq_eq_false_iff_ne, bne_iff_ne, bne_eq_false_iff_eq, decide_eq_true_eq, decide_eq_false_iff_not, ne_eq, Bool.not_eq_true', Bool.not_eq_false', Bool.not_eq_eq_eq_not, Bool.not_true, Bool.not_false, Option.some.injEq, Option.getD_some, Option.getD_none]; omega)
          | (simp; done)
          | (simp; omega)
      refine SG.ret tab_ok Try.func8 rfl ?_
      intro ρ w' v hm hv
      exact top_true hm hv rfl
    refine SG.walk tab_ok mx 400 [false, false] [hdB true, hdInt 0] ?_
    conv => whnf
    try dsimp only [rowL, rowN, growOk, hiN, fromL, tightN, maxOk]
    refine ⟨?_, ?_⟩
    · repeat' apply And.intro
      all_goals first
        | exact shownC
        | exact ckX (thereP rfl rfl rfl) hS hSl hk
        | exact hx
        | trivial
        | rfl
        | omega
        | ((try dsimp only [rowL, rowN]); simp only [beq_iff_eq, beq_eq_false_iff_ne, bne_iff_ne, bne_eq_false_iff_eq, decide_eq_true_eq, decide_eq_false_iff_not, ne_eq, Bool.not_eq_true', Bool.not_eq_false', Bool.not_eq_eq_eq_not, Bool.not_true, Bool.not_false, Option.some.injEq, Option.getD_some, Option.getD_none]; omega)
        | (simp; done)
        | (simp; omega)
    obtain ⟨c, hcc⟩ : ∃ c, cycS P F S C i (cyN F t) = c := ⟨_, rfl⟩
    have hkind := cyc_kindS (P := P) (F := F) (S := S) (C := C) (i := i) (n := cyN F t)
    rw [hcc] at hkind
    have ht1 : 0 ≤ t + 1 ∧ t + 1 ≤ 18446744073709551615 := by omega
    have hw1 : IntKind.u64.wrap (t + 1) = t + 1 := wU64 (by omega) (by omega)
    refine SG.loop (fun km : Nat × Int => ⟨puts (List.replicate (Try.f8).ntmps .any) [(1, intV i), (2, u64V t), (3, bpV 0), (7, trueV), (8, u64V km.2), (9, intV km.1)], [some [.rs 0, aI F, .rs 1, .rs 2]], [some (rowPa P), some (rowWs S), some (rowCh C)], []⟩) (fun km => km.1 ≤ P.length ∧ 0 ≤ km.2 ∧ km.2 ≤ km.1 ∧ km.2 = sumK (fun p => ownB p c) km.1) (fun km => P.length - km.1) ((0, 0)) (⟨Nat.zero_le _, Int.le_refl 0, by simp, rfl⟩) (fun h => SG.sub [0] [0, 1, 2] ⟨?_, ?_, ?_, by decide, rfl, rfl, rfl, ?_⟩ h) ?_
    · repeat' (first | exact trivial | exact rfl | refine And.intro ?_ ?_)
    · repeat' (first | exact trivial | exact rfl | refine And.intro ?_ ?_)
    · repeat' (first | exact trivial | refine ⟨⟨_, rfl, ⟨rfl, rfl, .inl rfl, (fun h => by first | exact h | cases h), (fun h => by first | exact h | cases h), fun _ _ => rfl⟩, fun _ _ => rfl⟩, ?_⟩ | refine ⟨⟨_, rfl, ⟨rfl, rfl, .inr rfl, (fun h => by first | exact h | cases h), (fun h => by first | exact h | cases h), fun _ _ => rfl⟩, fun _ _ => rfl⟩, ?_⟩ | refine ⟨⟨_, rfl, ⟨rfl, rfl, .inr rfl, (fun h => by first | exact h | cases h), (fun h => by first | exact h | cases h), fun i hi => absurd hi (Nat.not_lt_zero i)⟩, fun i hi => absurd hi (Nat.not_lt_zero i)⟩, ?_⟩ | refine ⟨⟨_, rfl, ⟨rfl, rfl, .inl rfl, (fun h => by first | exact h | cases h), (fun h => by first | exact h | cases h), fun i hi => ren_closed (hQc i hi)⟩, fun i hi => inn_closed (hQc i hi)⟩, ?_⟩)
    · repeat' (first | exact trivial | exact rfl | refine And.intro ?_ ?_)
    rintro ⟨k, m⟩ ⟨hk1, hm0, hm1, hm⟩ next
    dsimp only at hk1 hm0 hm1 hm next ⊢
    by_cases hlt : k < P.length
    · have hst := gr_step (P := P) (F := F) (S := S) (C := C) (i := i) (part := (k : Int)) ht.1
      have hbd := gr_bound (P := P) (F := F) (S := S) (C := C) (i := i) (part := (k : Int)) ht
      rw [hcc] at hst
      obtain ⟨y, hyy⟩ : ∃ y, grS P F S C i (k : Int) t = y := ⟨_, rfl⟩
      rw [hyy] at hst hbd
      have hob : 0 ≤ ownB (k : Int) c ∧ ownB (k : Int) c ≤ 1 := by unfold ownB; split <;> omega
      have hm' : m + ownB (k : Int) c = sumK (fun p => ownB p c) (k + 1) := by rw [sumK, hm]
      refine SG.walk tab_ok mx 400 [true] [hdU (y + ownB (k : Int) c), hdU y] ?_
      conv => whnf
      try dsimp only [rowL, rowN, growOk, hiN, fromL, tightN, maxOk]
      refine ⟨?_, ?_⟩
      · simp only [hw1]
        repeat' apply And.intro
        all_goals first
          | exact grX (thereP rfl rfl rfl) hS ht1 hst
          | exact grX (thereP rfl rfl rfl) hS ht hyy
          | trivial
          | rfl
          | omega
          | ((try dsimp only [rowL, rowN]); simp only [beq_iff_eq, beq_eq_false_iff_ne, bne_iff_ne, bne_eq_false_iff_eq, decide_eq_true_eq, decide_eq_false_iff_not, ne_eq, Bool.not_eq_true', Bool.not_eq_false', Bool.not_eq_eq_eq_not, Bool.not_true, Bool.not_false, Option.some.injEq, Option.getD_some, Option.getD_none]; omega)
          | (simp; done)
          | (simp; omega)
      rw [show IntKind.i64.wrap ((k : Int) + 1) = ((k + 1 : Nat) : Int) from by rw [wI (by omega) (by omega)]; simp, show IntKind.u64.wrap (m + (y + ownB (k : Int) c)) = m + (y + ownB (k : Int) c) from wU64 (by omega) (by omega), show IntKind.u64.wrap (m + (y + ownB (k : Int) c) - y) = m + ownB (k : Int) c from by rw [wU64 (by omega) (by omega)]; omega]
      refine SG.sub [0] [0, 1, 2] ⟨?_, ?_, ?_, by decide, rfl, rfl, rfl, ?_⟩ (next (k + 1, m + ownB (k : Int) c) ⟨hlt, by dsimp only; omega, by dsimp only; omega, hm'⟩ (by dsimp only; omega))
      · repeat' (first | exact trivial | exact rfl | refine And.intro ?_ ?_)
      · repeat' (first | exact trivial | exact rfl | refine And.intro ?_ ?_)
      · repeat' (first | exact trivial | refine ⟨⟨_, rfl, ⟨rfl, rfl, .inl rfl, (fun h => by first | exact h | cases h), (fun h => by first | exact h | cases h), fun _ _ => rfl⟩, fun _ _ => rfl⟩, ?_⟩ | refine ⟨⟨_, rfl, ⟨rfl, rfl, .inr rfl, (fun h => by first | exact h | cases h), (fun h => by first | exact h | cases h), fun _ _ => rfl⟩, fun _ _ => rfl⟩, ?_⟩ | refine ⟨⟨_, rfl, ⟨rfl, rfl, .inr rfl, (fun h => by first | exact h | cases h), (fun h => by first | exact h | cases h), fun i hi => absurd hi (Nat.not_lt_zero i)⟩, fun i hi => absurd hi (Nat.not_lt_zero i)⟩, ?_⟩ | refine ⟨⟨_, rfl, ⟨rfl, rfl, .inl rfl, (fun h => by first | exact h | cases h), (fun h => by first | exact h | cases h), fun i hi => ren_closed (hQc i hi)⟩, fun i hi => inn_closed (hQc i hi)⟩, ?_⟩)
      · repeat' (first | exact trivial | exact rfl | refine And.intro ?_ ?_)
    have hke : k = P.length := by omega
    subst hke
    rw [sumK_one] at hm
    have hq1 : 0 ≤ c.1 → (((1 : Int) == 0) == (c.1 == -1)) = true := fun h => by rw [beq_eq_false_iff_ne.2 (show c.1 ≠ -1 by omega)]; rfl
    have hq2 : 0 ≤ c.1 → (((2 : Int) == 0) == (c.1 == -1)) = true := fun h => by rw [beq_eq_false_iff_ne.2 (show c.1 ≠ -1 by omega)]; rfl
    rcases hkind with hz | ⟨z0, z1, z2 | z2⟩
    · rw [hz] at hm hcc
      rw [if_neg (by simp)] at hm
      subst hm
      refine SG.walk tab_ok mx 400 [false, true, true, true] [hdC (-1, 0)] ?_
      conv => whnf
      try dsimp only [rowL, rowN, growOk, hiN, fromL, tightN, maxOk]
      refine ⟨?_, ?_⟩
      · repeat' apply And.intro
        all_goals first
          | exact atX (thereP rfl rfl rfl) hS ht hcc
          | trivial
          | rfl
          | omega
          | ((try dsimp only [rowL, rowN]); simp only [beq_iff_eq, beq_eq_false_iff_ne, bne_iff_ne, bne_eq_false_iff_eq, decide_eq_true_eq, decide_eq_false_iff_not, ne_eq, Bool.not_eq_true', Bool.not_eq_false', Bool.not_eq_eq_eq_not, Bool.not_true, Bool.not_false, Option.some.injEq, Option.getD_some, Option.getD_none]; omega)
          | (simp; done)
          | (simp; omega)
      refine SG.ret tab_ok Try.func8 rfl ?_
      intro ρ w' v hm hv
      exact top_v hm hv (by simp; omega)
    · rw [if_neg (by omega)] at hm
      subst hm
      have hcc' : cycS P F S C i (cyN F t) = (c.1, 1) := by rw [hcc]; exact Prod.ext rfl z2
      refine SG.walk tab_ok mx 400 [false, true, true, true] [hdC (c.1, 1)] ?_
      conv => whnf
      try dsimp only [rowL, rowN, growOk, hiN, fromL, tightN, maxOk]
      refine ⟨?_, ?_⟩
      · repeat' apply And.intro
        all_goals first
          | exact atX (thereP rfl rfl rfl) hS ht hcc'
          | exact hq1 z0
          | exact hq2 z0
          | trivial
          | rfl
          | omega
          | ((try dsimp only [rowL, rowN]); simp only [beq_iff_eq, beq_eq_false_iff_ne, bne_iff_ne, bne_eq_false_iff_eq, decide_eq_true_eq, decide_eq_false_iff_not, ne_eq, Bool.not_eq_true', Bool.not_eq_false', Bool.not_eq_eq_eq_not, Bool.not_true, Bool.not_false, Option.some.injEq, Option.getD_some, Option.getD_none]; omega)
          | (simp; done)
          | (simp; omega)
      refine SG.ret tab_ok Try.func8 rfl ?_
      intro ρ w' v hm hv
      exact top_v hm hv (by simpa using z1)
    · rw [if_pos ⟨z2, z0, z1⟩] at hm
      subst hm
      have hcc' : cycS P F S C i (cyN F t) = (c.1, 2) := by rw [hcc]; exact Prod.ext rfl z2
      refine SG.walk tab_ok mx 400 [false, true, true, true] [hdC (c.1, 2)] ?_
      conv => whnf
      try dsimp only [rowL, rowN, growOk, hiN, fromL, tightN, maxOk]
      refine ⟨?_, ?_⟩
      · repeat' apply And.intro
        all_goals first
          | exact atX (thereP rfl rfl rfl) hS ht hcc'
          | exact hq1 z0
          | exact hq2 z0
          | trivial
          | rfl
          | omega
          | ((try dsimp only [rowL, rowN]); simp only [beq_iff_eq, beq_eq_false_iff_ne, bne_iff_ne, bne_eq_false_iff_eq, decide_eq_true_eq, decide_eq_false_iff_not, ne_eq, Bool.not_eq_true', Bool.not_eq_false', Bool.not_eq_eq_eq_not, Bool.not_true, Bool.not_false, Option.some.injEq, Option.getD_some, Option.getD_none]; omega)
          | (simp; done)
          | (simp; omega)
      refine SG.ret tab_ok Try.func8 rfl ?_
      intro ρ w' v hm hv
      exact top_v hm hv (by simpa using z1)
  · refine SG.walk tab_ok mx 400 [true] [hdB true, hdInt (chk P F S C)] ?_
    conv => whnf
    try dsimp only [rowL, rowN, growOk, hiN, fromL, tightN, maxOk]
    refine ⟨?_, ?_⟩
    · repeat' apply And.intro
      all_goals first
        | exact shownC
        | exact rCheckC (thereP rfl rfl rfl) hS hSl
        | exact hk
        | trivial
        | rfl
        | omega
        | ((try dsimp only [rowL, rowN]); simp only [beq_iff_eq, beq_eq_false_iff_ne, bne_iff_ne, bne_eq_false_iff_eq, decide_eq_true_eq, decide_eq_false_iff_not, ne_eq, Bool.not_eq_true', Bool.not_eq_false', Bool.not_eq_eq_eq_not, Bool.not_true, Bool.not_false, Option.some.injEq, Option.getD_some, Option.getD_none]; omega)
        | (simp; done)
        | (simp; omega)
    refine SG.ret tab_ok Try.func8 rfl ?_
    intro ρ w' v hm hv
    exact top_true hm hv rfl
set_option maxHeartbeats 4000000 in
set_option maxRecDepth 100000 in
theorem grants_walk (w : World) (va vb vc : Value) (P : List Pa) (S : List RW) (C : List Ch) (F i j t : Int) (h : PlanIn w va vb vc P S C) (ht : 0 ≤ t ∧ t ≤ 18446744073709551615) :
    Calls Try.prog 6 #[.agg #[va, .int .i64 F, vb, vc, .int .i64 i, .int .i64 j, .int .u64 t]] w fun e w' => e = .returned (.bool true) ∧ Below w.heap.size w w' := by
  have hS := h.s
  have hSl := h.l
  have htop := h.top
  obtain ⟨⟨A, na, ca, rfl⟩, ⟨B, nb, cb, rfl⟩, ⟨D, nc, cc, rfl⟩⟩ := h.forms
  refine calls_top Try.func6 rfl _ _ [.cv (.agg [.rs 0, aI F, .rs 1, .rs 2, aI i, aI j, .v (.int .u64 t)])] htop ⟨rfl, trivial⟩ ?_
  clear h htop
  by_cases hk : chk P F S C = 0
  · obtain ⟨hF1, hF2, hP4, _⟩ := chk_all hk
    by_cases hi0 : i < 0
    · refine SG.walk tab_ok mx 400 [false, true] [hdB true, hdInt 0] ?_
      conv => whnf
      try dsimp only [rowL, rowN, growOk, hiN, fromL, tightN, maxOk]
      refine ⟨?_, ?_⟩
      · repeat' apply And.intro
        all_goals first
          | exact shownC
          | exact ckX (thereP rfl rfl rfl) hS hSl hk
          | exact hi0
          | trivial
          | rfl
          | omega
          | ((try dsimp only [rowL, rowN]); simp only [beq_iff_eq, beq_eq_false_iff_ne, bne_iff_ne, bne_eq_false_iff_eq, decide_eq_true_eq, decide_eq_false_iff_not, ne_eq, Bool.not_eq_true', Bool.not_eq_false', Bool.not_eq_eq_eq_not, Bool.not_true, Bool.not_false, Option.some.injEq, Option.getD_some, Option.getD_none]; omega)
          | (simp; done)
          | (simp; omega)
      refine SG.ret tab_ok Try.func6 rfl ?_
      intro ρ w' v hm hv
      exact top_true hm hv rfl
    by_cases hi1 : i ≥ S.length
    · refine SG.walk tab_ok mx 400 [false, false, true] [hdB true, hdInt 0] ?_
      conv => whnf
      try dsimp only [rowL, rowN, growOk, hiN, fromL, tightN, maxOk]
      refine ⟨?_, ?_⟩
      · repeat' apply And.intro
        all_goals first
          | exact shownC
          | exact ckX (thereP rfl rfl rfl) hS hSl hk
          | exact hi0
          | trivial
          | rfl
          | omega
          | ((try dsimp only [rowL, rowN]); simp only [beq_iff_eq, beq_eq_false_iff_ne, bne_iff_ne, bne_eq_false_iff_eq, decide_eq_true_eq, decide_eq_false_iff_not, ne_eq, Bool.not_eq_true', Bool.not_eq_false', Bool.not_eq_eq_eq_not, Bool.not_true, Bool.not_false, Option.some.injEq, Option.getD_some, Option.getD_none]; omega)
          | (simp; done)
          | (simp; omega)
      refine SG.ret tab_ok Try.func6 rfl ?_
      intro ρ w' v hm hv
      exact top_true hm hv rfl
    have hb : thereB P F S C i = true := by simp [thereB, hk]; omega
    have T := There.of hb
    have t1 := T.i1
    by_cases hj0 : j < 0
    · refine SG.walk tab_ok mx 400 [false, false, false, true] [hdB true, hdInt 0] ?_
      conv => whnf
      try dsimp only [rowL, rowN, growOk, hiN, fromL, tightN, maxOk]
      refine ⟨?_, ?_⟩
      · repeat' apply And.intro
        all_goals first
          | exact shownC
          | exact ckX (thereP rfl rfl rfl) hS hSl hk
          | exact hi0
          | trivial
          | rfl
          | omega
          | ((try dsimp only [rowL, rowN]); simp only [beq_iff_eq, beq_eq_false_iff_ne, bne_iff_ne, bne_eq_false_iff_eq, decide_eq_true_eq, decide_eq_false_iff_not, ne_eq, Bool.not_eq_true', Bool.not_eq_false', Bool.not_eq_eq_eq_not, Bool.not_true, Bool.not_false, Option.some.injEq, Option.getD_some, Option.getD_none]; omega)
          | (simp; done)
          | (simp; omega)
      refine SG.ret tab_ok Try.func6 rfl ?_
      intro ρ w' v hm hv
      exact top_true hm hv rfl
    by_cases hj1 : j ≥ (S.getD i.toNat rw0).L.length
    · refine SG.walk tab_ok mx 400 [false, false, false, false, true] [hdB true, hdInt 0] ?_
      conv => whnf
      try dsimp only [rowL, rowN, growOk, hiN, fromL, tightN, maxOk]
      refine ⟨?_, ?_⟩
      · repeat' apply And.intro
        all_goals first
          | exact shownC
          | exact ckX (thereP rfl rfl rfl) hS hSl hk
          | exact hi0
          | trivial
          | rfl
          | omega
          | ((try dsimp only [rowL, rowN]); simp only [beq_iff_eq, beq_eq_false_iff_ne, bne_iff_ne, bne_eq_false_iff_eq, decide_eq_true_eq, decide_eq_false_iff_not, ne_eq, Bool.not_eq_true', Bool.not_eq_false', Bool.not_eq_eq_eq_not, Bool.not_true, Bool.not_false, Option.some.injEq, Option.getD_some, Option.getD_none]; omega)
          | (simp; done)
          | (simp; omega)
      refine SG.ret tab_ok Try.func6 rfl ?_
      intro ρ w' v hm hv
      exact top_true hm hv rfl
    by_cases hx : t > 4611686018427387904
    · refine SG.walk tab_ok mx 400 [false, false, false, false, false, true] [hdB true, hdInt 0] ?_
      conv => whnf
      try dsimp only [rowL, rowN, growOk, hiN, fromL, tightN, maxOk]
      refine ⟨?_, ?_⟩
      · repeat' apply And.intro
        all_goals first
          | exact shownC
          | exact ckX (thereP rfl rfl rfl) hS hSl hk
          | exact hi0
          | trivial
          | rfl
          | omega
          | ((try dsimp only [rowL, rowN]); simp only [beq_iff_eq, beq_eq_false_iff_ne, bne_iff_ne, bne_eq_false_iff_eq, decide_eq_true_eq, decide_eq_false_iff_not, ne_eq, Bool.not_eq_true', Bool.not_eq_false', Bool.not_eq_eq_eq_not, Bool.not_true, Bool.not_false, Option.some.injEq, Option.getD_some, Option.getD_none]; omega)
          | (simp; done)
          | (simp; omega)
      refine SG.ret tab_ok Try.func6 rfl ?_
      intro ρ w' v hm hv
      exact top_true hm hv rfl
    have hwF : IntKind.u64.wrap F = F := wU64 (by omega) (by omega)
    have hjl : j.toNat < (S.getD i.toNat rw0).L.length := by omega
    have hxm := getD_mem' (d := wn0) hjl
    obtain ⟨v1, v2, v3, v4, v5⟩ := T.ws _ hxm
    obtain ⟨x, hxx⟩ : ∃ x, (S.getD i.toNat rw0).L.getD j.toNat wn0 = x := ⟨_, rfl⟩
    rw [hxx] at hxm v1 v2 v3 v4 v5
    obtain ⟨q, n, e, n0, n1, q0, e1, e2⟩ := cyN_ex (F := F) (t := t) (by omega) ht.1
    have hmod : t.tmod F = n := e1
    have hm0 : 0 ≤ F * q := Int.mul_nonneg (by omega) q0
    have hwf : IntKind.u64.wrap (t - n) = F * q := by rw [wU64 (by omega) (by omega)]; omega
    have hwx : IntKind.u64.wrap x.f = x.f := wU64 (by omega) (by omega)
    have hwa : IntKind.u64.wrap (F * q + x.f) = x.f + F * q := by rw [wU64 (by omega) (by omega)]; omega
    have hwl : IntKind.u64.wrap x.l = x.l := wU64 (by omega) (by omega)
    have hwb : IntKind.u64.wrap (x.f + F * q + x.l) = (x.f + x.l) + F * q := by rw [wU64 (by omega) (by omega)]; omega
    have hi2 : IntKind.i64.wrap (x.l - 2) = x.l - 2 := wI (by omega) (by omega)
    have hu2 : IntKind.u64.wrap (x.l - 2) = x.l - 2 := wU64 (by omega) (by omega)
    have hta : 0 ≤ x.f + F * q ∧ x.f + F * q ≤ 18446744073709551615 := by omega
    have htb : 0 ≤ (x.f + x.l) + F * q ∧ (x.f + x.l) + F * q ≤ 18446744073709551615 := by omega
    obtain ⟨f1, _⟩ := cyN_of (F := F) (t := x.f + F * q) (q := q) (n := x.f) (by omega) rfl v3 (by omega) (by omega)
    have hst : stS P F S C i (x.f + F * q) = true := by
      unfold stS
      rw [hb, Bool.true_and, f1]
      unfold starts
      exact List.any_eq_true.2 ⟨x, hxm, by simp⟩
    refine SG.walk tab_ok mx 400 [false, false, false, false, false, false] [hdB true, hdInt 0] ?_
    conv => whnf
    try dsimp only [rowL, rowN, growOk, hiN, fromL, tightN, maxOk]
    refine ⟨?_, ?_⟩
    · simp only [hwF]
      repeat' apply And.intro
      all_goals first
        | exact shownC
        | exact ckX (thereP rfl rfl rfl) hS hSl hk
        | exact hi0
        | trivial
        | rfl
        | omega
        | ((try dsimp only [rowL, rowN]); simp only [beq_iff_eq, beq_eq_false_iff_ne, bne_iff_ne, bne_eq_false_iff_eq, decide_eq_true_eq, decide_eq_false_iff_not, ne_eq, Bool.not_eq_true', Bool.not_eq_false', Bool.not_eq_eq_eq_not, Bool.not_true, Bool.not_false, Option.some.injEq, Option.getD_some, Option.getD_none]; omega)
        | (simp; done)
        | (simp; omega)
    simp only [hwF, hmod, hxx, hwf, hwx, hwa]
    refine SG.loop (fun k : Nat => ⟨puts (List.replicate (Try.f6).ntmps .any) [(3, bpV 1), (4, intV i), (7, trueV), (8, bpV 2), (9, u64V (x.f + F * q)), (10, intV k)], [none, some [.rs 0, aI F, .rs 1, .rs 2], some [aI x.p, aI x.f, aI x.l]], [some (rowPa P), some (rowWs S), some (rowCh C)], []⟩) (fun k => k ≤ P.length) (fun k => P.length - k) (0) (Nat.zero_le _) (fun h => SG.sub [0, 1, 2] [0, 1, 2] ⟨?_, ?_, ?_, by decide, rfl, rfl, rfl, ?_⟩ h) ?_
    · repeat' (first | exact trivial | exact rfl | refine And.intro ?_ ?_)
    · repeat' (first | exact trivial | exact rfl | refine And.intro ?_ ?_)
    · repeat' (first | exact trivial | refine ⟨⟨_, rfl, ⟨rfl, rfl, .inl rfl, (fun h => by first | exact h | cases h), (fun h => by first | exact h | cases h), fun _ _ => rfl⟩, fun _ _ => rfl⟩, ?_⟩ | refine ⟨⟨_, rfl, ⟨rfl, rfl, .inr rfl, (fun h => by first | exact h | cases h), (fun h => by first | exact h | cases h), fun _ _ => rfl⟩, fun _ _ => rfl⟩, ?_⟩ | refine ⟨⟨_, rfl, ⟨rfl, rfl, .inr rfl, (fun h => by first | exact h | cases h), (fun h => by first | exact h | cases h), fun i hi => absurd hi (Nat.not_lt_zero i)⟩, fun i hi => absurd hi (Nat.not_lt_zero i)⟩, ?_⟩ | refine ⟨⟨_, rfl, ⟨rfl, rfl, .inl rfl, (fun h => by first | exact h | cases h), (fun h => by first | exact h | cases h), fun i hi => ren_closed (hQc i hi)⟩, fun i hi => inn_closed (hQc i hi)⟩, ?_⟩)
    · repeat' (first | exact trivial | exact rfl | refine And.intro ?_ ?_)
    intro k hk1 next
    by_cases hlt : k < P.length
    · have ga := T.gr (part := (k : Int)) (n := x.f) hb q0 v3 (by omega)
      have gb := T.gr (part := (k : Int)) (n := x.f + x.l) hb q0 (by omega) v5
      have hwin := sumI_win (part := (k : Int)) T.sc0 x hxm
      have hba := gr_bound (P := P) (F := F) (S := S) (C := C) (i := i) (part := (k : Int)) hta
      have hbb := gr_bound (P := P) (F := F) (S := S) (C := C) (i := i) (part := (k : Int)) htb
      obtain ⟨y, hyy⟩ : ∃ y, grS P F S C i (k : Int) (x.f + F * q) = y := ⟨_, rfl⟩
      rw [hyy] at ga hba
      have hyb : grS P F S C i (k : Int) ((x.f + x.l) + F * q) = y + (if x.p = (k : Int) then x.l - 2 else 0) := by rw [gb, hwin, ga]; omega
      rw [hyb] at hbb
      by_cases g : x.p = (k : Int)
      · rw [if_pos g] at hyb hbb
        have hsub : IntKind.u64.wrap (y + (x.l - 2) - y) = x.l - 2 := by rw [wU64 (by omega) (by omega)]; omega
        refine SG.walk tab_ok mx 400 [true, true, false, false] [hdU (y + (x.l - 2)), hdU y] ?_
        conv => whnf
        try dsimp only [rowL, rowN, growOk, hiN, fromL, tightN, maxOk]
        refine ⟨?_, ?_⟩
        · simp only [hwl, hwb, hsub, hi2, hu2]
          repeat' apply And.intro
          all_goals first
            | exact grX (thereP rfl rfl rfl) hS htb hyb
            | exact grX (thereP rfl rfl rfl) hS hta hyy
            | trivial
            | rfl
            | omega
            | ((try dsimp only [rowL, rowN]); simp only [beq_iff_eq, beq_eq_false_iff_ne, bne_iff_ne, bne_eq_false_iff_eq, decide_eq_true_eq, decide_eq_false_iff_not, ne_eq, Bool.not_eq_true', Bool.not_eq_false', Bool.not_eq_eq_eq_not, Bool.not_true, Bool.not_false, Option.some.injEq, Option.getD_some, Option.getD_none]; omega)
            | (simp; done)
            | (simp; omega)
        rw [show IntKind.i64.wrap ((k : Int) + 1) = ((k + 1 : Nat) : Int) from by rw [wI (by omega) (by omega)]; simp]
        refine SG.sub [0, 1, 2] [0, 1, 2] ⟨?_, ?_, ?_, by decide, rfl, rfl, rfl, ?_⟩ (next (k + 1) hlt (by omega))
        · repeat' (first | exact trivial | exact rfl | refine And.intro ?_ ?_)
        · repeat' (first | exact trivial | exact rfl | refine And.intro ?_ ?_)
        · repeat' (first | exact trivial | refine ⟨⟨_, rfl, ⟨rfl, rfl, .inl rfl, (fun h => by first | exact h | cases h), (fun h => by first | exact h | cases h), fun _ _ => rfl⟩, fun _ _ => rfl⟩, ?_⟩ | refine ⟨⟨_, rfl, ⟨rfl, rfl, .inr rfl, (fun h => by first | exact h | cases h), (fun h => by first | exact h | cases h), fun _ _ => rfl⟩, fun _ _ => rfl⟩, ?_⟩ | refine ⟨⟨_, rfl, ⟨rfl, rfl, .inr rfl, (fun h => by first | exact h | cases h), (fun h => by first | exact h | cases h), fun i hi => absurd hi (Nat.not_lt_zero i)⟩, fun i hi => absurd hi (Nat.not_lt_zero i)⟩, ?_⟩ | refine ⟨⟨_, rfl, ⟨rfl, rfl, .inl rfl, (fun h => by first | exact h | cases h), (fun h => by first | exact h | cases h), fun i hi => ren_closed (hQc i hi)⟩, fun i hi => inn_closed (hQc i hi)⟩, ?_⟩)
        · repeat' (first | exact trivial | exact rfl | refine And.intro ?_ ?_)
      · rw [if_neg g] at hyb hbb
        have hsub : IntKind.u64.wrap (y + 0 - y) = 0 := by rw [wU64 (by omega) (by omega)]; omega
        refine SG.walk tab_ok mx 400 [true, false, true, false] [hdU (y + 0), hdU y] ?_
        conv => whnf
        try dsimp only [rowL, rowN, growOk, hiN, fromL, tightN, maxOk]
        refine ⟨?_, ?_⟩
        · simp only [hwl, hwb, hsub, hi2, hu2]
          repeat' apply And.intro
          all_goals first
            | exact grX (thereP rfl rfl rfl) hS htb hyb
            | exact grX (thereP rfl rfl rfl) hS hta hyy
            | trivial
            | rfl
            | omega
            | ((try dsimp only [rowL, rowN]); simp only [beq_iff_eq, beq_eq_false_iff_ne, bne_iff_ne, bne_eq_false_iff_eq, decide_eq_true_eq, decide_eq_false_iff_not, ne_eq, Bool.not_eq_true', Bool.not_eq_false', Bool.not_eq_eq_eq_not, Bool.not_true, Bool.not_false, Option.some.injEq, Option.getD_some, Option.getD_none]; omega)
            | (simp; done)
            | (simp; omega)
        rw [show IntKind.i64.wrap ((k : Int) + 1) = ((k + 1 : Nat) : Int) from by rw [wI (by omega) (by omega)]; simp]
        refine SG.sub [0, 1, 2] [0, 1, 2] ⟨?_, ?_, ?_, by decide, rfl, rfl, rfl, ?_⟩ (next (k + 1) hlt (by omega))
        · repeat' (first | exact trivial | exact rfl | refine And.intro ?_ ?_)
        · repeat' (first | exact trivial | exact rfl | refine And.intro ?_ ?_)
        · repeat' (first | exact trivial | refine ⟨⟨_, rfl, ⟨rfl, rfl, .inl rfl, (fun h => by first | exact h | cases h), (fun h => by first | exact h | cases h), fun _ _ => rfl⟩, fun _ _ => rfl⟩, ?_⟩ | refine ⟨⟨_, rfl, ⟨rfl, rfl, .inr rfl, (fun h => by first | exact h | cases h), (fun h => by first | exact h | cases h), fun _ _ => rfl⟩, fun _ _ => rfl⟩, ?_⟩ | refine ⟨⟨_, rfl, ⟨rfl, rfl, .inr rfl, (fun h => by first | exact h | cases h), (fun h => by first | exact h | cases h), fun i hi => absurd hi (Nat.not_lt_zero i)⟩, fun i hi => absurd hi (Nat.not_lt_zero i)⟩, ?_⟩ | refine ⟨⟨_, rfl, ⟨rfl, rfl, .inl rfl, (fun h => by first | exact h | cases h), (fun h => by first | exact h | cases h), fun i hi => ren_closed (hQc i hi)⟩, fun i hi => inn_closed (hQc i hi)⟩, ?_⟩)
        · repeat' (first | exact trivial | exact rfl | refine And.intro ?_ ?_)
    refine SG.walk tab_ok mx 400 [false] [hdB true] ?_
    conv => whnf
    try dsimp only [rowL, rowN, growOk, hiN, fromL, tightN, maxOk]
    refine ⟨?_, ?_⟩
    · repeat' apply And.intro
      all_goals first
        | exact stX (thereP rfl rfl rfl) hS hta hst
        | trivial
        | rfl
        | omega
        | ((try dsimp only [rowL, rowN]); simp only [beq_iff_eq, beq_eq_false_iff_ne, bne_iff_ne, bne_eq_false_iff_eq, decide_eq_true_eq, decide_eq_false_iff_not, ne_eq, Bool.not_eq_true', Bool.not_eq_false', Bool.not_eq_eq_eq_not, Bool.not_true, Bool.not_false, Option.some.injEq, Option.getD_some, Option.getD_none]; omega)
        | (simp; done)
        | (simp; omega)
    refine SG.ret tab_ok Try.func6 rfl ?_
    intro ρ w' v hm hv
    exact top_true hm hv rfl
  · refine SG.walk tab_ok mx 400 [true] [hdB true, hdInt (chk P F S C)] ?_
    conv => whnf
    try dsimp only [rowL, rowN, growOk, hiN, fromL, tightN, maxOk]
    refine ⟨?_, ?_⟩
    · repeat' apply And.intro
      all_goals first
        | exact shownC
        | exact rCheckC (thereP rfl rfl rfl) hS hSl
        | exact hk
        | trivial
        | rfl
        | omega
        | ((try dsimp only [rowL, rowN]); simp only [beq_iff_eq, beq_eq_false_iff_ne, bne_iff_ne, bne_eq_false_iff_eq, decide_eq_true_eq, decide_eq_false_iff_not, ne_eq, Bool.not_eq_true', Bool.not_eq_false', Bool.not_eq_eq_eq_not, Bool.not_true, Bool.not_false, Option.some.injEq, Option.getD_some, Option.getD_none]; omega)
        | (simp; done)
        | (simp; omega)
    refine SG.ret tab_ok Try.func6 rfl ?_
    intro ρ w' v hm hv
    exact top_true hm hv rfl
end Go.Proofs.Ytpnfjkkofdlndaa
