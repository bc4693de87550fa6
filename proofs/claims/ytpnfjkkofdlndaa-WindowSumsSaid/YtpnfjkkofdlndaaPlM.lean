/- Windows: the laws, on. -/
import Derived.Test.YtpnfjkkofdlndaaPlJ
namespace Go.Proofs.Ytpnfjkkofdlndaa
open Go.Sx Go.RowKit
set_option linter.unusedVariables false
set_option linter.unusedSimpArgs false
theorem atX {W : Base} {B : List (Option (List At))} {Rs : List (Option Row)} {a b c : Nat} {P : List Pa} {S : List RW} {C : List Ch} {F i t : Int} {x : Int × Int} (h : PlanAt Rs a b c P S C) (hS : okS S) (ht : 0 ≤ t ∧ t ≤ 18446744073709551615) (e : cycS P F S C i (cyN F t) = x) : CallOk Try.prog W B Rs 11 [planV a F b c, intV i, u64V t] (hdC x) := by rw [← e]; exact atC h hS ht
theorem grX {W : Base} {B : List (Option (List At))} {Rs : List (Option Row)} {a b c : Nat} {P : List Pa} {S : List RW} {C : List Ch} {F i part t x : Int} (h : PlanAt Rs a b c P S C) (hS : okS S) (ht : 0 ≤ t ∧ t ≤ 18446744073709551615) (e : grS P F S C i part t = x) : CallOk Try.prog W B Rs 17 [planV a F b c, intV i, intV part, u64V t] (hdU x) := by rw [← e]; exact grantedC h hS ht
theorem frX {W : Base} {B : List (Option (List At))} {Rs : List (Option Row)} {a b c : Nat} {P : List Pa} {S : List RW} {C : List Ch} {F i part n x : Int} (h : PlanAt Rs a b c P S C) (hS : okS S) (e : frS P F S C i part n = x) : CallOk Try.prog W B Rs 15 [planV a F b c, intV i, intV part, intV n] (hdInt x) := by rw [← e]; exact frameC h hS
theorem stX {W : Base} {B : List (Option (List At))} {Rs : List (Option Row)} {a b c : Nat} {P : List Pa} {S : List RW} {C : List Ch} {F i t : Int} {x : Bool} (h : PlanAt Rs a b c P S C) (hS : okS S) (ht : 0 ≤ t ∧ t ≤ 18446744073709551615) (e : stS P F S C i t = x) : CallOk Try.prog W B Rs 13 [planV a F b c, intV i, u64V t] (hdB x) := by rw [← e]; exact startsC h hS ht
theorem ckX {W : Base} {B : List (Option (List At))} {Rs : List (Option Row)} {a b c : Nat} {P : List Pa} {S : List RW} {C : List Ch} {F x : Int} (h : PlanAt Rs a b c P S C) (hS : okS S) (hSl : S.length ≤ 9223372036854775807) (e : chk P F S C = x) : CallOk Try.prog W B Rs 19 [planV a F b c] (hdInt x) := by rw [← e]; exact rCheckC h hS hSl
theorem chk_all {P : List Pa} {F : Int} {S : List RW} {C : List Ch} (h : chk P F S C = 0) : 1 ≤ F ∧ F ≤ 4096 ∧ P.length ≤ 4 ∧ S.length ≤ 3 := by
  obtain ⟨a, b, c, d, _⟩ := chk_ok h
  exact ⟨a, b, c, d⟩
set_option maxHeartbeats 4000000 in
set_option maxRecDepth 100000 in
theorem frames_walk (w : World) (va vb vc : Value) (P : List Pa) (S : List RW) (C : List Ch) (F i part t : Int) (h : PlanIn w va vb vc P S C) (ht : 0 ≤ t ∧ t ≤ 18446744073709551615) :
    Calls Try.prog 5 #[.agg #[va, .int .i64 F, vb, vc, .int .i64 i, .int .i64 part, .int .u64 t]] w fun e w' => e = .returned (.bool true) ∧ Below w.heap.size w w' := by
  have hS := h.s
  have hSl := h.l
  have htop := h.top
  obtain ⟨⟨A, na, ca, rfl⟩, ⟨B, nb, cb, rfl⟩, ⟨D, nc, cc, rfl⟩⟩ := h.forms
  refine calls_top Try.func5 rfl _ _ [.cv (.agg [.rs 0, aI F, .rs 1, .rs 2, aI i, aI part, .v (.int .u64 t)])] htop ⟨rfl, trivial⟩ ?_
  clear h htop
  by_cases hk : chk P F S C = 0
  · by_cases hx : t > 4611686018427387904
    · refine SG.walk tab_ok mx 400 [false, true] [hdB true, hdInt 0] ?_
      conv => whnf
      try dsimp only [rowL, rowN, growOk, hiN, fromL, tightN, maxOk]
      refine ⟨?_, ?_⟩
      · repeat' apply And.intro
        all_goals first
          | exact shownC
          | exact ckX (thereP rfl rfl rfl) hS hSl hk
          | exact hx
          | trivial
          | rfl
          | omega
          | ((try dsimp only [rowL, rowN]); simp only [beq_iff_eq, beq_eq_false_iff_ne, bne_iff_ne, bne_eq_false_iff_eq, decide_eq_true_eq, decide_eq_false_iff_not, ne_eq, Bool.not_eq_true', Bool.not_eq_false', Bool.not_eq_eq_eq_not, Bool.not_true, Bool.not_false, Option.some.injEq, Option.getD_some, Option.getD_none]; omega)
          | (simp; done)
          | (simp; omega)
      refine SG.ret tab_ok Try.func5 rfl ?_
      intro ρ w' v hm hv
      exact top_true hm hv rfl
    obtain ⟨hF1, hF2, _, _⟩ := chk_all hk
    obtain ⟨k1, k2⟩ := gr_frame (P := P) (F := F) (S := S) (C := C) (i := i) (part := part) hF1 ht.1
    have hb1 := gr_bound (P := P) (F := F) (S := S) (C := C) (i := i) (part := part) (t := t) ht
    have hb2 := fr_bound (P := P) (F := F) (S := S) (C := C) (i := i) (part := part) (n := F) (by omega)
    have hw1 : IntKind.u64.wrap F = F := wU64 (by omega) (by omega)
    have hw2 : IntKind.u64.wrap (t + F) = t + F := wU64 (by omega) (by omega)
    have ht1 : 0 ≤ t + F ∧ t + F ≤ 18446744073709551615 := by omega
    obtain ⟨x, hxx⟩ : ∃ x, cycS P F S C i (cyN F t) = x := ⟨_, rfl⟩
    obtain ⟨y, hyy⟩ : ∃ y, grS P F S C i part t = y := ⟨_, rfl⟩
    obtain ⟨z, hzz⟩ : ∃ z, frS P F S C i part F = z := ⟨_, rfl⟩
    rw [hyy, hzz] at k2
    rw [hyy] at hb1
    rw [hzz] at hb2
    have hw3 : IntKind.u64.wrap z = z := wU64 (by omega) (by omega)
    have hw4 : IntKind.u64.wrap (y + z) = y + z := wU64 (by omega) (by omega)
    have k3 : cycS P F S C i (cyN F (t + F)) = x := by rw [k1]; exact hxx
    refine SG.walk tab_ok mx 400 [false, false, true, true] [hdB true, hdInt 0, hdC x, hdC x, hdInt z, hdU (y + z), hdU y] ?_
    conv => whnf
    try dsimp only [rowL, rowN, growOk, hiN, fromL, tightN, maxOk]
    refine ⟨?_, ?_⟩
    · simp only [hw1, hw2]
      repeat' apply And.intro
      all_goals first
        | exact shownC
        | exact ckX (thereP rfl rfl rfl) hS hSl hk
        | exact hx
        | exact atX (thereP rfl rfl rfl) hS ht hxx
        | exact atX (thereP rfl rfl rfl) hS ht1 k3
        | exact frX (thereP rfl rfl rfl) hS hzz
        | exact grX (thereP rfl rfl rfl) hS ht1 k2
        | exact grX (thereP rfl rfl rfl) hS ht hyy
        | exact beq_self_eq_true _
        | trivial
        | rfl
        | omega
        | ((try dsimp only [rowL, rowN]); simp only [beq_iff_eq, beq_eq_false_iff_ne, bne_iff_ne, bne_eq_false_iff_eq, decide_eq_true_eq, decide_eq_false_iff_not, ne_eq, Bool.not_eq_true', Bool.not_eq_false', Bool.not_eq_eq_eq_not, Bool.not_true, Bool.not_false, Option.some.injEq, Option.getD_some, Option.getD_none]; omega)
        | (simp; done)
        | (simp; omega)
    simp only [hw3, hw4]
    refine SG.ret tab_ok Try.func5 rfl ?_
    intro ρ w' v hm hv
    exact top_v hm hv (beq_self_eq_true _)
  · refine SG.walk tab_ok mx 400 [true] [hdB true, hdInt (chk P F S C)] ?_
    conv => whnf
    try dsimp only [rowL, rowN, growOk, hiN, fromL, tightN, maxOk]
    refine ⟨?_, ?_⟩
    · repeat' apply And.intro
      all_goals first
        | exact shownC
        | exact rCheckC (thereP rfl rfl rfl) hS hSl
        | exact hk
        | trivial
        | rfl
        | omega
        | ((try dsimp only [rowL, rowN]); simp only [beq_iff_eq, beq_eq_false_iff_ne, bne_iff_ne, bne_eq_false_iff_eq, decide_eq_true_eq, decide_eq_false_iff_not, ne_eq, Bool.not_eq_true', Bool.not_eq_false', Bool.not_eq_eq_eq_not, Bool.not_true, Bool.not_false, Option.some.injEq, Option.getD_some, Option.getD_none]; omega)
        | (simp; done)
        | (simp; omega)
    refine SG.ret tab_ok Try.func5 rfl ?_
    intro ρ w' v hm hv
    exact top_true hm hv rfl
set_option maxHeartbeats 4000000 in
set_option maxRecDepth 100000 in
theorem begins_walk (w : World) (va vb vc : Value) (P : List Pa) (S : List RW) (C : List Ch) (F i t : Int) (h : PlanIn w va vb vc P S C) (ht : 0 ≤ t ∧ t ≤ 18446744073709551615) :
    Calls Try.prog 9 #[.agg #[va, .int .i64 F, vb, vc], .int .i64 i, .int .u64 t] w fun e w' => e = .returned (.bool true) ∧ Below w.heap.size w w' := by
  have hS := h.s
  have hSl := h.l
  have htop := h.top
  obtain ⟨⟨A, na, ca, rfl⟩, ⟨B, nb, cb, rfl⟩, ⟨D, nc, cc, rfl⟩⟩ := h.forms
  refine calls_top Try.func9 rfl _ _ [planV 0 F 1 2, intV i, u64V t] htop ⟨rfl, rfl, rfl, trivial⟩ ?_
  clear h htop
  by_cases hk : chk P F S C = 0
  · by_cases hx : t > 4611686018427387904
    · refine SG.walk tab_ok mx 400 [false, true] [hdB true, hdInt 0] ?_
      conv => whnf
      try dsimp only [rowL, rowN, growOk, hiN, fromL, tightN, maxOk]
      refine ⟨?_, ?_⟩
      · repeat' apply And.intro
        all_goals first
          | exact shownC
          | exact ckX (thereP rfl rfl rfl) hS hSl hk
          | exact hx
          | trivial
          | rfl
          | omega
          | ((try dsimp only [rowL, rowN]); simp only [beq_iff_eq, beq_eq_false_iff_ne, bne_iff_ne, bne_eq_false_iff_eq, decide_eq_true_eq, decide_eq_false_iff_not, ne_eq, Bool.not_eq_true', Bool.not_eq_false', Bool.not_eq_eq_eq_not, Bool.not_true, Bool.not_false, Option.some.injEq, Option.getD_some, Option.getD_none]; omega)
          | (simp; done)
          | (simp; omega)
      refine SG.ret tab_ok Try.func9 rfl ?_
      intro ρ w' v hm hv
      exact top_true hm hv rfl
    obtain ⟨hF1, hF2, _, _⟩ := chk_all hk
    by_cases hst : stS P F S C i t = true
    · have hb : thereB P F S C i = true := by unfold stS at hst; rw [Bool.and_eq_true] at hst; exact hst.1
      have T := There.of hb
      have hs2 : starts (cyN F t) (winsOf S i) = true := by unfold stS at hst; rw [Bool.and_eq_true] at hst; exact hst.2
      unfold starts at hs2
      rw [List.any_eq_true] at hs2
      obtain ⟨x, hxm, hxe⟩ := hs2
      have hxe : cyN F t = x.f := by simpa using hxe
      have hxw := T.ws x hxm
      obtain ⟨q, n, e, n0, n1, q0, e1, e2⟩ := cyN_ex (F := F) (t := t) (by omega) ht.1
      rw [e1] at hxe
      obtain ⟨f1, _⟩ := cyN_of (F := F) (t := t + 1) (q := q) (n := n + 1) (by omega) (by omega) (by omega) (by omega) (by omega)
      obtain ⟨f2, _⟩ := cyN_of (F := F) (t := t + 2) (q := q) (n := n + 2) (by omega) (by omega) (by omega) (by omega) (by omega)
      have c0 : cycS P F S C i (cyN F t) = (x.p, 1) := by rw [yes_cyc hb, e1, cyc_in T.sc0 x hxm (by omega) (by omega), if_pos (by omega)]
      have c1 : cycS P F S C i (cyN F (t + 1)) = (x.p, 1) := by rw [yes_cyc hb, f1, cyc_in T.sc0 x hxm (by omega) (by omega), if_pos (by omega)]
      have c2 : cycS P F S C i (cyN F (t + 2)) = (x.p, 2) := by rw [yes_cyc hb, f2, cyc_in T.sc0 x hxm (by omega) (by omega), if_neg (by omega)]
      have hw1 : IntKind.u64.wrap (t + 1) = t + 1 := wU64 (by omega) (by omega)
      have hw2 : IntKind.u64.wrap (t + 2) = t + 2 := wU64 (by omega) (by omega)
      have ht1 : 0 ≤ t + 1 ∧ t + 1 ≤ 18446744073709551615 := by omega
      have ht2 : 0 ≤ t + 2 ∧ t + 2 ≤ 18446744073709551615 := by omega
      refine SG.walk tab_ok mx 400 [false, false, true, true, true, true, true] [hdB true, hdInt 0, hdB true, hdC (x.p, 1), hdC (x.p, 1), hdC (x.p, 2)] ?_
      conv => whnf
      try dsimp only [rowL, rowN, growOk, hiN, fromL, tightN, maxOk]
      refine ⟨?_, ?_⟩
      · simp only [hw1, hw2]
        repeat' apply And.intro
        all_goals first
          | exact shownC
          | exact ckX (thereP rfl rfl rfl) hS hSl hk
          | exact hx
          | exact stX (thereP rfl rfl rfl) hS ht hst
          | exact atX (thereP rfl rfl rfl) hS ht c0
          | exact atX (thereP rfl rfl rfl) hS ht1 c1
          | exact atX (thereP rfl rfl rfl) hS ht2 c2
          | exact beq_self_eq_true _
          | trivial
          | rfl
          | omega
          | ((try dsimp only [rowL, rowN]); simp only [beq_iff_eq, beq_eq_false_iff_ne, bne_iff_ne, bne_eq_false_iff_eq, decide_eq_true_eq, decide_eq_false_iff_not, ne_eq, Bool.not_eq_true', Bool.not_eq_false', Bool.not_eq_eq_eq_not, Bool.not_true, Bool.not_false, Option.some.injEq, Option.getD_some, Option.getD_none]; omega)
          | (simp; done)
          | (simp; omega)
      refine SG.ret tab_ok Try.func9 rfl ?_
      intro ρ w' v hm hv
      exact top_v hm hv (by simpa using hxw.1)
    · have hst' : stS P F S C i t = false := Bool.eq_false_iff.2 hst
      refine SG.walk tab_ok mx 400 [false, false] [hdB true, hdInt 0, hdB false] ?_
      conv => whnf
      try dsimp only [rowL, rowN, growOk, hiN, fromL, tightN, maxOk]
      refine ⟨?_, ?_⟩
      · repeat' apply And.intro
        all_goals first
          | exact shownC
          | exact ckX (thereP rfl rfl rfl) hS hSl hk
          | exact hx
          | exact stX (thereP rfl rfl rfl) hS ht hst'
          | trivial
          | rfl
          | omega
          | ((try dsimp only [rowL, rowN]); simp only [beq_iff_eq, beq_eq_false_iff_ne, bne_iff_ne, bne_eq_false_iff_eq, decide_eq_true_eq, decide_eq_false_iff_not, ne_eq, Bool.not_eq_true', Bool.not_eq_false', Bool.not_eq_eq_eq_not, Bool.not_true, Bool.not_false, Option.some.injEq, Option.getD_some, Option.getD_none]; omega)
          | (simp; done)
          | (simp; omega)
      refine SG.ret tab_ok Try.func9 rfl ?_
      intro ρ w' v hm hv
      exact top_true hm hv rfl
  · refine SG.walk tab_ok mx 400 [true] [hdB true, hdInt (chk P F S C)] ?_
    conv => whnf
    try dsimp only [rowL, rowN, growOk, hiN, fromL, tightN, maxOk]
    refine ⟨?_, ?_⟩
    · repeat' apply And.intro
      all_goals first
        | exact shownC
        | exact rCheckC (thereP rfl rfl rfl) hS hSl
        | exact hk
        | trivial
        | rfl
        | omega
        | ((try dsimp only [rowL, rowN]); simp only [beq_iff_eq, beq_eq_false_iff_ne, bne_iff_ne, bne_eq_false_iff_eq, decide_eq_true_eq, decide_eq_false_iff_not, ne_eq, Bool.not_eq_true', Bool.not_eq_false', Bool.not_eq_eq_eq_not, Bool.not_true, Bool.not_false, Option.some.injEq, Option.getD_some, Option.getD_none]; omega)
        | (simp; done)
        | (simp; omega)
    refine SG.ret tab_ok Try.func9 rfl ?_
    intro ρ w' v hm hv
    exact top_true hm hv rfl
end Go.Proofs.Ytpnfjkkofdlndaa
