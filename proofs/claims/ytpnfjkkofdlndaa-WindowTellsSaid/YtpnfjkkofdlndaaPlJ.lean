/- Windows: the laws. -/
import Derived.Test.YtpnfjkkofdlndaaPlI
import Derived.Test.YtpnfjkkofdlndaaPlG
import Derived.Test.YtpnfjkkofdlndaaPlK
namespace Go.Proofs.Ytpnfjkkofdlndaa
open Go.Sx Go.RowKit
set_option linter.unusedVariables false
set_option linter.unusedSimpArgs false
abbrev hdC (x : Int × Int) : Hd := mkHd (.tup [.one (aI x.1), .one (aI x.2)]) []
/-- A plan that came in. -/
structure PlanIn (w : World) (va vb vc : Value) (P : List Pa) (S : List RW) (C : List Ch) : Prop where
  a : ∀ W ρ, RowOk W ρ w va (rowPa P)
  b : ∀ W ρ, (∀ c sz len cells, InnOk ⟨w, none, [], []⟩ c sz len cells → ρ.ι c sz len cells) → RowOk W ρ w vb (rowWs S)
  c : ∀ W ρ, RowOk W ρ w vc (rowCh C)
  s : okS S
  l : S.length ≤ 9223372036854775807
theorem PlanIn.forms {w : World} {va vb vc : Value} {P : List Pa} {S : List RW} {C : List Ch} (h : PlanIn w va vb vc P S C) :
    (∃ A n c, va = .slice A n c) ∧ (∃ A n c, vb = .slice A n c) ∧ (∃ A n c, vc = .slice A n c) := by
  obtain ⟨A, cap, h1, _⟩ := (h.a ⟨w, none, [], []⟩ ⟨fun _ => none, fun _ => none, fun _ _ _ _ => False⟩).form
  obtain ⟨B, cap', h2, _⟩ := (h.b ⟨w, none, [], []⟩ ⟨fun _ => none, fun _ => none, fun c sz len cells => InnOk ⟨w, none, [], []⟩ c sz len cells⟩ (fun _ _ _ _ h => h)).form
  obtain ⟨C, cap'', h3, _⟩ := (h.c ⟨w, none, [], []⟩ ⟨fun _ => none, fun _ => none, fun _ _ _ _ => False⟩).form
  exact ⟨⟨_, _, _, h1⟩, ⟨_, _, _, h2⟩, ⟨_, _, _, h3⟩⟩
theorem PlanIn.top {w : World} {va vb vc : Value} {P : List Pa} {S : List RW} {C : List Ch} (h : PlanIn w va vb vc P S C) : TopRows w [va, vb, vc] [rowPa P, rowWs S, rowCh C] :=
  .cons h.a rfl (.consI h.b rfl (.cons h.c rfl .nil))
set_option maxHeartbeats 4000000 in
set_option maxRecDepth 100000 in
theorem tells_walk (w : World) (va vb vc : Value) (P : List Pa) (S : List RW) (C : List Ch) (F i part n t : Int) (h : PlanIn w va vb vc P S C) (ht : 0 ≤ t ∧ t ≤ 18446744073709551615) :
    Calls Try.prog 3 #[.agg #[va, .int .i64 F, vb, vc, .int .i64 i, .int .i64 part, .int .i64 n, .int .u64 t]] w fun e w' => e = .returned (.bool true) ∧ Below w.heap.size w w' := by
  have hS := h.s
  have hSl := h.l
  have htop := h.top
  obtain ⟨⟨A, na, ca, rfl⟩, ⟨B, nb, cb, rfl⟩, ⟨D, nc, cc, rfl⟩⟩ := h.forms
  refine calls_top Try.func3 rfl _ _ [.cv (.agg [.rs 0, aI F, .rs 1, .rs 2, aI i, aI part, aI n, .v (.int .u64 t)])] htop ⟨rfl, trivial⟩ ?_
  clear h htop
  refine SG.walk tab_ok mx 400 [true, true, true, true, true] [hdB true, hdC (cycS P F S C i (cyN F t)), hdC (cycS P F S C i (cyN F t)), hdB (stS P F S C i t), hdB (stS P F S C i t), hdInt (frS P F S C i part n), hdInt (frS P F S C i part n), hdU (grS P F S C i part t), hdU (grS P F S C i part t)] ?_
  conv => whnf
  try dsimp only [rowL, rowN, growOk, hiN, fromL, tightN, maxOk]
  refine ⟨?_, ?_⟩
  · repeat' apply And.intro
    all_goals first
      | exact shownC
      | exact atC (thereP rfl rfl rfl) hS ht
      | exact rAtC (thereP rfl rfl rfl) hS hSl ht
      | exact startsC (thereP rfl rfl rfl) hS ht
      | exact rStartsC (thereP rfl rfl rfl) hS hSl ht
      | exact frameC (thereP rfl rfl rfl) hS
      | exact rFrameC (thereP rfl rfl rfl) hS hSl
      | exact grantedC (thereP rfl rfl rfl) hS ht
      | exact rGrantedC (thereP rfl rfl rfl) hS hSl ht
      | exact beq_self_eq_true _
      | trivial
      | rfl
      | omega
      | ((try dsimp only [rowL, rowN]); simp only [beq_iff_eq, beq_eq_false_iff_ne, bne_iff_ne, bne_eq_false_iff_eq, decide_eq_true_eq, decide_eq_false_iff_not, ne_eq, Bool.not_eq_true', Bool.not_eq_false', Bool.not_eq_eq_eq_not, Bool.not_true, Bool.not_false, Option.some.injEq, Option.getD_some, Option.getD_none]; omega)
      | (simp; done)
      | (simp; omega)
  refine SG.ret tab_ok Try.func3 rfl ?_
  intro ρ w' v hm hv
  exact top_v hm hv (beq_self_eq_true _)
set_option maxHeartbeats 4000000 in
set_option maxRecDepth 100000 in
theorem counts_walk (w : World) (va vb vc : Value) (P : List Pa) (S : List RW) (C : List Ch) (F i part t : Int) (h : PlanIn w va vb vc P S C) (ht : 0 ≤ t ∧ t ≤ 18446744073709551615) :
    Calls Try.prog 4 #[.agg #[va, .int .i64 F, vb, vc, .int .i64 i, .int .i64 part, .int .u64 t]] w fun e w' => e = .returned (.bool true) ∧ Below w.heap.size w w' := by
  have hS := h.s
  have hSl := h.l
  have htop := h.top
  obtain ⟨⟨A, na, ca, rfl⟩, ⟨B, nb, cb, rfl⟩, ⟨D, nc, cc, rfl⟩⟩ := h.forms
  refine calls_top Try.func4 rfl _ _ [.cv (.agg [.rs 0, aI F, .rs 1, .rs 2, aI i, aI part, .v (.int .u64 t)])] htop ⟨rfl, trivial⟩ ?_
  clear h htop
  by_cases hx : t = 18446744073709551615
  · refine SG.walk tab_ok mx 400 [true] [hdB true] ?_
    conv => whnf
    try dsimp only [rowL, rowN, growOk, hiN, fromL, tightN, maxOk]
    refine ⟨?_, ?_⟩
    · repeat' apply And.intro
      all_goals first
        | exact shownC
        | trivial
        | rfl
        | omega
        | ((try dsimp only [rowL, rowN]); simp only [beq_iff_eq, beq_eq_false_iff_ne, bne_iff_ne, bne_eq_false_iff_eq, decide_eq_true_eq, decide_eq_false_iff_not, ne_eq, Bool.not_eq_true', Bool.not_eq_false', Bool.not_eq_eq_eq_not, Bool.not_true, Bool.not_false, Option.some.injEq, Option.getD_some, Option.getD_none]; omega)
        | (simp; done)
        | (simp; omega)
    refine SG.ret tab_ok Try.func4 rfl ?_
    intro ρ w' v hm hv
    exact top_true hm hv rfl
  have ht1 : 0 ≤ t + 1 ∧ t + 1 ≤ 18446744073709551615 := by omega
  have hst := gr_step (P := P) (F := F) (S := S) (C := C) (i := i) (part := part) ht.1
  have hb0 := gr_bound (P := P) (F := F) (S := S) (C := C) (i := i) (part := part) ht1
  have hz := gr_zero (P := P) (F := F) (S := S) (C := C) (i := i) (part := part)
  have hw1 : IntKind.u64.wrap (t + 1) = t + 1 := wU64 (by omega) (by omega)
  have hgz : ∀ {W : Base} {B : List (Option (List At))} {Rs : List (Option Row)} {a b c : Nat}, PlanAt Rs a b c P S C → CallOk Try.prog W B Rs 17 [planV a F b c, intV i, intV part, u64V 0] (hdU 0) := fun h => by
    have := grantedC (F := F) (i := i) (part := part) (t := 0) h hS (by omega) (W := ‹_›) (B := ‹_›)
    rw [hz] at this; exact this
  have hg1 : ∀ {W : Base} {B : List (Option (List At))} {Rs : List (Option Row)} {a b c : Nat} {x : Int}, PlanAt Rs a b c P S C → grS P F S C i part (t + 1) = x → CallOk Try.prog W B Rs 17 [planV a F b c, intV i, intV part, u64V (t + 1)] (hdU x) := fun h e => by
    rw [← e]; exact grantedC h hS ht1
  obtain ⟨x, hxx⟩ : ∃ x, cycS P F S C i (cyN F t) = x := ⟨_, rfl⟩
  have hat : ∀ {W : Base} {B : List (Option (List At))} {Rs : List (Option Row)} {a b c : Nat}, PlanAt Rs a b c P S C → CallOk Try.prog W B Rs 11 [planV a F b c, intV i, u64V t] (hdC x) := fun h => by rw [← hxx]; exact atC h hS ht
  rw [hxx] at hst
  by_cases g1 : x.1 = part
  · by_cases g2 : x.2 = 2
    · have e1 : grS P F S C i part (t + 1) = grS P F S C i part t + 1 := by rw [hst, ownB, if_pos ⟨g1, g2⟩]
      have hw2 : IntKind.u64.wrap (grS P F S C i part t + 1) = grS P F S C i part t + 1 := wU64 (by have := gr_bound (P := P) (F := F) (S := S) (C := C) (i := i) (part := part) ht; omega) (by omega)
      refine SG.walk tab_ok mx 400 [false, true, true, true] [hdB true, hdC x, hdU (grS P F S C i part t + 1), hdU (grS P F S C i part t), hdU 0] ?_
      conv => whnf
      try dsimp only [rowL, rowN, growOk, hiN, fromL, tightN, maxOk]
      refine ⟨?_, ?_⟩
      · simp only [hw1, hw2]
        repeat' apply And.intro
        all_goals first
          | exact shownC
          | exact hat (thereP rfl rfl rfl)
          | exact hg1 (thereP rfl rfl rfl) e1
          | exact grantedC (thereP rfl rfl rfl) hS ht
          | exact hgz (thereP rfl rfl rfl)
          | exact beq_self_eq_true _
          | trivial
          | rfl
          | omega
          | ((try dsimp only [rowL, rowN]); simp only [beq_iff_eq, beq_eq_false_iff_ne, bne_iff_ne, bne_eq_false_iff_eq, decide_eq_true_eq, decide_eq_false_iff_not, ne_eq, Bool.not_eq_true', Bool.not_eq_false', Bool.not_eq_eq_eq_not, Bool.not_true, Bool.not_false, Option.some.injEq, Option.getD_some, Option.getD_none]; omega)
          | (simp; done)
          | (simp; omega)
      refine SG.ret tab_ok Try.func4 rfl ?_
      intro ρ w' v hm hv
      exact top_v hm hv (beq_self_eq_true _)
    · have e1 : grS P F S C i part (t + 1) = grS P F S C i part t := by rw [hst, ownB, if_neg (fun h => g2 h.2), Int.add_zero]
      have hw2 : IntKind.u64.wrap (grS P F S C i part t + 0) = grS P F S C i part t := by rw [Int.add_zero]; exact wU64 (by have := gr_bound (P := P) (F := F) (S := S) (C := C) (i := i) (part := part) ht; omega) (by omega)
      refine SG.walk tab_ok mx 400 [false, true, false, true] [hdB true, hdC x, hdU (grS P F S C i part t), hdU (grS P F S C i part t), hdU 0] ?_
      conv => whnf
      try dsimp only [rowL, rowN, growOk, hiN, fromL, tightN, maxOk]
      refine ⟨?_, ?_⟩
      · simp only [hw1, hw2]
        repeat' apply And.intro
        all_goals first
          | exact shownC
          | exact hat (thereP rfl rfl rfl)
          | exact hg1 (thereP rfl rfl rfl) e1
          | exact grantedC (thereP rfl rfl rfl) hS ht
          | exact hgz (thereP rfl rfl rfl)
          | exact beq_self_eq_true _
          | trivial
          | rfl
          | omega
          | ((try dsimp only [rowL, rowN]); simp only [beq_iff_eq, beq_eq_false_iff_ne, bne_iff_ne, bne_eq_false_iff_eq, decide_eq_true_eq, decide_eq_false_iff_not, ne_eq, Bool.not_eq_true', Bool.not_eq_false', Bool.not_eq_eq_eq_not, Bool.not_true, Bool.not_false, Option.some.injEq, Option.getD_some, Option.getD_none]; omega)
          | (simp; done)
          | (simp; omega)
      refine SG.ret tab_ok Try.func4 rfl ?_
      intro ρ w' v hm hv
      exact top_v hm hv (beq_self_eq_true _)
  · have e1 : grS P F S C i part (t + 1) = grS P F S C i part t := by rw [hst, ownB, if_neg (fun h => g1 h.1), Int.add_zero]
    have hw2 : IntKind.u64.wrap (grS P F S C i part t + 0) = grS P F S C i part t := by rw [Int.add_zero]; exact wU64 (by have := gr_bound (P := P) (F := F) (S := S) (C := C) (i := i) (part := part) ht; omega) (by omega)
    refine SG.walk tab_ok mx 400 [false, false, true] [hdB true, hdC x, hdU (grS P F S C i part t), hdU (grS P F S C i part t), hdU 0] ?_
    conv => whnf
    try dsimp only [rowL, rowN, growOk, hiN, fromL, tightN, maxOk]
    refine ⟨?_, ?_⟩
    · simp only [hw1, hw2]
      repeat' apply And.intro
      all_goals first
        | exact shownC
        | exact hat (thereP rfl rfl rfl)
        | exact hg1 (thereP rfl rfl rfl) e1
        | exact grantedC (thereP rfl rfl rfl) hS ht
        | exact hgz (thereP rfl rfl rfl)
        | exact beq_self_eq_true _
        | trivial
        | rfl
        | omega
        | ((try dsimp only [rowL, rowN]); simp only [beq_iff_eq, beq_eq_false_iff_ne, bne_iff_ne, bne_eq_false_iff_eq, decide_eq_true_eq, decide_eq_false_iff_not, ne_eq, Bool.not_eq_true', Bool.not_eq_false', Bool.not_eq_eq_eq_not, Bool.not_true, Bool.not_false, Option.some.injEq, Option.getD_some, Option.getD_none]; omega)
        | (simp; done)
        | (simp; omega)
    refine SG.ret tab_ok Try.func4 rfl ?_
    intro ρ w' v hm hv
    exact top_v hm hv (beq_self_eq_true _)
end Go.Proofs.Ytpnfjkkofdlndaa
