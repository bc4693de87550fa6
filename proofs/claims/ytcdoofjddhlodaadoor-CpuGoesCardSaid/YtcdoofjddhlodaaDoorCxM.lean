/- Processors: where an instruction goes, what undoes what. -/
import Derived.Test.YtcdoofjddhlodaaDoorCxL
namespace Go.Proofs.YtcdoofjddhlodaaDoor
open Go.Sx Go.RowKit
set_option linter.unusedVariables false
set_option linter.unusedSimpArgs false
set_option linter.unusedSectionVars false
theorem doesX {W : Base} {B : List (Option (List At))} {Rs : List (Option Row)} (hU : UB W) {R Q : Nat → Int} {p q o a b i : Int} (hR : regs R) (hm : rMay o a b i = true) (h : (1 ≤ o ∧ o ≤ 13) ∨ (18 ≤ o ∧ o ≤ 23)) (e1 : (doO R p ⟨#[]⟩ o a b i).R = Q) (e2 : (doO R p ⟨#[]⟩ o a b i).p = q) : CallOk Tryd.prog W B Rs 13 [cpuS R p, insS o a b i] (hdT [.agg (cpuC Q q), .one (.lb true)]) := by
  subst e1 e2; exact doesO hU hR hm h
theorem doO_alu {R : Nat → Int} {p o a b i : Int} {m : ByteArray} (h : o ≤ 13) : (doO R p m o a b i).R = updR R a.toNat (recN o (R a.toNat) (R b.toNat) i) ∧ (doO R p m o a b i).p = IntKind.u32.wrap (p + 4) := by unfold doO; rw [if_pos h]; exact ⟨rfl, rfl⟩
theorem doO_jmp {R : Nat → Int} {p o a b i : Int} {m : ByteArray} (h : ¬ o ≤ 13) : (doO R p m o a b i).R = jmpR o R p a ∧ (doO R p m o a b i).p = jmpP o R p a b i := by unfold doO; rw [if_neg h]; exact ⟨rfl, rfl⟩
set_option maxHeartbeats 4000000 in
set_option maxRecDepth 100000 in
theorem goes_walk (w : World) (R : Nat → Int) (p o a b i : Int) (hT : UsesAt w) (hR : regs R) :
    Calls Tryd.prog 10 #[cpuV R p, insV o a b i] w fun e w' => e = .returned (.bool true) ∧ Below w.heap.size w w' := by
  have hU : UB ⟨w, none, [], []⟩ := ⟨hT, rfl⟩
  refine calls_top Tryd.func10 rfl [] [] [cpuS R p, insS o a b i] .nil ⟨rfl, rfl, trivial⟩ ?_
  by_cases hd : rMay o a b i = true ∧ ¬ ((14 ≤ o ∧ o ≤ 17) ∨ o = 24)
  · have hk := kinds hd.1 hd.2
    obtain ⟨_, _, a0, a7, b0, b7, _, _⟩ := may_range hd.1
    have hfar : IntKind.u32.wrap (p + IntKind.u32.wrap (4 * IntKind.u32.wrap i)) = farN p i := rfl
    by_cases h13 : o ≤ 13
    · obtain ⟨e1, e2⟩ := doO_alu (R := R) (p := p) (a := a) (b := b) (i := i) (m := ⟨#[]⟩) h13
      refine SG.walk tab_ok mx 400 [false, false, false, false, false, false, true] [hdB true, hdT [.agg (cpuC (updR R a.toNat (recN o (R a.toNat) (R b.toNat) i)) (IntKind.u32.wrap (p + 4))), .one (.lb true)]] ?_
      conv => whnf
      try dsimp only [rowL, rowN, growOk, hiN, fromL, tightN, maxOk]
      refine ⟨?_, ?_⟩
      · repeat' apply And.intro
        all_goals first
          | exact shownC hU
          | exact doesX hU hR hd.1 hk e1 e2
          | trivial
          | rfl
          | omega
          | ((try dsimp only [rowL, rowN]); simp only [beq_iff_eq, beq_eq_false_iff_ne, bne_iff_ne, bne_eq_false_iff_eq, decide_eq_true_eq, decide_eq_false_iff_not, ne_eq, Bool.not_eq_true', Bool.not_eq_false', Bool.not_eq_eq_eq_not, Bool.not_true, Bool.not_false, Option.some.injEq, Option.getD_some, Option.getD_none]; omega)
          | (simp; done)
          | (simp; omega)
      refine SG.ret tab_ok Tryd.func10 rfl ?_
      intro ρ w' v hm hv
      exact top_v hm hv (beq_self_eq_true _)
    obtain ⟨e1, e2⟩ := doO_jmp (R := R) (p := p) (a := a) (b := b) (i := i) (m := ⟨#[]⟩) h13
    have hc : o = 18 ∨ o = 19 ∨ o = 20 ∨ o = 21 ∨ o = 22 ∨ o = 23 := by omega
    rcases hc with rfl | rfl | rfl | rfl | rfl | rfl
    · refine SG.walk tab_ok mx 400 [true, true] [hdB true, hdT [.agg (cpuC (R) (farN p i)), .one (.lb true)]] ?_
      conv => whnf
      try dsimp only [rowL, rowN, growOk, hiN, fromL, tightN, maxOk]
      refine ⟨?_, ?_⟩
      · try simp only [hfar, show IntKind.u32.wrap (p + 4) = behN p from rfl]
        repeat' apply And.intro
        all_goals first
          | exact shownC hU
          | exact doesX hU hR hd.1 hk e1 e2
          | trivial
          | rfl
          | omega
          | ((try dsimp only [rowL, rowN]); simp only [beq_iff_eq, beq_eq_false_iff_ne, bne_iff_ne, bne_eq_false_iff_eq, decide_eq_true_eq, decide_eq_false_iff_not, ne_eq, Bool.not_eq_true', Bool.not_eq_false', Bool.not_eq_eq_eq_not, Bool.not_true, Bool.not_false, Option.some.injEq, Option.getD_some, Option.getD_none]; omega)
          | (simp; done)
          | (simp; omega)
      refine SG.ret tab_ok Tryd.func10 rfl ?_
      intro ρ w' v hm hv
      exact top_v hm hv (beq_self_eq_true _)
    · refine SG.walk tab_ok mx 400 [false, true] [hdB true, hdT [.agg (cpuC (updR R a.toNat (behN p)) (farN p i)), .one (.lb true)]] ?_
      conv => whnf
      try dsimp only [rowL, rowN, growOk, hiN, fromL, tightN, maxOk]
      refine ⟨?_, ?_⟩
      · try simp only [hfar, show IntKind.u32.wrap (p + 4) = behN p from rfl]
        repeat' apply And.intro
        all_goals first
          | exact shownC hU
          | exact doesX hU hR hd.1 hk e1 e2
          | trivial
          | rfl
          | omega
          | ((try dsimp only [rowL, rowN]); simp only [beq_iff_eq, beq_eq_false_iff_ne, bne_iff_ne, bne_eq_false_iff_eq, decide_eq_true_eq, decide_eq_false_iff_not, ne_eq, Bool.not_eq_true', Bool.not_eq_false', Bool.not_eq_eq_eq_not, Bool.not_true, Bool.not_false, Option.some.injEq, Option.getD_some, Option.getD_none]; omega)
          | (simp; done)
          | (simp; omega)
      refine SG.ret tab_ok Tryd.func10 rfl ?_
      intro ρ w' v hm hv
      exact top_v hm hv (beq_self_eq_true _)
    · refine SG.walk tab_ok mx 400 [false, false, true, true] [hdB true, hdT [.agg (cpuC (R) (R a.toNat)), .one (.lb true)]] ?_
      conv => whnf
      try dsimp only [rowL, rowN, growOk, hiN, fromL, tightN, maxOk]
      refine ⟨?_, ?_⟩
      · try simp only [hfar, show IntKind.u32.wrap (p + 4) = behN p from rfl, pick8 a0 a7]
        repeat' apply And.intro
        all_goals first
          | exact shownC hU
          | exact doesX hU hR hd.1 hk e1 e2
          | trivial
          | rfl
          | omega
          | ((try dsimp only [rowL, rowN]); simp only [beq_iff_eq, beq_eq_false_iff_ne, bne_iff_ne, bne_eq_false_iff_eq, decide_eq_true_eq, decide_eq_false_iff_not, ne_eq, Bool.not_eq_true', Bool.not_eq_false', Bool.not_eq_eq_eq_not, Bool.not_true, Bool.not_false, Option.some.injEq, Option.getD_some, Option.getD_none]; omega)
          | (simp; done)
          | (simp; omega)
      refine SG.ret tab_ok Tryd.func10 rfl ?_
      intro ρ w' v hm hv
      exact top_v hm hv (by simp)
    · rcases Classical.em (jmpP 21 R p a b i = farN p i) with hj | hj
      · rw [hj] at e2
        refine SG.walk tab_ok mx 400 [false, false, false, true, true, true] [hdB true, hdT [.agg (cpuC (R) (farN p i)), .one (.lb true)]] ?_
        conv => whnf
        try dsimp only [rowL, rowN, growOk, hiN, fromL, tightN, maxOk]
        refine ⟨?_, ?_⟩
        · try simp only [hfar, show IntKind.u32.wrap (p + 4) = behN p from rfl]
          repeat' apply And.intro
          all_goals first
            | exact shownC hU
            | exact doesX hU hR hd.1 hk e1 e2
            | trivial
            | rfl
            | omega
            | ((try dsimp only [rowL, rowN]); simp only [beq_iff_eq, beq_eq_false_iff_ne, bne_iff_ne, bne_eq_false_iff_eq, decide_eq_true_eq, decide_eq_false_iff_not, ne_eq, Bool.not_eq_true', Bool.not_eq_false', Bool.not_eq_eq_eq_not, Bool.not_true, Bool.not_false, Option.some.injEq, Option.getD_some, Option.getD_none]; omega)
            | (simp; done)
            | (simp; omega)
        refine SG.ret tab_ok Tryd.func10 rfl ?_
        intro ρ w' v hm hv
        exact top_v hm hv (by simp)
      · have hb : jmpP 21 R p a b i = behN p := by
          by_cases g : R a.toNat = R b.toNat
          · exact absurd (if_pos g) hj
          · exact if_neg g
        rw [hb] at e2 hj
        refine SG.walk tab_ok mx 400 [false, false, false, true, true, false, true] [hdB true, hdT [.agg (cpuC (R) (behN p)), .one (.lb true)]] ?_
        conv => whnf
        try dsimp only [rowL, rowN, growOk, hiN, fromL, tightN, maxOk]
        refine ⟨?_, ?_⟩
        · try simp only [hfar, show IntKind.u32.wrap (p + 4) = behN p from rfl]
          repeat' apply And.intro
          all_goals first
            | exact shownC hU
            | exact doesX hU hR hd.1 hk e1 e2
            | trivial
            | rfl
            | omega
            | ((try dsimp only [rowL, rowN]); simp only [beq_iff_eq, beq_eq_false_iff_ne, bne_iff_ne, bne_eq_false_iff_eq, decide_eq_true_eq, decide_eq_false_iff_not, ne_eq, Bool.not_eq_true', Bool.not_eq_false', Bool.not_eq_eq_eq_not, Bool.not_true, Bool.not_false, Option.some.injEq, Option.getD_some, Option.getD_none]; omega)
            | (simp; done)
            | (simp; omega)
        refine SG.ret tab_ok Tryd.func10 rfl ?_
        intro ρ w' v hm hv
        exact top_v hm hv (by simp)
    · rcases Classical.em (jmpP 22 R p a b i = farN p i) with hj | hj
      · rw [hj] at e2
        refine SG.walk tab_ok mx 400 [false, false, false, false, true, true, true] [hdB true, hdT [.agg (cpuC (R) (farN p i)), .one (.lb true)]] ?_
        conv => whnf
        try dsimp only [rowL, rowN, growOk, hiN, fromL, tightN, maxOk]
        refine ⟨?_, ?_⟩
        · try simp only [hfar, show IntKind.u32.wrap (p + 4) = behN p from rfl]
          repeat' apply And.intro
          all_goals first
            | exact shownC hU
            | exact doesX hU hR hd.1 hk e1 e2
            | trivial
            | rfl
            | omega
            | ((try dsimp only [rowL, rowN]); simp only [beq_iff_eq, beq_eq_false_iff_ne, bne_iff_ne, bne_eq_false_iff_eq, decide_eq_true_eq, decide_eq_false_iff_not, ne_eq, Bool.not_eq_true', Bool.not_eq_false', Bool.not_eq_eq_eq_not, Bool.not_true, Bool.not_false, Option.some.injEq, Option.getD_some, Option.getD_none]; omega)
            | (simp; done)
            | (simp; omega)
        refine SG.ret tab_ok Tryd.func10 rfl ?_
        intro ρ w' v hm hv
        exact top_v hm hv (by simp)
      · have hb : jmpP 22 R p a b i = behN p := by
          by_cases g : IntKind.i32.wrap (R a.toNat) < IntKind.i32.wrap (R b.toNat)
          · exact absurd (if_pos g) hj
          · exact if_neg g
        rw [hb] at e2 hj
        refine SG.walk tab_ok mx 400 [false, false, false, false, true, true, false, true] [hdB true, hdT [.agg (cpuC (R) (behN p)), .one (.lb true)]] ?_
        conv => whnf
        try dsimp only [rowL, rowN, growOk, hiN, fromL, tightN, maxOk]
        refine ⟨?_, ?_⟩
        · try simp only [hfar, show IntKind.u32.wrap (p + 4) = behN p from rfl]
          repeat' apply And.intro
          all_goals first
            | exact shownC hU
            | exact doesX hU hR hd.1 hk e1 e2
            | trivial
            | rfl
            | omega
            | ((try dsimp only [rowL, rowN]); simp only [beq_iff_eq, beq_eq_false_iff_ne, bne_iff_ne, bne_eq_false_iff_eq, decide_eq_true_eq, decide_eq_false_iff_not, ne_eq, Bool.not_eq_true', Bool.not_eq_false', Bool.not_eq_eq_eq_not, Bool.not_true, Bool.not_false, Option.some.injEq, Option.getD_some, Option.getD_none]; omega)
            | (simp; done)
            | (simp; omega)
        refine SG.ret tab_ok Tryd.func10 rfl ?_
        intro ρ w' v hm hv
        exact top_v hm hv (by simp)
    · rcases Classical.em (jmpP 23 R p a b i = farN p i) with hj | hj
      · rw [hj] at e2
        refine SG.walk tab_ok mx 400 [false, false, false, false, false, true, true] [hdB true, hdT [.agg (cpuC (R) (farN p i)), .one (.lb true)]] ?_
        conv => whnf
        try dsimp only [rowL, rowN, growOk, hiN, fromL, tightN, maxOk]
        refine ⟨?_, ?_⟩
        · try simp only [hfar, show IntKind.u32.wrap (p + 4) = behN p from rfl]
          repeat' apply And.intro
          all_goals first
            | exact shownC hU
            | exact doesX hU hR hd.1 hk e1 e2
            | trivial
            | rfl
            | omega
            | ((try dsimp only [rowL, rowN]); simp only [beq_iff_eq, beq_eq_false_iff_ne, bne_iff_ne, bne_eq_false_iff_eq, decide_eq_true_eq, decide_eq_false_iff_not, ne_eq, Bool.not_eq_true', Bool.not_eq_false', Bool.not_eq_eq_eq_not, Bool.not_true, Bool.not_false, Option.some.injEq, Option.getD_some, Option.getD_none]; omega)
            | (simp; done)
            | (simp; omega)
        refine SG.ret tab_ok Tryd.func10 rfl ?_
        intro ρ w' v hm hv
        exact top_v hm hv (by simp)
      · have hb : jmpP 23 R p a b i = behN p := by
          by_cases g : R a.toNat < R b.toNat
          · exact absurd (if_pos g) hj
          · exact if_neg g
        rw [hb] at e2 hj
        refine SG.walk tab_ok mx 400 [false, false, false, false, false, true, false, true] [hdB true, hdT [.agg (cpuC (R) (behN p)), .one (.lb true)]] ?_
        conv => whnf
        try dsimp only [rowL, rowN, growOk, hiN, fromL, tightN, maxOk]
        refine ⟨?_, ?_⟩
        · try simp only [hfar, show IntKind.u32.wrap (p + 4) = behN p from rfl]
          repeat' apply And.intro
          all_goals first
            | exact shownC hU
            | exact doesX hU hR hd.1 hk e1 e2
            | trivial
            | rfl
            | omega
            | ((try dsimp only [rowL, rowN]); simp only [beq_iff_eq, beq_eq_false_iff_ne, bne_iff_ne, bne_eq_false_iff_eq, decide_eq_true_eq, decide_eq_false_iff_not, ne_eq, Bool.not_eq_true', Bool.not_eq_false', Bool.not_eq_eq_eq_not, Bool.not_true, Bool.not_false, Option.some.injEq, Option.getD_some, Option.getD_none]; omega)
            | (simp; done)
            | (simp; omega)
        refine SG.ret tab_ok Tryd.func10 rfl ?_
        intro ρ w' v hm hv
        exact top_v hm hv (by simp)
  · have hn := no_of hd
    refine SG.walk tab_ok mx 400 [true] [hdB true, hdT [.agg (cpuC R p), .one (.lb false)]] ?_
    conv => whnf
    try dsimp only [rowL, rowN, growOk, hiN, fromL, tightN, maxOk]
    refine ⟨?_, ?_⟩
    · repeat' apply And.intro
      all_goals first
        | exact shownC hU
        | exact doesNo hU hn
        | trivial
        | rfl
        | omega
        | ((try dsimp only [rowL, rowN]); simp only [beq_iff_eq, beq_eq_false_iff_ne, bne_iff_ne, bne_eq_false_iff_eq, decide_eq_true_eq, decide_eq_false_iff_not, ne_eq, Bool.not_eq_true', Bool.not_eq_false', Bool.not_eq_eq_eq_not, Bool.not_true, Bool.not_false, Option.some.injEq, Option.getD_some, Option.getD_none]; omega)
        | (simp; done)
        | (simp; omega)
    refine SG.ret tab_ok Tryd.func10 rfl ?_
    intro ρ w' v hm hv
    exact top_v hm hv (by simp)
theorem addsub {R : Nat → Int} (hR : regs R) {a b : Int} (ha : 0 ≤ a ∧ a ≤ 7) (hb : 0 ≤ b ∧ b ≤ 7) (hne : a ≠ b) : updR (updR R a.toNat (recN 4 (R a.toNat) (R b.toNat) 0)) a.toNat (recN 5 ((updR R a.toNat (recN 4 (R a.toNat) (R b.toNat) 0)) a.toNat) ((updR R a.toNat (recN 4 (R a.toNat) (R b.toNat) 0)) b.toNat) 0) = R := by
  have hx := hR a.toNat (by omega)
  have hy := hR b.toNat (by omega)
  have hn : a.toNat ≠ b.toNat := by omega
  have e : recN 5 (recN 4 (R a.toNat) (R b.toNat) 0) (R b.toNat) 0 = R a.toNat := by
    rw [v4 hx.1 hx.2 hy.1 hy.2, v5 (wr_ok _).1 (wr_ok _).2 hy.1 hy.2, wrapU, wrapU]; omega
  funext j
  simp only [updR, if_true, if_neg hn]
  by_cases h : a.toNat = j
  · rw [if_pos h, e, h]
  · rw [if_neg h, if_neg h]
theorem bits_xx {x y : Int} (x0 : 0 ≤ x) (x1 : x < 4294967296) : bits .xor .u32 (bits .xor .u32 x y) y = x := by
  have hb : ∀ z : BitVec 32, IntKind.u32.wrap (z.toNat : Int) = z.toNat := fun z => by
    rw [wrapU]
    have := z.isLt
    omega
  show IntKind.u32.wrap (((BitVec.ofInt 32 (IntKind.u32.wrap (((BitVec.ofInt 32 x ^^^ BitVec.ofInt 32 y).toNat : Nat) : Int)) ^^^ BitVec.ofInt 32 y).toNat : Nat) : Int) = x
  rw [hb, hb]
  have e1 : BitVec.ofInt 32 (((BitVec.ofInt 32 x ^^^ BitVec.ofInt 32 y).toNat : Nat) : Int) = BitVec.ofInt 32 x ^^^ BitVec.ofInt 32 y := by
    rw [BitVec.ofInt_natCast, BitVec.ofNat_toNat]
    exact BitVec.setWidth_eq _
  rw [e1, BitVec.xor_assoc, BitVec.xor_self, BitVec.xor_zero]
  obtain ⟨k, rfl⟩ := Int.eq_ofNat_of_zero_le x0
  rw [BitVec.ofInt_natCast, BitVec.toNat_ofNat]
  rw [Nat.mod_eq_of_lt (by omega)]
theorem xorxor {R : Nat → Int} (hR : regs R) {a b : Int} (ha : 0 ≤ a ∧ a ≤ 7) (hb : 0 ≤ b ∧ b ≤ 7) (hne : a ≠ b) : updR (updR R a.toNat (recN 10 (R a.toNat) (R b.toNat) 0)) a.toNat (recN 10 ((updR R a.toNat (recN 10 (R a.toNat) (R b.toNat) 0)) a.toNat) ((updR R a.toNat (recN 10 (R a.toNat) (R b.toNat) 0)) b.toNat) 0) = R := by
  have hx := hR a.toNat (by omega)
  have hn : a.toNat ≠ b.toNat := by omega
  have e : recN 10 (recN 10 (R a.toNat) (R b.toNat) 0) (R b.toNat) 0 = R a.toNat := bits_xx hx.1 hx.2
  funext j
  simp only [updR, if_true, if_neg hn]
  by_cases h : a.toNat = j
  · rw [if_pos h, e, h]
  · rw [if_neg h, if_neg h]
theorem may_alu {o a b : Int} (ho : 3 ≤ o ∧ o ≤ 12) (ha : 0 ≤ a ∧ a ≤ 7) (hb : 0 ≤ b ∧ b ≤ 7) : rMay o a b 0 = true := by
  simp [rMay, rA, rB]; omega
set_option maxHeartbeats 4000000 in
set_option maxRecDepth 100000 in
theorem undoes_walk (w : World) (R : Nat → Int) (p a b : Int) (hT : UsesAt w) (hR : regs R) :
    Calls Tryd.prog 11 #[cpuV R p, .int .i64 a, .int .i64 b] w fun e w' => e = .returned (.bool true) ∧ Below w.heap.size w w' := by
  have hU : UB ⟨w, none, [], []⟩ := ⟨hT, rfl⟩
  refine calls_top Tryd.func11 rfl [] [] [cpuS R p, intV a, intV b] .nil ⟨rfl, rfl, rfl, trivial⟩ ?_
  by_cases h1 : a < 0
  · refine SG.walk tab_ok mx 400 [true] [hdB true] ?_
    conv => whnf
    try dsimp only [rowL, rowN, growOk, hiN, fromL, tightN, maxOk]
    refine ⟨?_, ?_⟩
    · repeat' apply And.intro
      all_goals first
        | exact shownC hU
        | trivial
        | rfl
        | omega
        | ((try dsimp only [rowL, rowN]); simp only [beq_iff_eq, beq_eq_false_iff_ne, bne_iff_ne, bne_eq_false_iff_eq, decide_eq_true_eq, decide_eq_false_iff_not, ne_eq, Bool.not_eq_true', Bool.not_eq_false', Bool.not_eq_eq_eq_not, Bool.not_true, Bool.not_false, Option.some.injEq, Option.getD_some, Option.getD_none]; omega)
        | (simp; done)
        | (simp; omega)
    refine SG.ret tab_ok Tryd.func11 rfl ?_
    intro ρ w' v hm hv
    exact top_true hm hv rfl
  by_cases h2 : a > 7
  · refine SG.walk tab_ok mx 400 [false, true] [hdB true] ?_
    conv => whnf
    try dsimp only [rowL, rowN, growOk, hiN, fromL, tightN, maxOk]
    refine ⟨?_, ?_⟩
    · repeat' apply And.intro
      all_goals first
        | exact shownC hU
        | trivial
        | rfl
        | omega
        | ((try dsimp only [rowL, rowN]); simp only [beq_iff_eq, beq_eq_false_iff_ne, bne_iff_ne, bne_eq_false_iff_eq, decide_eq_true_eq, decide_eq_false_iff_not, ne_eq, Bool.not_eq_true', Bool.not_eq_false', Bool.not_eq_eq_eq_not, Bool.not_true, Bool.not_false, Option.some.injEq, Option.getD_some, Option.getD_none]; omega)
        | (simp; done)
        | (simp; omega)
    refine SG.ret tab_ok Tryd.func11 rfl ?_
    intro ρ w' v hm hv
    exact top_true hm hv rfl
  by_cases h3 : b < 0
  · refine SG.walk tab_ok mx 400 [false, false, true] [hdB true] ?_
    conv => whnf
    try dsimp only [rowL, rowN, growOk, hiN, fromL, tightN, maxOk]
    refine ⟨?_, ?_⟩
    · repeat' apply And.intro
      all_goals first
        | exact shownC hU
        | trivial
        | rfl
        | omega
        | ((try dsimp only [rowL, rowN]); simp only [beq_iff_eq, beq_eq_false_iff_ne, bne_iff_ne, bne_eq_false_iff_eq, decide_eq_true_eq, decide_eq_false_iff_not, ne_eq, Bool.not_eq_true', Bool.not_eq_false', Bool.not_eq_eq_eq_not, Bool.not_true, Bool.not_false, Option.some.injEq, Option.getD_some, Option.getD_none]; omega)
        | (simp; done)
        | (simp; omega)
    refine SG.ret tab_ok Tryd.func11 rfl ?_
    intro ρ w' v hm hv
    exact top_true hm hv rfl
  by_cases h4 : b > 7
  · refine SG.walk tab_ok mx 400 [false, false, false, true] [hdB true] ?_
    conv => whnf
    try dsimp only [rowL, rowN, growOk, hiN, fromL, tightN, maxOk]
    refine ⟨?_, ?_⟩
    · repeat' apply And.intro
      all_goals first
        | exact shownC hU
        | trivial
        | rfl
        | omega
        | ((try dsimp only [rowL, rowN]); simp only [beq_iff_eq, beq_eq_false_iff_ne, bne_iff_ne, bne_eq_false_iff_eq, decide_eq_true_eq, decide_eq_false_iff_not, ne_eq, Bool.not_eq_true', Bool.not_eq_false', Bool.not_eq_eq_eq_not, Bool.not_true, Bool.not_false, Option.some.injEq, Option.getD_some, Option.getD_none]; omega)
        | (simp; done)
        | (simp; omega)
    refine SG.ret tab_ok Tryd.func11 rfl ?_
    intro ρ w' v hm hv
    exact top_true hm hv rfl
  by_cases h5 : a = b
  · refine SG.walk tab_ok mx 400 [false, false, false, false, true] [hdB true] ?_
    conv => whnf
    try dsimp only [rowL, rowN, growOk, hiN, fromL, tightN, maxOk]
    refine ⟨?_, ?_⟩
    · repeat' apply And.intro
      all_goals first
        | exact shownC hU
        | trivial
        | rfl
        | omega
        | ((try dsimp only [rowL, rowN]); simp only [beq_iff_eq, beq_eq_false_iff_ne, bne_iff_ne, bne_eq_false_iff_eq, decide_eq_true_eq, decide_eq_false_iff_not, ne_eq, Bool.not_eq_true', Bool.not_eq_false', Bool.not_eq_eq_eq_not, Bool.not_true, Bool.not_false, Option.some.injEq, Option.getD_some, Option.getD_none]; omega)
        | (simp; done)
        | (simp; omega)
    refine SG.ret tab_ok Tryd.func11 rfl ?_
    intro ρ w' v hm hv
    exact top_true hm hv rfl
  have ha : 0 ≤ a ∧ a ≤ 7 := by omega
  have hb : 0 ≤ b ∧ b ≤ 7 := by omega
  have hx := hR a.toNat (by omega)
  have hy := hR b.toNat (by omega)
  have m4 := may_alu (o := 4) (by omega) ha hb
  have m5 := may_alu (o := 5) (by omega) ha hb
  have m10 := may_alu (o := 10) (by omega) ha hb
  have r4 := recN_ok (o := 4) (i := 0) hx.1 hx.2 hy.1 hy.2
  have r10 := recN_ok (o := 10) (i := 0) hx.1 hx.2 hy.1 hy.2
  have hR4 := regs_upd hR (k := a.toNat) r4.1 r4.2
  have hR10 := regs_upd hR (k := a.toNat) r10.1 r10.2
  obtain ⟨A1, A2⟩ := doO_alu (R := R) (p := p) (o := 4) (a := a) (b := b) (i := 0) (m := ⟨#[]⟩) (by decide)
  obtain ⟨B1, B2⟩ := doO_alu (R := updR R a.toNat (recN 4 (R a.toNat) (R b.toNat) 0)) (p := IntKind.u32.wrap (p + 4)) (o := 5) (a := a) (b := b) (i := 0) (m := ⟨#[]⟩) (by decide)
  rw [addsub hR ha hb h5] at B1
  obtain ⟨C1, C2⟩ := doO_alu (R := R) (p := p) (o := 10) (a := a) (b := b) (i := 0) (m := ⟨#[]⟩) (by decide)
  obtain ⟨D1, D2⟩ := doO_alu (R := updR R a.toNat (recN 10 (R a.toNat) (R b.toNat) 0)) (p := IntKind.u32.wrap (p + 4)) (o := 10) (a := a) (b := b) (i := 0) (m := ⟨#[]⟩) (by decide)
  rw [xorxor hR ha hb h5] at D1
  refine SG.walk tab_ok mx 400 [false, false, false, false, false, true] [hdB true, hdT [.agg (cpuC (updR R a.toNat (recN 4 (R a.toNat) (R b.toNat) 0)) (IntKind.u32.wrap (p + 4))), .one (.lb true)], hdT [.agg (cpuC R (IntKind.u32.wrap (IntKind.u32.wrap (p + 4) + 4))), .one (.lb true)], hdT [.agg (cpuC (updR R a.toNat (recN 10 (R a.toNat) (R b.toNat) 0)) (IntKind.u32.wrap (p + 4))), .one (.lb true)], hdT [.agg (cpuC R (IntKind.u32.wrap (IntKind.u32.wrap (p + 4) + 4))), .one (.lb true)]] ?_
  conv => whnf
  try dsimp only [rowL, rowN, growOk, hiN, fromL, tightN, maxOk]
  refine ⟨?_, ?_⟩
  · repeat' apply And.intro
    all_goals first
      | exact shownC hU
      | exact doesX hU hR m4 (.inl (by decide)) A1 A2
      | exact doesX hU (R := updR R a.toNat (recN 4 (R a.toNat) (R b.toNat) 0)) hR4 m5 (.inl (by decide)) B1 B2
      | exact doesX hU hR m10 (.inl (by decide)) C1 C2
      | exact doesX hU (R := updR R a.toNat (recN 10 (R a.toNat) (R b.toNat) 0)) hR10 m10 (.inl (by decide)) D1 D2
      | trivial
      | rfl
      | omega
      | ((try dsimp only [rowL, rowN]); simp only [beq_iff_eq, beq_eq_false_iff_ne, bne_iff_ne, bne_eq_false_iff_eq, decide_eq_true_eq, decide_eq_false_iff_not, ne_eq, Bool.not_eq_true', Bool.not_eq_false', Bool.not_eq_eq_eq_not, Bool.not_true, Bool.not_false, Option.some.injEq, Option.getD_some, Option.getD_none]; omega)
      | (simp; done)
      | (simp; omega)
  refine SG.ret tab_ok Tryd.func11 rfl ?_
  intro ρ w' v hm hv
  exact top_v hm hv (by simp)
end Go.Proofs.YtcdoofjddhlodaaDoor
