/- Processors: the document's step. -/
import Derived.Test.YtcdoofjddhlodaaDoorCxE
namespace Go.Proofs.YtcdoofjddhlodaaDoor
open Go.Sx Go.RowKit
set_option linter.unusedVariables false
set_option linter.unusedSimpArgs false
set_option linter.unusedSectionVars false
section
variable {W : Base} {B : List (Option (List At))} {Rs : List (Option Row)}
set_option maxHeartbeats 4000000 in
set_option maxRecDepth 100000 in
theorem rStepC {R : Nat → Int} {p : Int} {m : ByteArray} (hm32 : m.size < 4294967296) (hR : regs R) (hp : 0 ≤ p ∧ p < 4294967296) : CallOk Tryd.prog W B Rs 16 [cpuS R p, strV m] (outT (stepO R p m)) := by
  have hms : m.size ≤ 140737488351232 := by omega
  have hw := loadN_ok m p
  unfold stepO
  by_cases g1 : loadE m p = 0
  · rw [if_pos g1]
    by_cases g2 : tMay (loadN m p) = true
    · rw [if_pos g2]
      obtain ⟨o, ho⟩ : ∃ x, tO (loadN m p) = x := ⟨_, rfl⟩
      obtain ⟨a, ha⟩ : ∃ x, tA (loadN m p) = x := ⟨_, rfl⟩
      obtain ⟨b, hb⟩ : ∃ x, tB (loadN m p) = x := ⟨_, rfl⟩
      obtain ⟨i, hi⟩ : ∃ x, tI (loadN m p) = x := ⟨_, rfl⟩
      have hm : rMay o a b i = true := by have := g2; unfold tMay at this; rw [ho, ha, hb, hi] at this; exact this
      obtain ⟨o0, o1, a0, a7, b0, b7, _, _⟩ := may_range hm
      obtain ⟨x0, x1⟩ := hR a.toNat (by omega)
      obtain ⟨q0, q1⟩ := atN_ok R b i
      rw [ho, ha, hb, hi]
      unfold insO
      have tk : ∀ {W : Base} {B : List (Option (List At))} {Rs : List (Option Row)}, CallOk Tryd.prog W B Rs 30 [u32V (loadN m p)] (hdT [.agg (insC o a b i), .one (aI 0)]) := rTakeX hw g2 ho ha hb hi
      by_cases g3 : 14 ≤ o ∧ o ≤ 17
      · rw [if_pos g3]
        have hc : o = 14 ∨ o = 15 ∨ o = 16 ∨ o = 17 := by omega
        rcases hc with rfl | rfl | rfl | rfl
        · by_cases g : loadE m (atN R b i) = 0
          · rw [show movO R p m 14 a b i = ⟨updR R a.toNat (loadN m (atN R b i)), IntKind.u32.wrap (p + 4), m, 0⟩ from (if_pos g)]
            refine CallOk.enter Tryd.func16 (by kernel_rfl) rfl [] [] [cpuS R p, strV m] rfl rows0 (fun r h => by cases h) rfl rfl ?_
            intro w blk hblk
            refine SG.walk tab_ok mx 400 [false, false, true, false] [hdT [.one (aU (loadN m p)), .one (aI (loadE m p))], hdT [.agg (insC 14 a b i), .one (aI 0)], hdT [.one (aU (loadN m (atN R b i))), .one (aI (loadE m (atN R b i)))]] ?_
            conv => whnf
            try dsimp only [rowL, rowN, growOk, hiN, fromL, tightN, maxOk]
            refine ⟨?_, ?_⟩
            · try simp only [pick8 a0 a7, pick8 b0 b7, show IntKind.u32.wrap (R b.toNat + IntKind.u32.wrap i) = atN R b i from rfl]
              repeat' apply And.intro
              all_goals first
                | exact rLoadC hp.1 hp.2 hms
                | exact tk
                | exact rLoadC q0 q1 hms
                | trivial
                | rfl
                | omega
                | ((try dsimp only [rowL, rowN]); simp only [beq_iff_eq, beq_eq_false_iff_ne, bne_iff_ne, bne_eq_false_iff_eq, decide_eq_true_eq, decide_eq_false_iff_not, ne_eq, Bool.not_eq_true', Bool.not_eq_false', Bool.not_eq_eq_eq_not, Bool.not_true, Bool.not_false, Option.some.injEq, Option.getD_some, Option.getD_none]; omega)
                | (simp; done)
                | (simp; omega)
            try simp only [pick8 a0 a7, pick8 b0 b7, show IntKind.u32.wrap (R b.toNat + IntKind.u32.wrap i) = atN R b i from rfl]
            refine SG.ret tab_ok Tryd.func16 rfl ?_
            intro ρ w' v hm hv
            exact Post.mk hm (.tup [.agg (cpuC (updR R a.toNat (loadN m (atN R b i))) (IntKind.u32.wrap (p + 4))), .one (.v (.string (m))), .one (aI 0)]) [] none [] hv rfl rows0 rfl (by simp)
          · rw [show movO R p m 14 a b i = ⟨R, p, m, 2⟩ from (if_neg g)]
            refine CallOk.enter Tryd.func16 (by kernel_rfl) rfl [] [] [cpuS R p, strV m] rfl rows0 (fun r h => by cases h) rfl rfl ?_
            intro w blk hblk
            refine SG.walk tab_ok mx 400 [false, false, true, true] [hdT [.one (aU (loadN m p)), .one (aI (loadE m p))], hdT [.agg (insC 14 a b i), .one (aI 0)], hdT [.one (aU (loadN m (atN R b i))), .one (aI (loadE m (atN R b i)))]] ?_
            conv => whnf
            try dsimp only [rowL, rowN, growOk, hiN, fromL, tightN, maxOk]
            refine ⟨?_, ?_⟩
            · try simp only [pick8 a0 a7, pick8 b0 b7, show IntKind.u32.wrap (R b.toNat + IntKind.u32.wrap i) = atN R b i from rfl]
              repeat' apply And.intro
              all_goals first
                | exact rLoadC hp.1 hp.2 hms
                | exact tk
                | exact rLoadC q0 q1 hms
                | trivial
                | rfl
                | omega
                | ((try dsimp only [rowL, rowN]); simp only [beq_iff_eq, beq_eq_false_iff_ne, bne_iff_ne, bne_eq_false_iff_eq, decide_eq_true_eq, decide_eq_false_iff_not, ne_eq, Bool.not_eq_true', Bool.not_eq_false', Bool.not_eq_eq_eq_not, Bool.not_true, Bool.not_false, Option.some.injEq, Option.getD_some, Option.getD_none]; omega)
                | (simp; done)
                | (simp; omega)
            try simp only [pick8 a0 a7, pick8 b0 b7, show IntKind.u32.wrap (R b.toNat + IntKind.u32.wrap i) = atN R b i from rfl]
            refine SG.ret tab_ok Tryd.func16 rfl ?_
            intro ρ w' v hm hv
            exact Post.mk hm (.tup [.agg (cpuC (R) (p)), .one (.v (.string (m))), .one (aI 2)]) [] none [] hv rfl rows0 rfl (by simp)
        · by_cases g : loadE m (atN R b i) = 0
          · rw [show movO R p m 15 a b i = ⟨updR R a.toNat (R a.toNat), IntKind.u32.wrap (p + 4), storeM m (atN R b i) (R a.toNat), 0⟩ from (if_pos g)]
            refine CallOk.enter Tryd.func16 (by kernel_rfl) rfl [] [] [cpuS R p, strV m] rfl rows0 (fun r h => by cases h) rfl rfl ?_
            intro w blk hblk
            refine SG.walk tab_ok mx 400 [false, false, false, true, false] [hdT [.one (aU (loadN m p)), .one (aI (loadE m p))], hdT [.agg (insC 15 a b i), .one (aI 0)], hdT [.one (.v (.string (storeM m (atN R b i) (R a.toNat)))), .one (aI (loadE m (atN R b i)))]] ?_
            conv => whnf
            try dsimp only [rowL, rowN, growOk, hiN, fromL, tightN, maxOk]
            refine ⟨?_, ?_⟩
            · try simp only [pick8 a0 a7, pick8 b0 b7, show IntKind.u32.wrap (R b.toNat + IntKind.u32.wrap i) = atN R b i from rfl]
              repeat' apply And.intro
              all_goals first
                | exact rLoadC hp.1 hp.2 hms
                | exact tk
                | exact rStoreC q0 q1 x0 x1 hm32
                | trivial
                | rfl
                | omega
                | ((try dsimp only [rowL, rowN]); simp only [beq_iff_eq, beq_eq_false_iff_ne, bne_iff_ne, bne_eq_false_iff_eq, decide_eq_true_eq, decide_eq_false_iff_not, ne_eq, Bool.not_eq_true', Bool.not_eq_false', Bool.not_eq_eq_eq_not, Bool.not_true, Bool.not_false, Option.some.injEq, Option.getD_some, Option.getD_none]; omega)
                | (simp; done)
                | (simp; omega)
            try simp only [pick8 a0 a7, pick8 b0 b7, show IntKind.u32.wrap (R b.toNat + IntKind.u32.wrap i) = atN R b i from rfl]
            refine SG.ret tab_ok Tryd.func16 rfl ?_
            intro ρ w' v hm hv
            exact Post.mk hm (.tup [.agg (cpuC (updR R a.toNat (R a.toNat)) (IntKind.u32.wrap (p + 4))), .one (.v (.string (storeM m (atN R b i) (R a.toNat)))), .one (aI 0)]) [] none [] hv rfl rows0 rfl (by simp)
          · rw [show movO R p m 15 a b i = ⟨R, p, m, 2⟩ from (if_neg g)]
            refine CallOk.enter Tryd.func16 (by kernel_rfl) rfl [] [] [cpuS R p, strV m] rfl rows0 (fun r h => by cases h) rfl rfl ?_
            intro w blk hblk
            refine SG.walk tab_ok mx 400 [false, false, false, true, true] [hdT [.one (aU (loadN m p)), .one (aI (loadE m p))], hdT [.agg (insC 15 a b i), .one (aI 0)], hdT [.one (.v (.string (storeM m (atN R b i) (R a.toNat)))), .one (aI (loadE m (atN R b i)))]] ?_
            conv => whnf
            try dsimp only [rowL, rowN, growOk, hiN, fromL, tightN, maxOk]
            refine ⟨?_, ?_⟩
            · try simp only [pick8 a0 a7, pick8 b0 b7, show IntKind.u32.wrap (R b.toNat + IntKind.u32.wrap i) = atN R b i from rfl]
              repeat' apply And.intro
              all_goals first
                | exact rLoadC hp.1 hp.2 hms
                | exact tk
                | exact rStoreC q0 q1 x0 x1 hm32
                | trivial
                | rfl
                | omega
                | ((try dsimp only [rowL, rowN]); simp only [beq_iff_eq, beq_eq_false_iff_ne, bne_iff_ne, bne_eq_false_iff_eq, decide_eq_true_eq, decide_eq_false_iff_not, ne_eq, Bool.not_eq_true', Bool.not_eq_false', Bool.not_eq_eq_eq_not, Bool.not_true, Bool.not_false, Option.some.injEq, Option.getD_some, Option.getD_none]; omega)
                | (simp; done)
                | (simp; omega)
            try simp only [pick8 a0 a7, pick8 b0 b7, show IntKind.u32.wrap (R b.toNat + IntKind.u32.wrap i) = atN R b i from rfl]
            refine SG.ret tab_ok Tryd.func16 rfl ?_
            intro ρ w' v hm hv
            exact Post.mk hm (.tup [.agg (cpuC (R) (p)), .one (.v (.string (m))), .one (aI 2)]) [] none [] hv rfl rows0 rfl (by simp)
        · by_cases g : byteE m (atN R b i) = 0
          · rw [show movO R p m 16 a b i = ⟨updR R a.toNat (byteN m (atN R b i)), IntKind.u32.wrap (p + 4), m, 0⟩ from (if_pos g)]
            refine CallOk.enter Tryd.func16 (by kernel_rfl) rfl [] [] [cpuS R p, strV m] rfl rows0 (fun r h => by cases h) rfl rfl ?_
            intro w blk hblk
            refine SG.walk tab_ok mx 400 [false, false, false, false, true, false] [hdT [.one (aU (loadN m p)), .one (aI (loadE m p))], hdT [.agg (insC 16 a b i), .one (aI 0)], hdT [.one (aU (byteN m (atN R b i))), .one (aI (byteE m (atN R b i)))]] ?_
            conv => whnf
            try dsimp only [rowL, rowN, growOk, hiN, fromL, tightN, maxOk]
            refine ⟨?_, ?_⟩
            · try simp only [pick8 a0 a7, pick8 b0 b7, show IntKind.u32.wrap (R b.toNat + IntKind.u32.wrap i) = atN R b i from rfl]
              repeat' apply And.intro
              all_goals first
                | exact rLoadC hp.1 hp.2 hms
                | exact tk
                | exact rByteC q0 q1 hms
                | trivial
                | rfl
                | omega
                | ((try dsimp only [rowL, rowN]); simp only [beq_iff_eq, beq_eq_false_iff_ne, bne_iff_ne, bne_eq_false_iff_eq, decide_eq_true_eq, decide_eq_false_iff_not, ne_eq, Bool.not_eq_true', Bool.not_eq_false', Bool.not_eq_eq_eq_not, Bool.not_true, Bool.not_false, Option.some.injEq, Option.getD_some, Option.getD_none]; omega)
                | (simp; done)
                | (simp; omega)
            try simp only [pick8 a0 a7, pick8 b0 b7, show IntKind.u32.wrap (R b.toNat + IntKind.u32.wrap i) = atN R b i from rfl]
            refine SG.ret tab_ok Tryd.func16 rfl ?_
            intro ρ w' v hm hv
            exact Post.mk hm (.tup [.agg (cpuC (updR R a.toNat (byteN m (atN R b i))) (IntKind.u32.wrap (p + 4))), .one (.v (.string (m))), .one (aI 0)]) [] none [] hv rfl rows0 rfl (by simp)
          · rw [show movO R p m 16 a b i = ⟨R, p, m, 2⟩ from (if_neg g)]
            refine CallOk.enter Tryd.func16 (by kernel_rfl) rfl [] [] [cpuS R p, strV m] rfl rows0 (fun r h => by cases h) rfl rfl ?_
            intro w blk hblk
            refine SG.walk tab_ok mx 400 [false, false, false, false, true, true] [hdT [.one (aU (loadN m p)), .one (aI (loadE m p))], hdT [.agg (insC 16 a b i), .one (aI 0)], hdT [.one (aU (byteN m (atN R b i))), .one (aI (byteE m (atN R b i)))]] ?_
            conv => whnf
            try dsimp only [rowL, rowN, growOk, hiN, fromL, tightN, maxOk]
            refine ⟨?_, ?_⟩
            · try simp only [pick8 a0 a7, pick8 b0 b7, show IntKind.u32.wrap (R b.toNat + IntKind.u32.wrap i) = atN R b i from rfl]
              repeat' apply And.intro
              all_goals first
                | exact rLoadC hp.1 hp.2 hms
                | exact tk
                | exact rByteC q0 q1 hms
                | trivial
                | rfl
                | omega
                | ((try dsimp only [rowL, rowN]); simp only [beq_iff_eq, beq_eq_false_iff_ne, bne_iff_ne, bne_eq_false_iff_eq, decide_eq_true_eq, decide_eq_false_iff_not, ne_eq, Bool.not_eq_true', Bool.not_eq_false', Bool.not_eq_eq_eq_not, Bool.not_true, Bool.not_false, Option.some.injEq, Option.getD_some, Option.getD_none]; omega)
                | (simp; done)
                | (simp; omega)
            try simp only [pick8 a0 a7, pick8 b0 b7, show IntKind.u32.wrap (R b.toNat + IntKind.u32.wrap i) = atN R b i from rfl]
            refine SG.ret tab_ok Tryd.func16 rfl ?_
            intro ρ w' v hm hv
            exact Post.mk hm (.tup [.agg (cpuC (R) (p)), .one (.v (.string (m))), .one (aI 2)]) [] none [] hv rfl rows0 rfl (by simp)
        · by_cases g : byteE m (atN R b i) = 0
          · rw [show movO R p m 17 a b i = ⟨updR R a.toNat (R a.toNat), IntKind.u32.wrap (p + 4), putM m (atN R b i) (R a.toNat), 0⟩ from (if_pos g)]
            refine CallOk.enter Tryd.func16 (by kernel_rfl) rfl [] [] [cpuS R p, strV m] rfl rows0 (fun r h => by cases h) rfl rfl ?_
            intro w blk hblk
            refine SG.walk tab_ok mx 400 [false, false, false, false, false, true, false] [hdT [.one (aU (loadN m p)), .one (aI (loadE m p))], hdT [.agg (insC 17 a b i), .one (aI 0)], hdT [.one (.v (.string (putM m (atN R b i) (R a.toNat)))), .one (aI (byteE m (atN R b i)))]] ?_
            conv => whnf
            try dsimp only [rowL, rowN, growOk, hiN, fromL, tightN, maxOk]
            refine ⟨?_, ?_⟩
            · try simp only [pick8 a0 a7, pick8 b0 b7, show IntKind.u32.wrap (R b.toNat + IntKind.u32.wrap i) = atN R b i from rfl]
              repeat' apply And.intro
              all_goals first
                | exact rLoadC hp.1 hp.2 hms
                | exact tk
                | exact rPutC q0 q1 x0 x1 hm32
                | trivial
                | rfl
                | omega
                | ((try dsimp only [rowL, rowN]); simp only [beq_iff_eq, beq_eq_false_iff_ne, bne_iff_ne, bne_eq_false_iff_eq, decide_eq_true_eq, decide_eq_false_iff_not, ne_eq, Bool.not_eq_true', Bool.not_eq_false', Bool.not_eq_eq_eq_not, Bool.not_true, Bool.not_false, Option.some.injEq, Option.getD_some, Option.getD_none]; omega)
                | (simp; done)
                | (simp; omega)
            try simp only [pick8 a0 a7, pick8 b0 b7, show IntKind.u32.wrap (R b.toNat + IntKind.u32.wrap i) = atN R b i from rfl]
            refine SG.ret tab_ok Tryd.func16 rfl ?_
            intro ρ w' v hm hv
            exact Post.mk hm (.tup [.agg (cpuC (updR R a.toNat (R a.toNat)) (IntKind.u32.wrap (p + 4))), .one (.v (.string (putM m (atN R b i) (R a.toNat)))), .one (aI 0)]) [] none [] hv rfl rows0 rfl (by simp)
          · rw [show movO R p m 17 a b i = ⟨R, p, m, 2⟩ from (if_neg g)]
            refine CallOk.enter Tryd.func16 (by kernel_rfl) rfl [] [] [cpuS R p, strV m] rfl rows0 (fun r h => by cases h) rfl rfl ?_
            intro w blk hblk
            refine SG.walk tab_ok mx 400 [false, false, false, false, false, true, true] [hdT [.one (aU (loadN m p)), .one (aI (loadE m p))], hdT [.agg (insC 17 a b i), .one (aI 0)], hdT [.one (.v (.string (putM m (atN R b i) (R a.toNat)))), .one (aI (byteE m (atN R b i)))]] ?_
            conv => whnf
            try dsimp only [rowL, rowN, growOk, hiN, fromL, tightN, maxOk]
            refine ⟨?_, ?_⟩
            · try simp only [pick8 a0 a7, pick8 b0 b7, show IntKind.u32.wrap (R b.toNat + IntKind.u32.wrap i) = atN R b i from rfl]
              repeat' apply And.intro
              all_goals first
                | exact rLoadC hp.1 hp.2 hms
                | exact tk
                | exact rPutC q0 q1 x0 x1 hm32
                | trivial
                | rfl
                | omega
                | ((try dsimp only [rowL, rowN]); simp only [beq_iff_eq, beq_eq_false_iff_ne, bne_iff_ne, bne_eq_false_iff_eq, decide_eq_true_eq, decide_eq_false_iff_not, ne_eq, Bool.not_eq_true', Bool.not_eq_false', Bool.not_eq_eq_eq_not, Bool.not_true, Bool.not_false, Option.some.injEq, Option.getD_some, Option.getD_none]; omega)
                | (simp; done)
                | (simp; omega)
            try simp only [pick8 a0 a7, pick8 b0 b7, show IntKind.u32.wrap (R b.toNat + IntKind.u32.wrap i) = atN R b i from rfl]
            refine SG.ret tab_ok Tryd.func16 rfl ?_
            intro ρ w' v hm hv
            exact Post.mk hm (.tup [.agg (cpuC (R) (p)), .one (.v (.string (m))), .one (aI 2)]) [] none [] hv rfl rows0 rfl (by simp)
      · rw [if_neg g3]
        by_cases g4 : o = 24
        · rw [if_pos g4]
          refine CallOk.enter Tryd.func16 (by kernel_rfl) rfl [] [] [cpuS R p, strV m] rfl rows0 (fun r h => by cases h) rfl rfl ?_
          intro w blk hblk
          refine SG.walk tab_ok mx 400 [false, false, false, false, false, false, true] [hdT [.one (aU (loadN m p)), .one (aI (loadE m p))], hdT [.agg (insC o a b i), .one (aI 0)]] ?_
          conv => whnf
          try dsimp only [rowL, rowN, growOk, hiN, fromL, tightN, maxOk]
          refine ⟨?_, ?_⟩
          · try simp only [pick8 a0 a7, pick8 b0 b7, show IntKind.u32.wrap (R b.toNat + IntKind.u32.wrap i) = atN R b i from rfl]
            repeat' apply And.intro
            all_goals first
              | exact rLoadC hp.1 hp.2 hms
              | exact tk
              | trivial
              | rfl
              | omega
              | ((try dsimp only [rowL, rowN]); simp only [beq_iff_eq, beq_eq_false_iff_ne, bne_iff_ne, bne_eq_false_iff_eq, decide_eq_true_eq, decide_eq_false_iff_not, ne_eq, Bool.not_eq_true', Bool.not_eq_false', Bool.not_eq_eq_eq_not, Bool.not_true, Bool.not_false, Option.some.injEq, Option.getD_some, Option.getD_none]; omega)
              | (simp; done)
              | (simp; omega)
          try simp only [pick8 a0 a7, pick8 b0 b7, show IntKind.u32.wrap (R b.toNat + IntKind.u32.wrap i) = atN R b i from rfl]
          refine SG.ret tab_ok Tryd.func16 rfl ?_
          intro ρ w' v hm hv
          exact Post.mk hm (.tup [.agg (cpuC (R) (IntKind.u32.wrap (p + 4))), .one (.v (.string (m))), .one (aI 3)]) [] none [] hv rfl rows0 rfl (by simp)
        · rw [if_neg g4]
          have hd : (1 ≤ o ∧ o ≤ 13) ∨ (18 ≤ o ∧ o ≤ 23) := by omega
          have hmm : (doO R p m o a b i).m = m ∧ (doO R p m o a b i).t = 0 := by unfold doO; split <;> exact ⟨rfl, rfl⟩
          rw [show outT (doO R p m o a b i) = hdT [.agg (cpuC (doO R p m o a b i).R (doO R p m o a b i).p), .one (.v (.string m)), .one (aI 0)] from by unfold outT; rw [hmm.1, hmm.2]]
          refine CallOk.enter Tryd.func16 (by kernel_rfl) rfl [] [] [cpuS R p, strV m] rfl rows0 (fun r h => by cases h) rfl rfl ?_
          intro w blk hblk
          refine SG.walk tab_ok mx 400 [false, false, false, false, false, false, false] [hdT [.one (aU (loadN m p)), .one (aI (loadE m p))], hdT [.agg (insC o a b i), .one (aI 0)], hdT [.agg (cpuC (doO R p m o a b i).R (doO R p m o a b i).p), .one (.lb true)]] ?_
          conv => whnf
          try dsimp only [rowL, rowN, growOk, hiN, fromL, tightN, maxOk]
          refine ⟨?_, ?_⟩
          · try simp only [pick8 a0 a7, pick8 b0 b7, show IntKind.u32.wrap (R b.toNat + IntKind.u32.wrap i) = atN R b i from rfl]
            repeat' apply And.intro
            all_goals first
              | exact rLoadC hp.1 hp.2 hms
              | exact tk
              | exact rDoesO (m := m) hR hm hd
              | trivial
              | rfl
              | omega
              | ((try dsimp only [rowL, rowN]); simp only [beq_iff_eq, beq_eq_false_iff_ne, bne_iff_ne, bne_eq_false_iff_eq, decide_eq_true_eq, decide_eq_false_iff_not, ne_eq, Bool.not_eq_true', Bool.not_eq_false', Bool.not_eq_eq_eq_not, Bool.not_true, Bool.not_false, Option.some.injEq, Option.getD_some, Option.getD_none]; omega)
              | (simp; done)
              | (simp; omega)
          try simp only [pick8 a0 a7, pick8 b0 b7, show IntKind.u32.wrap (R b.toNat + IntKind.u32.wrap i) = atN R b i from rfl]
          refine SG.ret tab_ok Tryd.func16 rfl ?_
          intro ρ w' v hm hv
          exact Post.mk hm (.tup [.agg (cpuC ((doO R p m o a b i).R) ((doO R p m o a b i).p)), .one (.v (.string (m))), .one (aI 0)]) [] none [] hv rfl rows0 rfl (by simp)
    · rw [if_neg g2]
      refine CallOk.enter Tryd.func16 (by kernel_rfl) rfl [] [] [cpuS R p, strV m] rfl rows0 (fun r h => by cases h) rfl rfl ?_
      intro w blk hblk
      refine SG.walk tab_ok mx 400 [false, true] [hdT [.one (aU (loadN m p)), .one (aI (loadE m p))], hdT [.agg (insC 0 0 0 0), .one (aI 11)]] ?_
      conv => whnf
      try dsimp only [rowL, rowN, growOk, hiN, fromL, tightN, maxOk]
      refine ⟨?_, ?_⟩
      · repeat' apply And.intro
        all_goals first
          | exact rLoadC hp.1 hp.2 hms
          | exact rTakeNo hw.1 hw.2 (Bool.eq_false_iff.2 g2)
          | trivial
          | rfl
          | omega
          | ((try dsimp only [rowL, rowN]); simp only [beq_iff_eq, beq_eq_false_iff_ne, bne_iff_ne, bne_eq_false_iff_eq, decide_eq_true_eq, decide_eq_false_iff_not, ne_eq, Bool.not_eq_true', Bool.not_eq_false', Bool.not_eq_eq_eq_not, Bool.not_true, Bool.not_false, Option.some.injEq, Option.getD_some, Option.getD_none]; omega)
          | (simp; done)
          | (simp; omega)
      refine SG.ret tab_ok Tryd.func16 rfl ?_
      intro ρ w' v hm hv
      exact Post.mk hm (.tup [.agg (cpuC (R) (p)), .one (.v (.string (m))), .one (aI 1)]) [] none [] hv rfl rows0 rfl (by simp)
  · rw [if_neg g1]
    refine CallOk.enter Tryd.func16 (by kernel_rfl) rfl [] [] [cpuS R p, strV m] rfl rows0 (fun r h => by cases h) rfl rfl ?_
    intro w blk hblk
    refine SG.walk tab_ok mx 400 [true] [hdT [.one (aU (loadN m p)), .one (aI (loadE m p))]] ?_
    conv => whnf
    try dsimp only [rowL, rowN, growOk, hiN, fromL, tightN, maxOk]
    refine ⟨?_, ?_⟩
    · repeat' apply And.intro
      all_goals first
        | exact rLoadC hp.1 hp.2 hms
        | trivial
        | rfl
        | omega
        | ((try dsimp only [rowL, rowN]); simp only [beq_iff_eq, beq_eq_false_iff_ne, bne_iff_ne, bne_eq_false_iff_eq, decide_eq_true_eq, decide_eq_false_iff_not, ne_eq, Bool.not_eq_true', Bool.not_eq_false', Bool.not_eq_eq_eq_not, Bool.not_true, Bool.not_false, Option.some.injEq, Option.getD_some, Option.getD_none]; omega)
        | (simp; done)
        | (simp; omega)
    refine SG.ret tab_ok Tryd.func16 rfl ?_
    intro ρ w' v hm hv
    exact Post.mk hm (.tup [.agg (cpuC (R) (p)), .one (.v (.string (m))), .one (aI 2)]) [] none [] hv rfl rows0 rfl (by simp)
end
/-- What a step keeps. -/
structure Sound (R : Nat → Int) (p : Int) (m : ByteArray) (x : Out) : Prop where
  r : regs x.R
  p : 0 ≤ x.p ∧ x.p < 4294967296
  m : x.m.size = m.size
theorem recN_ok {o a b i : Int} (a0 : 0 ≤ a) (a1 : a < 4294967296) (b0 : 0 ≤ b) (b1 : b < 4294967296) : 0 ≤ recN o a b i ∧ recN o a b i < 4294967296 := recN_range o a b i a0 a1 b0 b1
theorem wr_ok (n : Int) : 0 ≤ IntKind.u32.wrap n ∧ IntKind.u32.wrap n < 4294967296 := by rw [wrapU]; omega
theorem storeM_size {m : ByteArray} {a v : Int} (h0 : 0 ≤ a) : (storeM m a v).size = m.size := by
  unfold storeM
  split
  · rename_i h
    obtain ⟨k, rfl⟩ := Int.eq_ofNat_of_zero_le h0
    obtain ⟨_, h2⟩ := stands_nat h
    rw [Int.toNat_natCast]
    exact splB_size m k (wordB v) (by rw [wordB_size]; exact h2)
  · rfl
theorem putM_size {m : ByteArray} {a v : Int} (h0 : 0 ≤ a) : (putM m a v).size = m.size := by
  unfold putM
  split
  · rename_i h
    obtain ⟨k, rfl⟩ := Int.eq_ofNat_of_zero_le h0
    rw [Int.toNat_natCast]
    exact splB_size m k _ (by rw [byteB_size]; omega)
  · rfl
theorem movO_ok {R : Nat → Int} {p o a b i : Int} {m : ByteArray} (hR : regs R) (hp : 0 ≤ p ∧ p < 4294967296) (ha : 0 ≤ a ∧ a ≤ 7) : Sound R p m (movO R p m o a b i) := by
  have hx := hR a.toNat (by omega)
  have ho := atN_ok R b i
  unfold movO
  split
  · split
    · exact ⟨regs_upd hR (loadN_ok _ _).1 (loadN_ok _ _).2, wr_ok _, rfl⟩
    · exact ⟨hR, hp, rfl⟩
  · split
    · split
      · exact ⟨regs_upd hR hx.1 hx.2, wr_ok _, storeM_size ho.1⟩
      · exact ⟨hR, hp, rfl⟩
    · split
      · split
        · exact ⟨regs_upd hR (byteN_ok _ _).1 (byteN_ok _ _).2, wr_ok _, rfl⟩
        · exact ⟨hR, hp, rfl⟩
      · split
        · exact ⟨regs_upd hR hx.1 hx.2, wr_ok _, putM_size ho.1⟩
        · exact ⟨hR, hp, rfl⟩
theorem doO_ok {R : Nat → Int} {p o a b i : Int} {m : ByteArray} (hR : regs R) (hp : 0 ≤ p ∧ p < 4294967296) (ha : 0 ≤ a ∧ a ≤ 7) (hb : 0 ≤ b ∧ b ≤ 7) : Sound R p m (doO R p m o a b i) := by
  have hx := hR a.toNat (by omega)
  have hy := hR b.toNat (by omega)
  unfold doO
  split
  · have := recN_ok (o := o) (i := i) hx.1 hx.2 hy.1 hy.2
    exact ⟨regs_upd hR this.1 this.2, wr_ok _, rfl⟩
  · refine ⟨?_, ?_, rfl⟩
    · dsimp only; unfold jmpR
      split
      · exact regs_upd hR (wr_ok _).1 (wr_ok _).2
      · exact hR
    · dsimp only; unfold jmpP
      split
      · exact wr_ok _
      · split
        · exact hx
        · split
          · split <;> exact wr_ok _
          · split
            · split <;> exact wr_ok _
            · split <;> exact wr_ok _
theorem stepO_ok {R : Nat → Int} {p : Int} {m : ByteArray} (hR : regs R) (hp : 0 ≤ p ∧ p < 4294967296) : Sound R p m (stepO R p m) := by
  unfold stepO
  split
  · split
    · rename_i g2
      have hr := may_range (show rMay _ _ _ _ = true from g2)
      unfold insO
      split
      · exact movO_ok hR hp ⟨hr.2.2.1, hr.2.2.2.1⟩
      · split
        · exact ⟨hR, wr_ok _, rfl⟩
        · exact doO_ok hR hp ⟨hr.2.2.1, hr.2.2.2.1⟩ ⟨hr.2.2.2.2.1, hr.2.2.2.2.2.1⟩
    · exact ⟨hR, hp, rfl⟩
  · exact ⟨hR, hp, rfl⟩
end Go.Proofs.YtcdoofjddhlodaaDoor
