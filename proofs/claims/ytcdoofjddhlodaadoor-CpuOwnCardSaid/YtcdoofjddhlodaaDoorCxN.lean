/- Processors: the laws of some steps. -/
import Derived.Test.YtcdoofjddhlodaaDoorCxL
namespace Go.Proofs.YtcdoofjddhlodaaDoor
open Go.Sx Go.RowKit
set_option linter.unusedVariables false
set_option linter.unusedSimpArgs false
set_option linter.unusedSectionVars false
/-- As many steps, as long as nothing but plain instructions comes. -/
def runO : Nat → (Nat → Int) → Int → ByteArray → Out × Nat
  | 0, R, p, m => (⟨R, p, m, 0⟩, 0)
  | n + 1, R, p, m => if (stepO R p m).t = 0 then ((runO n (stepO R p m).R (stepO R p m).p (stepO R p m).m).1, (runO n (stepO R p m).R (stepO R p m).p (stepO R p m).m).2 + 1) else (stepO R p m, 0)
theorem runO_le : ∀ {n : Nat} {R : Nat → Int} {p : Int} {m : ByteArray}, (runO n R p m).2 ≤ n
  | 0, _, _, _ => Nat.le_refl 0
  | n + 1, R, p, m => by
    rw [runO]
    split
    · have := runO_le (n := n) (R := (stepO R p m).R) (p := (stepO R p m).p) (m := (stepO R p m).m)
      dsimp only; omega
    · exact Nat.zero_le _
theorem runO_ok : ∀ {n : Nat} {R : Nat → Int} {p : Int} {m : ByteArray}, regs R → (0 ≤ p ∧ p < 4294967296) → Sound R p m (runO n R p m).1
  | 0, R, p, m, hR, hp => ⟨hR, hp, rfl⟩
  | n + 1, R, p, m, hR, hp => by
    have hs := stepO_ok (m := m) hR hp
    rw [runO]
    split
    · have := runO_ok (n := n) (m := (stepO R p m).m) hs.r hs.p
      exact ⟨this.r, this.p, this.m.trans hs.m⟩
    · exact hs
theorem runO_add : ∀ {a b : Nat} {R : Nat → Int} {p : Int} {m : ByteArray}, (runO a R p m).1.t = 0 → (runO a R p m).2 = a ∧ runO (a + b) R p m = ((runO b (runO a R p m).1.R (runO a R p m).1.p (runO a R p m).1.m).1, (runO b (runO a R p m).1.R (runO a R p m).1.p (runO a R p m).1.m).2 + a)
  | 0, b, R, p, m, _ => by rw [Nat.zero_add]; exact ⟨rfl, rfl⟩
  | a + 1, b, R, p, m, h => by
    rw [show a + 1 + b = (a + b) + 1 by omega, runO]
    rw [runO] at h ⊢
    by_cases g : (stepO R p m).t = 0
    · rw [if_pos g] at h ⊢
      rw [if_pos g]
      obtain ⟨h1, h2⟩ := runO_add (a := a) (b := b) h
      rw [h2]
      refine ⟨by dsimp only; omega, ?_⟩
      dsimp only
      congr 1
    · rw [if_neg g] at h
      exact absurd h g
theorem runO_stop : ∀ {a b : Nat} {R : Nat → Int} {p : Int} {m : ByteArray}, (runO a R p m).1.t ≠ 0 → runO (a + b) R p m = runO a R p m
  | 0, b, R, p, m, h => absurd rfl h
  | a + 1, b, R, p, m, h => by
    rw [show a + 1 + b = (a + b) + 1 by omega, runO]
    rw [runO] at h ⊢
    by_cases g : (stepO R p m).t = 0
    · rw [if_pos g] at h ⊢
      rw [if_pos g, runO_stop (a := a) (b := b) h]
    · rw [if_neg g, if_neg g]
theorem UB.of_eq {W W' : Base} (h : UB W) (e : W'.w = W.w ∧ W'.g = W.g) : UB W' := ⟨by rw [e.1]; exact h.u, e.2.trans h.g⟩
abbrev runT (x : Out × Nat) : Hd := hdT [.agg (cpuC x.1.R x.1.p), .one (.v (.string x.1.m)), .one (aI x.1.t), .one (aI x.2)]
section
variable {W : Base} {B : List (Option (List At))} {Rs : List (Option Row)}
set_option maxHeartbeats 4000000 in
set_option maxRecDepth 100000 in
theorem runC (hU : UB W) {R : Nat → Int} {p n : Int} {m : ByteArray} (hms : m.size ≤ 140737488351232) (hR : regs R) (hp : 0 ≤ p ∧ p < 4294967296) (hn : n ≤ 2000000) : CallOk Tryd.prog W B Rs 17 [cpuS R p, strV m, intV n] (runT (runO n.toNat R p m)) := by
  refine CallOk.enterK Tryd.func17 (by kernel_rfl) rfl [] [] [cpuS R p, strV m, intV n] rfl rows0 (fun r h => by cases h) rfl rfl ?_
  intro w blk hblk hK
  have hU := UB.step hU hblk hK
  clear hK
  refine SG.walk tab_ok mx 400 [] [] ?_
  conv => whnf
  try dsimp only [rowL, rowN, growOk, hiN, fromL, tightN, maxOk]
  refine ⟨?_, ?_⟩
  · trivial
  refine SG.loop (fun x : Nat × (Nat → Int) × Int × ByteArray => ⟨puts (List.replicate (Tryd.f17).ntmps .any) [(2, intV n), (3, bpV 0), (4, bpV 1), (6, bpV 2), (10, bpV 3), (11, intV x.1), (12, .cv (.one (.clo 34 [.bp 0 0, .bp 1 0, .bp 3 0])))], [some (cpuC x.2.1 x.2.2.1), some [.v (.string x.2.2.2)], some (cpuC (fun _ => 0) 0), some [aI 0]], [], []⟩) (fun x => (x.1 = 0 ∨ (x.1 : Int) ≤ n) ∧ regs x.2.1 ∧ (0 ≤ x.2.2.1 ∧ x.2.2.1 < 4294967296) ∧ x.2.2.2.size = m.size ∧ runO n.toNat R p m = ((runO (n.toNat - x.1) x.2.1 x.2.2.1 x.2.2.2).1, (runO (n.toNat - x.1) x.2.1 x.2.2.1 x.2.2.2).2 + x.1)) (fun x => n.toNat - x.1) ((0, R, p, m)) (⟨.inl rfl, hR, hp, rfl, rfl⟩) (fun h => SG.sub [0, 1, 2, 3] [] ⟨?_, ?_, ?_, by decide, rfl, rfl, rfl, ?_⟩ h) ?_
  · repeat' (first | exact trivial | exact rfl | refine And.intro ?_ ?_)
  · repeat' (first | exact trivial | exact rfl | refine And.intro ?_ ?_)
  · repeat' (first | exact trivial | refine ⟨⟨_, rfl, ⟨rfl, rfl, .inl rfl, (fun h => by first | exact h | cases h), (fun h => by first | exact h | cases h), fun _ _ => rfl⟩, fun _ _ => rfl⟩, ?_⟩ | refine ⟨⟨_, rfl, ⟨rfl, rfl, .inr rfl, (fun h => by first | exact h | cases h), (fun h => by first | exact h | cases h), fun _ _ => rfl⟩, fun _ _ => rfl⟩, ?_⟩ | refine ⟨⟨_, rfl, ⟨rfl, rfl, .inr rfl, (fun h => by first | exact h | cases h), (fun h => by first | exact h | cases h), fun i hi => absurd hi (Nat.not_lt_zero i)⟩, fun i hi => absurd hi (Nat.not_lt_zero i)⟩, ?_⟩ | refine ⟨⟨_, rfl, ⟨rfl, rfl, .inl rfl, (fun h => by first | exact h | cases h), (fun h => by first | exact h | cases h), fun i hi => ren_closed (hQc i hi)⟩, fun i hi => inn_closed (hQc i hi)⟩, ?_⟩)
  · repeat' (first | exact trivial | exact rfl | refine And.intro ?_ ?_)
  rintro ⟨k, Q, q, l⟩ ⟨hk, hQ, hq, hl, hr⟩ next
  dsimp only at hk hQ hq hl hr next ⊢
  by_cases hlt : (k : Int) < n
  · refine SG.walk tab_ok mx 400 [true] [] ?_
    conv => whnf
    try dsimp only [rowL, rowN, growOk, hiN, fromL, tightN, maxOk]
    refine ⟨?_, ?_⟩
    · repeat' apply And.intro
      all_goals first
        | trivial
        | rfl
        | omega
        | ((try dsimp only [rowL, rowN]); simp only [beq_iff_eq, beq_eq_false_iff_ne, bne_iff_ne, bne_eq_false_iff_eq, decide_eq_true_eq, decide_eq_false_iff_not, ne_eq, Bool.not_eq_true', Bool.not_eq_false', Bool.not_eq_eq_eq_not, Bool.not_true, Bool.not_false, Option.some.injEq, Option.getD_some, Option.getD_none]; omega)
        | (simp; done)
        | (simp; omega)
    refine SG.inlineK rfl rfl rfl Tryd.func34 (by kernel_rfl) rfl ?_
    intro Wc Rc hbc hWc
    have hUc := UB.of_eq hU hWc
    refine SG.norm ?_
    conv => whnf
    have hso := stepO_ok (m := l) hQ hq
    have hls : l.size ≤ 140737488351232 := by rw [hl]; exact hms
    have hN : n.toNat - k = (n.toNat - (k + 1)) + 1 := by omega
    rw [hN, runO] at hr
    by_cases g : (stepO Q q l).t = 0
    · rw [if_pos g] at hr
      refine SG.walk tab_ok mx 400 [] [outT (stepO Q q l)] ?_
      conv => whnf
      try dsimp only [rowL, rowN, growOk, hiN, fromL, tightN, maxOk]
      refine ⟨?_, ?_⟩
      · repeat' apply And.intro
        all_goals first
          | exact stepC hUc hls hQ hq
          | trivial
          | rfl
          | omega
          | ((try dsimp only [rowL, rowN]); simp only [beq_iff_eq, beq_eq_false_iff_ne, bne_iff_ne, bne_eq_false_iff_eq, decide_eq_true_eq, decide_eq_false_iff_not, ne_eq, Bool.not_eq_true', Bool.not_eq_false', Bool.not_eq_eq_eq_not, Bool.not_true, Bool.not_false, Option.some.injEq, Option.getD_some, Option.getD_none]; omega)
          | (simp; done)
          | (simp; omega)
      refine SG.back hbc tab_ok Tryd.func34 rfl (Nat.le_of_ble_eq_true rfl) ?_
      refine SG.norm ?_
      conv => whnf
      refine SG.walk tab_ok mx 400 [true] [] ?_
      conv => whnf
      try dsimp only [rowL, rowN, growOk, hiN, fromL, tightN, maxOk]
      refine ⟨?_, ?_⟩
      · repeat' apply And.intro
        all_goals first
          | exact beq_iff_eq.2 g
          | trivial
          | rfl
          | omega
          | ((try dsimp only [rowL, rowN]); simp only [beq_iff_eq, beq_eq_false_iff_ne, bne_iff_ne, bne_eq_false_iff_eq, decide_eq_true_eq, decide_eq_false_iff_not, ne_eq, Bool.not_eq_true', Bool.not_eq_false', Bool.not_eq_eq_eq_not, Bool.not_true, Bool.not_false, Option.some.injEq, Option.getD_some, Option.getD_none]; omega)
          | (simp; done)
          | (simp; omega)
      rw [g, show IntKind.i64.wrap ((k : Int) + 1) = ((k + 1 : Nat) : Int) from by rw [wI (by omega) (by omega)]; simp]
      refine SG.sub [0, 1, 2, 3] [] ⟨?_, ?_, ?_, by decide, rfl, rfl, rfl, ?_⟩ (next (k + 1, (stepO Q q l).R, (stepO Q q l).p, (stepO Q q l).m) ⟨.inr (by dsimp only; omega), hso.r, hso.p, hso.m.trans hl, by rw [hr]; dsimp only; rw [Nat.add_assoc, Nat.add_comm 1 k]⟩ (by dsimp only; omega))
      · repeat' (first | exact trivial | exact rfl | refine And.intro ?_ ?_)
      · repeat' (first | exact trivial | exact rfl | refine And.intro ?_ ?_)
      · repeat' (first | exact trivial | refine ⟨⟨_, rfl, ⟨rfl, rfl, .inl rfl, (fun h => by first | exact h | cases h), (fun h => by first | exact h | cases h), fun _ _ => rfl⟩, fun _ _ => rfl⟩, ?_⟩ | refine ⟨⟨_, rfl, ⟨rfl, rfl, .inr rfl, (fun h => by first | exact h | cases h), (fun h => by first | exact h | cases h), fun _ _ => rfl⟩, fun _ _ => rfl⟩, ?_⟩ | refine ⟨⟨_, rfl, ⟨rfl, rfl, .inr rfl, (fun h => by first | exact h | cases h), (fun h => by first | exact h | cases h), fun i hi => absurd hi (Nat.not_lt_zero i)⟩, fun i hi => absurd hi (Nat.not_lt_zero i)⟩, ?_⟩ | refine ⟨⟨_, rfl, ⟨rfl, rfl, .inl rfl, (fun h => by first | exact h | cases h), (fun h => by first | exact h | cases h), fun i hi => ren_closed (hQc i hi)⟩, fun i hi => inn_closed (hQc i hi)⟩, ?_⟩)
      · repeat' (first | exact trivial | exact rfl | refine And.intro ?_ ?_)
    · rw [if_neg g] at hr
      refine SG.walk tab_ok mx 400 [] [outT (stepO Q q l)] ?_
      conv => whnf
      try dsimp only [rowL, rowN, growOk, hiN, fromL, tightN, maxOk]
      refine ⟨?_, ?_⟩
      · repeat' apply And.intro
        all_goals first
          | exact stepC hUc hls hQ hq
          | trivial
          | rfl
          | omega
          | ((try dsimp only [rowL, rowN]); simp only [beq_iff_eq, beq_eq_false_iff_ne, bne_iff_ne, bne_eq_false_iff_eq, decide_eq_true_eq, decide_eq_false_iff_not, ne_eq, Bool.not_eq_true', Bool.not_eq_false', Bool.not_eq_eq_eq_not, Bool.not_true, Bool.not_false, Option.some.injEq, Option.getD_some, Option.getD_none]; omega)
          | (simp; done)
          | (simp; omega)
      refine SG.back hbc tab_ok Tryd.func34 rfl (Nat.le_of_ble_eq_true rfl) ?_
      refine SG.norm ?_
      conv => whnf
      refine SG.walk tab_ok mx 400 [false] [] ?_
      conv => whnf
      try dsimp only [rowL, rowN, growOk, hiN, fromL, tightN, maxOk]
      refine ⟨?_, ?_⟩
      · repeat' apply And.intro
        all_goals first
          | exact beq_eq_false_iff_ne.2 g
          | trivial
          | rfl
          | omega
          | ((try dsimp only [rowL, rowN]); simp only [beq_iff_eq, beq_eq_false_iff_ne, bne_iff_ne, bne_eq_false_iff_eq, decide_eq_true_eq, decide_eq_false_iff_not, ne_eq, Bool.not_eq_true', Bool.not_eq_false', Bool.not_eq_eq_eq_not, Bool.not_true, Bool.not_false, Option.some.injEq, Option.getD_some, Option.getD_none]; omega)
          | (simp; done)
          | (simp; omega)
      rw [hr, Nat.zero_add]
      refine SG.ret tab_ok Tryd.func17 rfl ?_
      intro ρ w' v hm hv
      exact Post.mk hm (.tup [.agg (cpuC (stepO Q q l).R (stepO Q q l).p), .one (.v (.string (stepO Q q l).m)), .one (aI (stepO Q q l).t), .one (aI k)]) [] none [] hv rfl rows0 rfl (by simp)
  · refine SG.walk tab_ok mx 400 [false] [] ?_
    conv => whnf
    try dsimp only [rowL, rowN, growOk, hiN, fromL, tightN, maxOk]
    refine ⟨?_, ?_⟩
    · repeat' apply And.intro
      all_goals first
        | trivial
        | rfl
        | omega
        | ((try dsimp only [rowL, rowN]); simp only [beq_iff_eq, beq_eq_false_iff_ne, bne_iff_ne, bne_eq_false_iff_eq, decide_eq_true_eq, decide_eq_false_iff_not, ne_eq, Bool.not_eq_true', Bool.not_eq_false', Bool.not_eq_eq_eq_not, Bool.not_true, Bool.not_false, Option.some.injEq, Option.getD_some, Option.getD_none]; omega)
        | (simp; done)
        | (simp; omega)
    rw [show n.toNat - k = 0 by omega, runO, Nat.zero_add] at hr
    rw [hr]
    refine SG.ret tab_ok Tryd.func17 rfl ?_
    intro ρ w' v hm hv
    exact Post.mk hm (.tup [.agg (cpuC Q q), .one (.v (.string l)), .one (aI 0), .one (aI k)]) [] none [] hv rfl rows0 rfl (by simp)
set_option maxHeartbeats 4000000 in
set_option maxRecDepth 100000 in
theorem rRunC {R : Nat → Int} {p n : Int} {m : ByteArray} (hms : m.size < 4294967296) (hR : regs R) (hp : 0 ≤ p ∧ p < 4294967296) (hn : n ≤ 2000000) : CallOk Tryd.prog W B Rs 18 [cpuS R p, strV m, intV n] (runT (runO n.toNat R p m)) := by
  refine CallOk.enter Tryd.func18 (by kernel_rfl) rfl [] [] [cpuS R p, strV m, intV n] rfl rows0 (fun r h => by cases h) rfl rfl ?_
  intro w blk hblk
  refine SG.walk tab_ok mx 400 [] [] ?_
  conv => whnf
  try dsimp only [rowL, rowN, growOk, hiN, fromL, tightN, maxOk]
  refine ⟨?_, ?_⟩
  · trivial
  refine SG.loop (fun x : Nat × (Nat → Int) × Int × ByteArray => ⟨puts (List.replicate (Tryd.f18).ntmps .any) [(1, strV x.2.2.2), (2, intV n), (3, bpV 0), (6, bpV 1), (10, intV x.1)], [some (cpuC x.2.1 x.2.2.1), some (cpuC (fun _ => 0) 0)], [], []⟩) (fun x => (x.1 = 0 ∨ (x.1 : Int) ≤ n) ∧ regs x.2.1 ∧ (0 ≤ x.2.2.1 ∧ x.2.2.1 < 4294967296) ∧ x.2.2.2.size = m.size ∧ runO n.toNat R p m = ((runO (n.toNat - x.1) x.2.1 x.2.2.1 x.2.2.2).1, (runO (n.toNat - x.1) x.2.1 x.2.2.1 x.2.2.2).2 + x.1)) (fun x => n.toNat - x.1) ((0, R, p, m)) (⟨.inl rfl, hR, hp, rfl, rfl⟩) (fun h => SG.sub [0, 1] [] ⟨?_, ?_, ?_, by decide, rfl, rfl, rfl, ?_⟩ h) ?_
  · repeat' (first | exact trivial | exact rfl | refine And.intro ?_ ?_)
  · repeat' (first | exact trivial | exact rfl | refine And.intro ?_ ?_)
  · repeat' (first | exact trivial | refine ⟨⟨_, rfl, ⟨rfl, rfl, .inl rfl, (fun h => by first | exact h | cases h), (fun h => by first | exact h | cases h), fun _ _ => rfl⟩, fun _ _ => rfl⟩, ?_⟩ | refine ⟨⟨_, rfl, ⟨rfl, rfl, .inr rfl, (fun h => by first | exact h | cases h), (fun h => by first | exact h | cases h), fun _ _ => rfl⟩, fun _ _ => rfl⟩, ?_⟩ | refine ⟨⟨_, rfl, ⟨rfl, rfl, .inr rfl, (fun h => by first | exact h | cases h), (fun h => by first | exact h | cases h), fun i hi => absurd hi (Nat.not_lt_zero i)⟩, fun i hi => absurd hi (Nat.not_lt_zero i)⟩, ?_⟩ | refine ⟨⟨_, rfl, ⟨rfl, rfl, .inl rfl, (fun h => by first | exact h | cases h), (fun h => by first | exact h | cases h), fun i hi => ren_closed (hQc i hi)⟩, fun i hi => inn_closed (hQc i hi)⟩, ?_⟩)
  · repeat' (first | exact trivial | exact rfl | refine And.intro ?_ ?_)
  rintro ⟨k, Q, q, l⟩ ⟨hk, hQ, hq, hl, hr⟩ next
  dsimp only at hk hQ hq hl hr next ⊢
  by_cases hlt : (k : Int) < n
  · have hso := stepO_ok (m := l) hQ hq
    have hls : l.size < 4294967296 := by rw [hl]; exact hms
    have hN : n.toNat - k = (n.toNat - (k + 1)) + 1 := by omega
    rw [hN, runO] at hr
    by_cases g : (stepO Q q l).t = 0
    · rw [if_pos g] at hr
      refine SG.walk tab_ok mx 400 [true, false] [outT (stepO Q q l)] ?_
      conv => whnf
      try dsimp only [rowL, rowN, growOk, hiN, fromL, tightN, maxOk]
      refine ⟨?_, ?_⟩
      · repeat' apply And.intro
        all_goals first
          | exact rStepC hls hQ hq
          | exact bne_eq_false_iff_eq.2 g
          | trivial
          | rfl
          | omega
          | ((try dsimp only [rowL, rowN]); simp only [beq_iff_eq, beq_eq_false_iff_ne, bne_iff_ne, bne_eq_false_iff_eq, decide_eq_true_eq, decide_eq_false_iff_not, ne_eq, Bool.not_eq_true', Bool.not_eq_false', Bool.not_eq_eq_eq_not, Bool.not_true, Bool.not_false, Option.some.injEq, Option.getD_some, Option.getD_none]; omega)
          | (simp; done)
          | (simp; omega)
      rw [show IntKind.i64.wrap ((k : Int) + 1) = ((k + 1 : Nat) : Int) from by rw [wI (by omega) (by omega)]; simp]
      refine SG.sub [0, 1] [] ⟨?_, ?_, ?_, by decide, rfl, rfl, rfl, ?_⟩ (next (k + 1, (stepO Q q l).R, (stepO Q q l).p, (stepO Q q l).m) ⟨.inr (by dsimp only; omega), hso.r, hso.p, hso.m.trans hl, by rw [hr]; dsimp only; rw [Nat.add_assoc, Nat.add_comm 1 k]⟩ (by dsimp only; omega))
      · repeat' (first | exact trivial | exact rfl | refine And.intro ?_ ?_)
      · repeat' (first | exact trivial | exact rfl | refine And.intro ?_ ?_)
      · repeat' (first | exact trivial | refine ⟨⟨_, rfl, ⟨rfl, rfl, .inl rfl, (fun h => by first | exact h | cases h), (fun h => by first | exact h | cases h), fun _ _ => rfl⟩, fun _ _ => rfl⟩, ?_⟩ | refine ⟨⟨_, rfl, ⟨rfl, rfl, .inr rfl, (fun h => by first | exact h | cases h), (fun h => by first | exact h | cases h), fun _ _ => rfl⟩, fun _ _ => rfl⟩, ?_⟩ | refine ⟨⟨_, rfl, ⟨rfl, rfl, .inr rfl, (fun h => by first | exact h | cases h), (fun h => by first | exact h | cases h), fun i hi => absurd hi (Nat.not_lt_zero i)⟩, fun i hi => absurd hi (Nat.not_lt_zero i)⟩, ?_⟩ | refine ⟨⟨_, rfl, ⟨rfl, rfl, .inl rfl, (fun h => by first | exact h | cases h), (fun h => by first | exact h | cases h), fun i hi => ren_closed (hQc i hi)⟩, fun i hi => inn_closed (hQc i hi)⟩, ?_⟩)
      · repeat' (first | exact trivial | exact rfl | refine And.intro ?_ ?_)
    · rw [if_neg g] at hr
      refine SG.walk tab_ok mx 400 [true, true] [outT (stepO Q q l)] ?_
      conv => whnf
      try dsimp only [rowL, rowN, growOk, hiN, fromL, tightN, maxOk]
      refine ⟨?_, ?_⟩
      · repeat' apply And.intro
        all_goals first
          | exact rStepC hls hQ hq
          | exact bne_iff_ne.2 g
          | trivial
          | rfl
          | omega
          | ((try dsimp only [rowL, rowN]); simp only [beq_iff_eq, beq_eq_false_iff_ne, bne_iff_ne, bne_eq_false_iff_eq, decide_eq_true_eq, decide_eq_false_iff_not, ne_eq, Bool.not_eq_true', Bool.not_eq_false', Bool.not_eq_eq_eq_not, Bool.not_true, Bool.not_false, Option.some.injEq, Option.getD_some, Option.getD_none]; omega)
          | (simp; done)
          | (simp; omega)
      rw [hr, Nat.zero_add]
      refine SG.ret tab_ok Tryd.func18 rfl ?_
      intro ρ w' v hm hv
      exact Post.mk hm (.tup [.agg (cpuC (stepO Q q l).R (stepO Q q l).p), .one (.v (.string (stepO Q q l).m)), .one (aI (stepO Q q l).t), .one (aI k)]) [] none [] hv rfl rows0 rfl (by simp)
  · rw [show n.toNat - k = 0 by omega, runO, Nat.zero_add] at hr
    rw [hr]
    by_cases hneg : n < 0
    · have hk0 : k = 0 := by omega
      subst hk0
      refine SG.walk tab_ok mx 400 [false, true] [] ?_
      conv => whnf
      try dsimp only [rowL, rowN, growOk, hiN, fromL, tightN, maxOk]
      refine ⟨?_, ?_⟩
      · repeat' apply And.intro
        all_goals first
          | trivial
          | rfl
          | omega
          | ((try dsimp only [rowL, rowN]); simp only [beq_iff_eq, beq_eq_false_iff_ne, bne_iff_ne, bne_eq_false_iff_eq, decide_eq_true_eq, decide_eq_false_iff_not, ne_eq, Bool.not_eq_true', Bool.not_eq_false', Bool.not_eq_eq_eq_not, Bool.not_true, Bool.not_false, Option.some.injEq, Option.getD_some, Option.getD_none]; omega)
          | (simp; done)
          | (simp; omega)
      refine SG.ret tab_ok Tryd.func18 rfl ?_
      intro ρ w' v hm hv
      exact Post.mk hm (.tup [.agg (cpuC Q q), .one (.v (.string l)), .one (aI 0), .one (aI 0)]) [] none [] hv rfl rows0 rfl (by simp)
    · obtain rfl : n = (k : Int) := by omega
      refine SG.walk tab_ok mx 400 [false, false] [] ?_
      conv => whnf
      try dsimp only [rowL, rowN, growOk, hiN, fromL, tightN, maxOk]
      refine ⟨?_, ?_⟩
      · repeat' apply And.intro
        all_goals first
          | trivial
          | rfl
          | omega
          | ((try dsimp only [rowL, rowN]); simp only [beq_iff_eq, beq_eq_false_iff_ne, bne_iff_ne, bne_eq_false_iff_eq, decide_eq_true_eq, decide_eq_false_iff_not, ne_eq, Bool.not_eq_true', Bool.not_eq_false', Bool.not_eq_eq_eq_not, Bool.not_true, Bool.not_false, Option.some.injEq, Option.getD_some, Option.getD_none]; omega)
          | (simp; done)
          | (simp; omega)
      refine SG.ret tab_ok Tryd.func18 rfl ?_
      intro ρ w' v hm hv
      exact Post.mk hm (.tup [.agg (cpuC Q q), .one (.v (.string l)), .one (aI 0), .one (aI k)]) [] none [] hv rfl rows0 rfl (by simp)
end
theorem runX {W : Base} {B : List (Option (List At))} {Rs : List (Option Row)} (hU : UB W) {R : Nat → Int} {p n : Int} {m : ByteArray} {x : Out × Nat} (hms : m.size ≤ 140737488351232) (hR : regs R) (hp : 0 ≤ p ∧ p < 4294967296) (hn : n ≤ 2000000) (e : runO n.toNat R p m = x) : CallOk Tryd.prog W B Rs 17 [cpuS R p, strV m, intV n] (runT x) := by rw [← e]; exact runC hU hms hR hp hn
/-- A step changes one register at most. -/
theorem step_one (R : Nat → Int) (p : Int) (m : ByteArray) : ∃ j : Nat, ∀ k, k ≠ j → (stepO R p m).R k = R k := by
  have upd_one : ∀ (j : Nat) (v : Int), ∃ j' : Nat, ∀ k, k ≠ j' → (updR R j v) k = R k := fun j v => ⟨j, fun k hk => if_neg (fun h => hk h.symm)⟩
  have no_one : ∃ j : Nat, ∀ k, k ≠ j → R k = R k := ⟨0, fun _ _ => rfl⟩
  unfold stepO
  split
  · split
    · unfold insO
      split
      · unfold movO
        split
        · split
          · exact upd_one _ _
          · exact no_one
        · split
          · split
            · exact upd_one _ _
            · exact no_one
          · split
            · split
              · exact upd_one _ _
              · exact no_one
            · split
              · exact upd_one _ _
              · exact no_one
      · split
        · exact no_one
        · unfold doO
          split
          · exact upd_one _ _
          · dsimp only
            unfold jmpR
            split
            · exact upd_one _ _
            · exact no_one
    · exact no_one
  · exact no_one
theorem len_size (m : ByteArray) : m.data.toList.length = m.size := Array.length_toList
theorem byteAt_eq (m : ByteArray) (j : Nat) : byteAt m j = byteV m j := by
  unfold byteAt
  rw [Int.toNat_natCast]
  by_cases h : j < m.size
  · rw [byteV_get m j h, getElem?_pos m j h]; rfl
  · rw [getElem?_neg m j h]
    unfold byteV
    rw [List.getD_eq_getElem?_getD, List.getElem?_eq_none (by rw [len_size]; omega)]
theorem spl_far {m s : ByteArray} {a j : Nat} (h : a + s.size ≤ m.size) (hj : j < a ∨ a + s.size ≤ j) : byteAt (splB m a s) j = byteAt m j := by
  rw [byteAt_eq, byteAt_eq]
  unfold byteV
  rw [splB_list, List.getD_eq_getElem?_getD, List.getD_eq_getElem?_getD]
  have hl : (m.data.toList.take a).length = a := by
    rw [List.length_take, len_size]; omega
  have hs := len_size s
  have e : (m.data.toList.take a ++ s.data.toList ++ m.data.toList.drop (a + s.size))[j]? = m.data.toList[j]? := by
    rcases hj with hj | hj
    · rw [List.append_assoc, List.getElem?_append_left (by rw [hl]; exact hj), List.getElem?_take_of_lt hj]
    · rw [List.getElem?_append_right (by rw [List.length_append, hl, hs]; exact hj), List.length_append, hl, hs, List.getElem?_drop]
      congr 1; omega
  rw [e]
theorem step_mem (R : Nat → Int) (p : Int) (m : ByteArray) : (stepO R p m).m = m ∨ (∃ a v, 0 ≤ a ∧ (stepO R p m).m = storeM m a v) ∨ (∃ a v, 0 ≤ a ∧ (stepO R p m).m = putM m a v) := by
  have ho := fun b i => (atN_ok R b i).1
  unfold stepO
  split
  · split
    · unfold insO
      split
      · unfold movO
        split
        · split <;> exact .inl rfl
        · split
          · split
            · exact .inr (.inl ⟨_, _, ho _ _, rfl⟩)
            · exact .inl rfl
          · split
            · split <;> exact .inl rfl
            · split
              · exact .inr (.inr ⟨_, _, ho _ _, rfl⟩)
              · exact .inl rfl
      · split
        · exact .inl rfl
        · unfold doO
          split <;> exact .inl rfl
    · exact .inl rfl
  · exact .inl rfl
theorem sto_four (m : ByteArray) (a v : Int) (h0 : 0 ≤ a) (j : Nat) (hj : byteAt (storeM m a v) j ≠ byteAt m j) : a ≤ j ∧ (j : Int) < a + 4 := by
  by_cases h : standsB m a = true
  · obtain ⟨k, rfl⟩ := Int.eq_ofNat_of_zero_le h0
    obtain ⟨_, h2⟩ := stands_nat h
    rw [storeM, if_pos h, Int.toNat_natCast] at hj
    have h4 := wordB_size v
    have : ¬ (j < k ∨ k + (wordB v).size ≤ j) := fun h3 => hj (spl_far (by rw [h4]; exact h2) h3)
    rw [h4] at this
    omega
  · rw [storeM, if_neg h] at hj; exact absurd rfl hj
theorem put_four (m : ByteArray) (a v : Int) (h0 : 0 ≤ a) (j : Nat) (hj : byteAt (putM m a v) j ≠ byteAt m j) : a ≤ j ∧ (j : Int) < a + 4 := by
  by_cases h : a < m.size
  · obtain ⟨k, rfl⟩ := Int.eq_ofNat_of_zero_le h0
    rw [putM, if_pos h, Int.toNat_natCast] at hj
    have h4 := byteB_size v
    have : ¬ (j < k ∨ k + (⟨#[byteI v]⟩ : ByteArray).size ≤ j) := fun h3 => hj (spl_far (by rw [h4]; omega) h3)
    rw [h4] at this
    omega
  · rw [putM, if_neg h] at hj; exact absurd rfl hj
/-- It changes four bytes at most, that stand together. -/
theorem step_four {R : Nat → Int} (hR : regs R) {p : Int} (m : ByteArray) : ∃ a : Int, ∀ j : Nat, byteAt (stepO R p m).m j ≠ byteAt m j → a ≤ j ∧ (j : Int) < a + 4 := by
  rcases step_mem R p m with h | ⟨a, v, h0, h⟩ | ⟨a, v, h0, h⟩
  · exact ⟨0, fun j hj => absurd (by rw [h]) hj⟩
  · exact ⟨a, fun j hj => by rw [h] at hj; exact sto_four m a v h0 j hj⟩
  · exact ⟨a, fun j hj => by rw [h] at hj; exact put_four m a v h0 j hj⟩
set_option maxHeartbeats 4000000 in
set_option maxRecDepth 100000 in
theorem runs_walk (w : World) (R : Nat → Int) (p n : Int) (m : ByteArray) (hT : UsesAt w) (hR : regs R) (hp : 0 ≤ p ∧ p < 4294967296) :
    Calls Tryd.prog 5 #[cpuV R p, .string m, .int .i64 n] w fun e w' => e = .returned (.bool true) ∧ Below w.heap.size w w' := by
  have hU : UB ⟨w, none, [], []⟩ := ⟨hT, rfl⟩
  refine calls_top Tryd.func5 rfl [] [] [cpuS R p, strV m, intV n] .nil ⟨rfl, rfl, rfl, trivial⟩ ?_
  by_cases h1 : n > 2000
  · refine SG.walk tab_ok mx 400 [true] [hdB true] ?_
    conv => whnf
    try dsimp only [rowL, rowN, growOk, hiN, fromL, tightN, maxOk]
    refine ⟨?_, ?_⟩
    · repeat' apply And.intro
      all_goals first
        | exact shownC hU
        | trivial
        | rfl
        | omega
        | ((try dsimp only [rowL, rowN]); simp only [beq_iff_eq, beq_eq_false_iff_ne, bne_iff_ne, bne_eq_false_iff_eq, decide_eq_true_eq, decide_eq_false_iff_not, ne_eq, Bool.not_eq_true', Bool.not_eq_false', Bool.not_eq_eq_eq_not, Bool.not_true, Bool.not_false, Option.some.injEq, Option.getD_some, Option.getD_none]; omega)
        | (simp; done)
        | (simp; omega)
    refine SG.ret tab_ok Tryd.func5 rfl ?_
    intro ρ w' v hm hv
    exact top_true hm hv rfl
  by_cases h2 : (m.size : Int) > 2000
  · refine SG.walk tab_ok mx 400 [false, true] [hdB true] ?_
    conv => whnf
    try dsimp only [rowL, rowN, growOk, hiN, fromL, tightN, maxOk]
    refine ⟨?_, ?_⟩
    · repeat' apply And.intro
      all_goals first
        | exact shownC hU
        | trivial
        | rfl
        | omega
        | ((try dsimp only [rowL, rowN]); simp only [beq_iff_eq, beq_eq_false_iff_ne, bne_iff_ne, bne_eq_false_iff_eq, decide_eq_true_eq, decide_eq_false_iff_not, ne_eq, Bool.not_eq_true', Bool.not_eq_false', Bool.not_eq_eq_eq_not, Bool.not_true, Bool.not_false, Option.some.injEq, Option.getD_some, Option.getD_none]; omega)
        | (simp; done)
        | (simp; omega)
    refine SG.ret tab_ok Tryd.func5 rfl ?_
    intro ρ w' v hm hv
    exact top_true hm hv rfl
  have hms : m.size ≤ 140737488351232 := by omega
  have hm32 : m.size < 4294967296 := by omega
  have hn : n ≤ 2000000 := by omega
  refine SG.walk tab_ok mx 400 [false, false, true, true, true] [hdB true, runT (runO n.toNat R p m), runT (runO n.toNat R p m)] ?_
  conv => whnf
  try dsimp only [rowL, rowN, growOk, hiN, fromL, tightN, maxOk]
  refine ⟨?_, ?_⟩
  · repeat' apply And.intro
    all_goals first
      | exact shownC hU
      | exact runC hU hms hR hp hn
      | exact rRunC hm32 hR hp hn
      | trivial
      | rfl
      | omega
      | ((try dsimp only [rowL, rowN]); simp only [beq_iff_eq, beq_eq_false_iff_ne, bne_iff_ne, bne_eq_false_iff_eq, decide_eq_true_eq, decide_eq_false_iff_not, ne_eq, Bool.not_eq_true', Bool.not_eq_false', Bool.not_eq_eq_eq_not, Bool.not_true, Bool.not_false, Option.some.injEq, Option.getD_some, Option.getD_none]; omega)
      | (simp; done)
      | (simp; omega)
  refine SG.ret tab_ok Tryd.func5 rfl ?_
  intro ρ w' v hm hv
  exact top_v hm hv (beq_self_eq_true _)
set_option maxHeartbeats 4000000 in
set_option maxRecDepth 100000 in
theorem parts_walk (w : World) (R : Nat → Int) (p a b : Int) (m : ByteArray) (hT : UsesAt w) (hR : regs R) (hp : 0 ≤ p ∧ p < 4294967296) :
    Calls Tryd.prog 7 #[.agg #[.int .u32 (R 0), .int .u32 (R 1), .int .u32 (R 2), .int .u32 (R 3), .int .u32 (R 4), .int .u32 (R 5), .int .u32 (R 6), .int .u32 (R 7), .int .u32 p, .string m, .int .i64 a, .int .i64 b]] w fun e w' => e = .returned (.bool true) ∧ Below w.heap.size w w' := by
  have hU : UB ⟨w, none, [], []⟩ := ⟨hT, rfl⟩
  refine calls_top Tryd.func7 rfl [] [] [.cv (.agg [aU (R 0), aU (R 1), aU (R 2), aU (R 3), aU (R 4), aU (R 5), aU (R 6), aU (R 7), aU p, .v (.string m), aI a, aI b])] .nil ⟨rfl, trivial⟩ ?_
  by_cases h1 : a < 0
  · refine SG.walk tab_ok mx 400 [true] [hdB true] ?_
    conv => whnf
    try dsimp only [rowL, rowN, growOk, hiN, fromL, tightN, maxOk]
    refine ⟨?_, ?_⟩
    · repeat' apply And.intro
      all_goals first
        | exact shownC hU
        | trivial
        | rfl
        | omega
        | ((try dsimp only [rowL, rowN]); simp only [beq_iff_eq, beq_eq_false_iff_ne, bne_iff_ne, bne_eq_false_iff_eq, decide_eq_true_eq, decide_eq_false_iff_not, ne_eq, Bool.not_eq_true', Bool.not_eq_false', Bool.not_eq_eq_eq_not, Bool.not_true, Bool.not_false, Option.some.injEq, Option.getD_some, Option.getD_none]; omega)
        | (simp; done)
        | (simp; omega)
    refine SG.ret tab_ok Tryd.func7 rfl ?_
    intro ρ w' v hm hv
    exact top_true hm hv rfl
  by_cases h2 : b < 0
  · refine SG.walk tab_ok mx 400 [false, true] [hdB true] ?_
    conv => whnf
    try dsimp only [rowL, rowN, growOk, hiN, fromL, tightN, maxOk]
    refine ⟨?_, ?_⟩
    · repeat' apply And.intro
      all_goals first
        | exact shownC hU
        | trivial
        | rfl
        | omega
        | ((try dsimp only [rowL, rowN]); simp only [beq_iff_eq, beq_eq_false_iff_ne, bne_iff_ne, bne_eq_false_iff_eq, decide_eq_true_eq, decide_eq_false_iff_not, ne_eq, Bool.not_eq_true', Bool.not_eq_false', Bool.not_eq_eq_eq_not, Bool.not_true, Bool.not_false, Option.some.injEq, Option.getD_some, Option.getD_none]; omega)
        | (simp; done)
        | (simp; omega)
    refine SG.ret tab_ok Tryd.func7 rfl ?_
    intro ρ w' v hm hv
    exact top_true hm hv rfl
  by_cases h3 : a > 1000
  · refine SG.walk tab_ok mx 400 [false, false, true] [hdB true] ?_
    conv => whnf
    try dsimp only [rowL, rowN, growOk, hiN, fromL, tightN, maxOk]
    refine ⟨?_, ?_⟩
    · repeat' apply And.intro
      all_goals first
        | exact shownC hU
        | trivial
        | rfl
        | omega
        | ((try dsimp only [rowL, rowN]); simp only [beq_iff_eq, beq_eq_false_iff_ne, bne_iff_ne, bne_eq_false_iff_eq, decide_eq_true_eq, decide_eq_false_iff_not, ne_eq, Bool.not_eq_true', Bool.not_eq_false', Bool.not_eq_eq_eq_not, Bool.not_true, Bool.not_false, Option.some.injEq, Option.getD_some, Option.getD_none]; omega)
        | (simp; done)
        | (simp; omega)
    refine SG.ret tab_ok Tryd.func7 rfl ?_
    intro ρ w' v hm hv
    exact top_true hm hv rfl
  by_cases h4 : b > 1000
  · refine SG.walk tab_ok mx 400 [false, false, false, true] [hdB true] ?_
    conv => whnf
    try dsimp only [rowL, rowN, growOk, hiN, fromL, tightN, maxOk]
    refine ⟨?_, ?_⟩
    · repeat' apply And.intro
      all_goals first
        | exact shownC hU
        | trivial
        | rfl
        | omega
        | ((try dsimp only [rowL, rowN]); simp only [beq_iff_eq, beq_eq_false_iff_ne, bne_iff_ne, bne_eq_false_iff_eq, decide_eq_true_eq, decide_eq_false_iff_not, ne_eq, Bool.not_eq_true', Bool.not_eq_false', Bool.not_eq_eq_eq_not, Bool.not_true, Bool.not_false, Option.some.injEq, Option.getD_some, Option.getD_none]; omega)
        | (simp; done)
        | (simp; omega)
    refine SG.ret tab_ok Tryd.func7 rfl ?_
    intro ρ w' v hm hv
    exact top_true hm hv rfl
  by_cases h5 : (m.size : Int) > 2000
  · refine SG.walk tab_ok mx 400 [false, false, false, false, true] [hdB true] ?_
    conv => whnf
    try dsimp only [rowL, rowN, growOk, hiN, fromL, tightN, maxOk]
    refine ⟨?_, ?_⟩
    · repeat' apply And.intro
      all_goals first
        | exact shownC hU
        | trivial
        | rfl
        | omega
        | ((try dsimp only [rowL, rowN]); simp only [beq_iff_eq, beq_eq_false_iff_ne, bne_iff_ne, bne_eq_false_iff_eq, decide_eq_true_eq, decide_eq_false_iff_not, ne_eq, Bool.not_eq_true', Bool.not_eq_false', Bool.not_eq_eq_eq_not, Bool.not_true, Bool.not_false, Option.some.injEq, Option.getD_some, Option.getD_none]; omega)
        | (simp; done)
        | (simp; omega)
    refine SG.ret tab_ok Tryd.func7 rfl ?_
    intro ρ w' v hm hv
    exact top_true hm hv rfl
  have hms : m.size ≤ 140737488351232 := by omega
  have hab : IntKind.i64.wrap (a + b) = a + b := wI (by omega) (by omega)
  have htn : (a + b).toNat = a.toNat + b.toNat := by omega
  obtain ⟨x, hx⟩ : ∃ x, runO a.toNat R p m = x := ⟨_, rfl⟩
  have hxs : Sound R p m x.1 := by rw [← hx]; exact runO_ok hR hp
  have hxl : x.2 ≤ a.toNat := by rw [← hx]; exact runO_le
  by_cases ht : x.1.t = 0
  · obtain ⟨e1, e2⟩ := runO_add (a := a.toNat) (b := b.toNat) (R := R) (p := p) (m := m) (by rw [hx]; exact ht)
    rw [hx] at e1 e2
    rw [← htn] at e2
    rw [← e1] at e2
    obtain ⟨y, hy⟩ : ∃ y, runO b.toNat x.1.R x.1.p x.1.m = y := ⟨_, rfl⟩
    have hyl : y.2 ≤ b.toNat := by rw [← hy]; exact runO_le
    rw [hy] at e2
    have hxm : x.1.m.size ≤ 140737488351232 := by rw [hxs.m]; exact hms
    have hw : IntKind.i64.wrap ((x.2 : Int) + (y.2 : Int)) = ((y.2 + x.2 : Nat) : Int) := by rw [wI (by omega) (by omega)]; omega
    refine SG.walk tab_ok mx 400 [false, false, false, false, false, false, true, true, true] [hdB true, runT x, runT y, runT (y.1, y.2 + x.2)] ?_
    conv => whnf
    try dsimp only [rowL, rowN, growOk, hiN, fromL, tightN, maxOk]
    refine ⟨?_, ?_⟩
    · try simp only [hab]
      repeat' apply And.intro
      all_goals first
        | exact shownC hU
        | exact runX hU hms hR hp (show a ≤ 2000000 by omega) hx
        | exact runX hU hxm hxs.r hxs.p (show b ≤ 2000000 by omega) hy
        | exact runX hU hms hR hp (show a + b ≤ 2000000 by omega) e2
        | exact bne_eq_false_iff_eq.2 ht
        | trivial
        | rfl
        | omega
        | ((try dsimp only [rowL, rowN]); simp only [beq_iff_eq, beq_eq_false_iff_ne, bne_iff_ne, bne_eq_false_iff_eq, decide_eq_true_eq, decide_eq_false_iff_not, ne_eq, Bool.not_eq_true', Bool.not_eq_false', Bool.not_eq_eq_eq_not, Bool.not_true, Bool.not_false, Option.some.injEq, Option.getD_some, Option.getD_none]; omega)
        | (simp; done)
        | (simp; omega)
    simp only [hw]
    refine SG.ret tab_ok Tryd.func7 rfl ?_
    intro ρ w' v hm hv
    exact top_v hm hv (beq_self_eq_true _)
  · have e2 := runO_stop (a := a.toNat) (b := b.toNat) (R := R) (p := p) (m := m) (by rw [hx]; exact ht)
    rw [hx, ← htn] at e2
    refine SG.walk tab_ok mx 400 [false, false, false, false, false, true, true, true, true] [hdB true, runT x, runT x] ?_
    conv => whnf
    try dsimp only [rowL, rowN, growOk, hiN, fromL, tightN, maxOk]
    refine ⟨?_, ?_⟩
    · try simp only [hab]
      repeat' apply And.intro
      all_goals first
        | exact shownC hU
        | exact runX hU hms hR hp (show a ≤ 2000000 by omega) hx
        | exact runX hU hms hR hp (show a + b ≤ 2000000 by omega) e2
        | exact bne_iff_ne.2 ht
        | trivial
        | rfl
        | omega
        | ((try dsimp only [rowL, rowN]); simp only [beq_iff_eq, beq_eq_false_iff_ne, bne_iff_ne, bne_eq_false_iff_eq, decide_eq_true_eq, decide_eq_false_iff_not, ne_eq, Bool.not_eq_true', Bool.not_eq_false', Bool.not_eq_eq_eq_not, Bool.not_true, Bool.not_false, Option.some.injEq, Option.getD_some, Option.getD_none]; omega)
        | (simp; done)
        | (simp; omega)
    refine SG.ret tab_ok Tryd.func7 rfl ?_
    intro ρ w' v hm hv
    exact top_v hm hv (beq_self_eq_true _)
set_option maxHeartbeats 4000000 in
set_option maxRecDepth 100000 in
theorem own_walk (w : World) (R : Nat → Int) (p : Int) (m : ByteArray) (hT : UsesAt w) (hR : regs R) (hp : 0 ≤ p ∧ p < 4294967296) (hms : m.size ≤ 140737488351232) :
    Calls Tryd.prog 8 #[cpuV R p, .string m] w fun e w' => e = .returned (.bool true) ∧ Below w.heap.size w w' := by
  have hU : UB ⟨w, none, [], []⟩ := ⟨hT, rfl⟩
  have hso := stepO_ok (m := m) hR hp
  obtain ⟨j0, hj0⟩ := step_one R p m
  obtain ⟨at_, hat⟩ := step_four hR m (p := p)
  refine calls_top Tryd.func8 rfl [] [] [cpuS R p, strV m] .nil ⟨rfl, rfl, trivial⟩ ?_
  refine SG.walk tab_ok mx 400 [] [hdB true, outT (stepO R p m)] ?_
  conv => whnf
  try dsimp only [rowL, rowN, growOk, hiN, fromL, tightN, maxOk]
  refine ⟨?_, ?_⟩
  · repeat' apply And.intro
    all_goals first
      | exact shownC hU
      | exact stepC hU hms hR hp
      | trivial
      | rfl
      | omega
      | ((try dsimp only [rowL, rowN]); simp only [beq_iff_eq, beq_eq_false_iff_ne, bne_iff_ne, bne_eq_false_iff_eq, decide_eq_true_eq, decide_eq_false_iff_not, ne_eq, Bool.not_eq_true', Bool.not_eq_false', Bool.not_eq_eq_eq_not, Bool.not_true, Bool.not_false, Option.some.injEq, Option.getD_some, Option.getD_none]; omega)
      | (simp; done)
      | (simp; omega)
  obtain ⟨Q, hQ⟩ : ∃ Q, (stepO R p m).R = Q := ⟨_, rfl⟩
  obtain ⟨q, hq⟩ : ∃ q, (stepO R p m).p = q := ⟨_, rfl⟩
  obtain ⟨l, hl⟩ : ∃ l, (stepO R p m).m = l := ⟨_, rfl⟩
  have hls : l.size = m.size := by rw [← hl]; exact hso.m
  rw [hQ] at hj0
  rw [hl] at hat
  simp only [hQ, hq, hl]
  refine SG.loop (fun x : Nat × Nat => ⟨puts (List.replicate (Tryd.f8).ntmps .any) [(1, strV m), (2, bpV 0), (5, trueV), (6, bpV 1), (7, strV l), (9, intV x.2), (10, intV x.1)], [some (cpuC R p), some (cpuC Q q)], [], []⟩) (fun x => x.1 ≤ 8 ∧ x.2 ≤ (if j0 < x.1 then 1 else 0)) (fun x => 8 - x.1) ((0, 0)) (⟨Nat.zero_le _, Nat.zero_le _⟩) (fun h => SG.sub [0, 1] [] ⟨?_, ?_, ?_, by decide, rfl, rfl, rfl, ?_⟩ h) ?_
  · repeat' (first | exact trivial | exact rfl | refine And.intro ?_ ?_)
  · repeat' (first | exact trivial | exact rfl | refine And.intro ?_ ?_)
  · repeat' (first | exact trivial | refine ⟨⟨_, rfl, ⟨rfl, rfl, .inl rfl, (fun h => by first | exact h | cases h), (fun h => by first | exact h | cases h), fun _ _ => rfl⟩, fun _ _ => rfl⟩, ?_⟩ | refine ⟨⟨_, rfl, ⟨rfl, rfl, .inr rfl, (fun h => by first | exact h | cases h), (fun h => by first | exact h | cases h), fun _ _ => rfl⟩, fun _ _ => rfl⟩, ?_⟩ | refine ⟨⟨_, rfl, ⟨rfl, rfl, .inr rfl, (fun h => by first | exact h | cases h), (fun h => by first | exact h | cases h), fun i hi => absurd hi (Nat.not_lt_zero i)⟩, fun i hi => absurd hi (Nat.not_lt_zero i)⟩, ?_⟩ | refine ⟨⟨_, rfl, ⟨rfl, rfl, .inl rfl, (fun h => by first | exact h | cases h), (fun h => by first | exact h | cases h), fun i hi => ren_closed (hQc i hi)⟩, fun i hi => inn_closed (hQc i hi)⟩, ?_⟩)
  · repeat' (first | exact trivial | exact rfl | refine And.intro ?_ ?_)
  rintro ⟨k, c⟩ ⟨hk, hc⟩ next
  dsimp only at hk hc next ⊢
  have hc1 : c ≤ 1 := by split at hc <;> omega
  by_cases hlt : k < 8
  · have pq := pick8 (R := Q) (n := (k : Int)) (by omega) (by omega)
    have pr := pick8 (R := R) (n := (k : Int)) (by omega) (by omega)
    rw [Int.toNat_natCast] at pq pr
    by_cases g : Q k = R k
    · refine SG.walk tab_ok mx 400 [true, false] [] ?_
      conv => whnf
      try dsimp only [rowL, rowN, growOk, hiN, fromL, tightN, maxOk]
      refine ⟨?_, ?_⟩
      · simp only [pq, pr]
        repeat' apply And.intro
        all_goals first
          | exact bne_eq_false_iff_eq.2 g
          | trivial
          | rfl
          | omega
          | ((try dsimp only [rowL, rowN]); simp only [beq_iff_eq, beq_eq_false_iff_ne, bne_iff_ne, bne_eq_false_iff_eq, decide_eq_true_eq, decide_eq_false_iff_not, ne_eq, Bool.not_eq_true', Bool.not_eq_false', Bool.not_eq_eq_eq_not, Bool.not_true, Bool.not_false, Option.some.injEq, Option.getD_some, Option.getD_none]; omega)
          | (simp; done)
          | (simp; omega)
      rw [show IntKind.i64.wrap ((k : Int) + 1) = ((k + 1 : Nat) : Int) from by rw [wI (by omega) (by omega)]; simp]
      refine SG.sub [0, 1] [] ⟨?_, ?_, ?_, by decide, rfl, rfl, rfl, ?_⟩ (next (k + 1, c) ⟨hlt, by dsimp only; split at hc <;> (split <;> omega)⟩ (by dsimp only; omega))
      · repeat' (first | exact trivial | exact rfl | refine And.intro ?_ ?_)
      · repeat' (first | exact trivial | exact rfl | refine And.intro ?_ ?_)
      · repeat' (first | exact trivial | refine ⟨⟨_, rfl, ⟨rfl, rfl, .inl rfl, (fun h => by first | exact h | cases h), (fun h => by first | exact h | cases h), fun _ _ => rfl⟩, fun _ _ => rfl⟩, ?_⟩ | refine ⟨⟨_, rfl, ⟨rfl, rfl, .inr rfl, (fun h => by first | exact h | cases h), (fun h => by first | exact h | cases h), fun _ _ => rfl⟩, fun _ _ => rfl⟩, ?_⟩ | refine ⟨⟨_, rfl, ⟨rfl, rfl, .inr rfl, (fun h => by first | exact h | cases h), (fun h => by first | exact h | cases h), fun i hi => absurd hi (Nat.not_lt_zero i)⟩, fun i hi => absurd hi (Nat.not_lt_zero i)⟩, ?_⟩ | refine ⟨⟨_, rfl, ⟨rfl, rfl, .inl rfl, (fun h => by first | exact h | cases h), (fun h => by first | exact h | cases h), fun i hi => ren_closed (hQc i hi)⟩, fun i hi => inn_closed (hQc i hi)⟩, ?_⟩)
      · repeat' (first | exact trivial | exact rfl | refine And.intro ?_ ?_)
    · have hkj : k = j0 := Classical.not_not.1 fun h => g (hj0 k h)
      refine SG.walk tab_ok mx 400 [true, true] [] ?_
      conv => whnf
      try dsimp only [rowL, rowN, growOk, hiN, fromL, tightN, maxOk]
      refine ⟨?_, ?_⟩
      · simp only [pq, pr]
        repeat' apply And.intro
        all_goals first
          | exact bne_iff_ne.2 g
          | trivial
          | rfl
          | omega
          | ((try dsimp only [rowL, rowN]); simp only [beq_iff_eq, beq_eq_false_iff_ne, bne_iff_ne, bne_eq_false_iff_eq, decide_eq_true_eq, decide_eq_false_iff_not, ne_eq, Bool.not_eq_true', Bool.not_eq_false', Bool.not_eq_eq_eq_not, Bool.not_true, Bool.not_false, Option.some.injEq, Option.getD_some, Option.getD_none]; omega)
          | (simp; done)
          | (simp; omega)
      rw [show IntKind.i64.wrap ((k : Int) + 1) = ((k + 1 : Nat) : Int) from by rw [wI (by omega) (by omega)]; simp, show IntKind.i64.wrap ((c : Int) + 1) = ((c + 1 : Nat) : Int) from by rw [wI (by omega) (by omega)]; simp]
      refine SG.sub [0, 1] [] ⟨?_, ?_, ?_, by decide, rfl, rfl, rfl, ?_⟩ (next (k + 1, c + 1) ⟨hlt, by dsimp only; rw [if_neg (by omega)] at hc; rw [if_pos (by omega)]; omega⟩ (by dsimp only; omega))
      · repeat' (first | exact trivial | exact rfl | refine And.intro ?_ ?_)
      · repeat' (first | exact trivial | exact rfl | refine And.intro ?_ ?_)
      · repeat' (first | exact trivial | refine ⟨⟨_, rfl, ⟨rfl, rfl, .inl rfl, (fun h => by first | exact h | cases h), (fun h => by first | exact h | cases h), fun _ _ => rfl⟩, fun _ _ => rfl⟩, ?_⟩ | refine ⟨⟨_, rfl, ⟨rfl, rfl, .inr rfl, (fun h => by first | exact h | cases h), (fun h => by first | exact h | cases h), fun _ _ => rfl⟩, fun _ _ => rfl⟩, ?_⟩ | refine ⟨⟨_, rfl, ⟨rfl, rfl, .inr rfl, (fun h => by first | exact h | cases h), (fun h => by first | exact h | cases h), fun i hi => absurd hi (Nat.not_lt_zero i)⟩, fun i hi => absurd hi (Nat.not_lt_zero i)⟩, ?_⟩ | refine ⟨⟨_, rfl, ⟨rfl, rfl, .inl rfl, (fun h => by first | exact h | cases h), (fun h => by first | exact h | cases h), fun i hi => ren_closed (hQc i hi)⟩, fun i hi => inn_closed (hQc i hi)⟩, ?_⟩)
      · repeat' (first | exact trivial | exact rfl | refine And.intro ?_ ?_)
  · refine SG.walk tab_ok mx 400 [false, false, false] [] ?_
    conv => whnf
    try dsimp only [rowL, rowN, growOk, hiN, fromL, tightN, maxOk]
    refine ⟨?_, ?_⟩
    · rw [hls]
      repeat' apply And.intro
      all_goals first
        | exact bne_self_eq_false _
        | trivial
        | rfl
        | omega
        | ((try dsimp only [rowL, rowN]); simp only [beq_iff_eq, beq_eq_false_iff_ne, bne_iff_ne, bne_eq_false_iff_eq, decide_eq_true_eq, decide_eq_false_iff_not, ne_eq, Bool.not_eq_true', Bool.not_eq_false', Bool.not_eq_eq_eq_not, Bool.not_true, Bool.not_false, Option.some.injEq, Option.getD_some, Option.getD_none]; omega)
        | (simp; done)
        | (simp; omega)
    refine SG.loop (fun x : Nat × Int × Int => ⟨puts (List.replicate (Tryd.f8).ntmps .any) [(1, strV m), (5, trueV), (7, strV l), (11, intV x.2.1), (12, intV x.2.2), (13, intV x.1)], [], [], []⟩) (fun x => x.1 ≤ m.size ∧ ((x.2.1 = -1 ∧ x.2.2 = -1) ∨ (at_ ≤ x.2.1 ∧ x.2.1 ≤ x.2.2 ∧ x.2.2 < at_ + 4 ∧ 0 ≤ x.2.1 ∧ x.2.2 < x.1))) (fun x => m.size - x.1) ((0, -1, -1)) (⟨Nat.zero_le _, .inl ⟨rfl, rfl⟩⟩) (fun h => SG.sub [] [] ⟨?_, ?_, ?_, by decide, rfl, rfl, rfl, ?_⟩ h) ?_
    · repeat' (first | exact trivial | exact rfl | refine And.intro ?_ ?_)
    · repeat' (first | exact trivial | exact rfl | refine And.intro ?_ ?_)
    · repeat' (first | exact trivial | refine ⟨⟨_, rfl, ⟨rfl, rfl, .inl rfl, (fun h => by first | exact h | cases h), (fun h => by first | exact h | cases h), fun _ _ => rfl⟩, fun _ _ => rfl⟩, ?_⟩ | refine ⟨⟨_, rfl, ⟨rfl, rfl, .inr rfl, (fun h => by first | exact h | cases h), (fun h => by first | exact h | cases h), fun _ _ => rfl⟩, fun _ _ => rfl⟩, ?_⟩ | refine ⟨⟨_, rfl, ⟨rfl, rfl, .inr rfl, (fun h => by first | exact h | cases h), (fun h => by first | exact h | cases h), fun i hi => absurd hi (Nat.not_lt_zero i)⟩, fun i hi => absurd hi (Nat.not_lt_zero i)⟩, ?_⟩ | refine ⟨⟨_, rfl, ⟨rfl, rfl, .inl rfl, (fun h => by first | exact h | cases h), (fun h => by first | exact h | cases h), fun i hi => ren_closed (hQc i hi)⟩, fun i hi => inn_closed (hQc i hi)⟩, ?_⟩)
    · repeat' (first | exact trivial | exact rfl | refine And.intro ?_ ?_)
    rintro ⟨k2, f, la⟩ ⟨hk2, hfl⟩ next2
    dsimp only at hk2 hfl next2 ⊢
    by_cases hlt2 : k2 < m.size
    · by_cases g : byteAt l k2 = byteAt m k2
      · refine SG.walk tab_ok mx 400 [true, false] [] ?_
        conv => whnf
        try dsimp only [rowL, rowN, growOk, hiN, fromL, tightN, maxOk]
        refine ⟨?_, ?_⟩
        · repeat' apply And.intro
          all_goals first
            | exact bne_eq_false_iff_eq.2 g
            | trivial
            | rfl
            | omega
            | ((try dsimp only [rowL, rowN]); simp only [beq_iff_eq, beq_eq_false_iff_ne, bne_iff_ne, bne_eq_false_iff_eq, decide_eq_true_eq, decide_eq_false_iff_not, ne_eq, Bool.not_eq_true', Bool.not_eq_false', Bool.not_eq_eq_eq_not, Bool.not_true, Bool.not_false, Option.some.injEq, Option.getD_some, Option.getD_none]; omega)
            | (simp; done)
            | (simp; omega)
        rw [show IntKind.i64.wrap ((k2 : Int) + 1) = ((k2 + 1 : Nat) : Int) from by rw [wI (by omega) (by omega)]; simp]
        refine SG.sub [] [] ⟨?_, ?_, ?_, by decide, rfl, rfl, rfl, ?_⟩ (next2 (k2 + 1, f, la) ⟨hlt2, by dsimp only; omega⟩ (by dsimp only; omega))
        · repeat' (first | exact trivial | exact rfl | refine And.intro ?_ ?_)
        · repeat' (first | exact trivial | exact rfl | refine And.intro ?_ ?_)
        · repeat' (first | exact trivial | refine ⟨⟨_, rfl, ⟨rfl, rfl, .inl rfl, (fun h => by first | exact h | cases h), (fun h => by first | exact h | cases h), fun _ _ => rfl⟩, fun _ _ => rfl⟩, ?_⟩ | refine ⟨⟨_, rfl, ⟨rfl, rfl, .inr rfl, (fun h => by first | exact h | cases h), (fun h => by first | exact h | cases h), fun _ _ => rfl⟩, fun _ _ => rfl⟩, ?_⟩ | refine ⟨⟨_, rfl, ⟨rfl, rfl, .inr rfl, (fun h => by first | exact h | cases h), (fun h => by first | exact h | cases h), fun i hi => absurd hi (Nat.not_lt_zero i)⟩, fun i hi => absurd hi (Nat.not_lt_zero i)⟩, ?_⟩ | refine ⟨⟨_, rfl, ⟨rfl, rfl, .inl rfl, (fun h => by first | exact h | cases h), (fun h => by first | exact h | cases h), fun i hi => ren_closed (hQc i hi)⟩, fun i hi => inn_closed (hQc i hi)⟩, ?_⟩)
        · repeat' (first | exact trivial | exact rfl | refine And.intro ?_ ?_)
      · have h4 := hat k2 g
        by_cases gf : f < 0
        · refine SG.walk tab_ok mx 400 [true, true, true] [] ?_
          conv => whnf
          try dsimp only [rowL, rowN, growOk, hiN, fromL, tightN, maxOk]
          refine ⟨?_, ?_⟩
          · repeat' apply And.intro
            all_goals first
              | exact bne_iff_ne.2 g
              | trivial
              | rfl
              | omega
              | ((try dsimp only [rowL, rowN]); simp only [beq_iff_eq, beq_eq_false_iff_ne, bne_iff_ne, bne_eq_false_iff_eq, decide_eq_true_eq, decide_eq_false_iff_not, ne_eq, Bool.not_eq_true', Bool.not_eq_false', Bool.not_eq_eq_eq_not, Bool.not_true, Bool.not_false, Option.some.injEq, Option.getD_some, Option.getD_none]; omega)
              | (simp; done)
              | (simp; omega)
          rw [show IntKind.i64.wrap ((k2 : Int) + 1) = ((k2 + 1 : Nat) : Int) from by rw [wI (by omega) (by omega)]; simp]
          refine SG.sub [] [] ⟨?_, ?_, ?_, by decide, rfl, rfl, rfl, ?_⟩ (next2 (k2 + 1, (k2 : Int), (k2 : Int)) ⟨hlt2, by dsimp only; omega⟩ (by dsimp only; omega))
          · repeat' (first | exact trivial | exact rfl | refine And.intro ?_ ?_)
          · repeat' (first | exact trivial | exact rfl | refine And.intro ?_ ?_)
          · repeat' (first | exact trivial | refine ⟨⟨_, rfl, ⟨rfl, rfl, .inl rfl, (fun h => by first | exact h | cases h), (fun h => by first | exact h | cases h), fun _ _ => rfl⟩, fun _ _ => rfl⟩, ?_⟩ | refine ⟨⟨_, rfl, ⟨rfl, rfl, .inr rfl, (fun h => by first | exact h | cases h), (fun h => by first | exact h | cases h), fun _ _ => rfl⟩, fun _ _ => rfl⟩, ?_⟩ | refine ⟨⟨_, rfl, ⟨rfl, rfl, .inr rfl, (fun h => by first | exact h | cases h), (fun h => by first | exact h | cases h), fun i hi => absurd hi (Nat.not_lt_zero i)⟩, fun i hi => absurd hi (Nat.not_lt_zero i)⟩, ?_⟩ | refine ⟨⟨_, rfl, ⟨rfl, rfl, .inl rfl, (fun h => by first | exact h | cases h), (fun h => by first | exact h | cases h), fun i hi => ren_closed (hQc i hi)⟩, fun i hi => inn_closed (hQc i hi)⟩, ?_⟩)
          · repeat' (first | exact trivial | exact rfl | refine And.intro ?_ ?_)
        · refine SG.walk tab_ok mx 400 [true, true, false] [] ?_
          conv => whnf
          try dsimp only [rowL, rowN, growOk, hiN, fromL, tightN, maxOk]
          refine ⟨?_, ?_⟩
          · repeat' apply And.intro
            all_goals first
              | exact bne_iff_ne.2 g
              | trivial
              | rfl
              | omega
              | ((try dsimp only [rowL, rowN]); simp only [beq_iff_eq, beq_eq_false_iff_ne, bne_iff_ne, bne_eq_false_iff_eq, decide_eq_true_eq, decide_eq_false_iff_not, ne_eq, Bool.not_eq_true', Bool.not_eq_false', Bool.not_eq_eq_eq_not, Bool.not_true, Bool.not_false, Option.some.injEq, Option.getD_some, Option.getD_none]; omega)
              | (simp; done)
              | (simp; omega)
          rw [show IntKind.i64.wrap ((k2 : Int) + 1) = ((k2 + 1 : Nat) : Int) from by rw [wI (by omega) (by omega)]; simp]
          refine SG.sub [] [] ⟨?_, ?_, ?_, by decide, rfl, rfl, rfl, ?_⟩ (next2 (k2 + 1, f, (k2 : Int)) ⟨hlt2, by dsimp only; omega⟩ (by dsimp only; omega))
          · repeat' (first | exact trivial | exact rfl | refine And.intro ?_ ?_)
          · repeat' (first | exact trivial | exact rfl | refine And.intro ?_ ?_)
          · repeat' (first | exact trivial | refine ⟨⟨_, rfl, ⟨rfl, rfl, .inl rfl, (fun h => by first | exact h | cases h), (fun h => by first | exact h | cases h), fun _ _ => rfl⟩, fun _ _ => rfl⟩, ?_⟩ | refine ⟨⟨_, rfl, ⟨rfl, rfl, .inr rfl, (fun h => by first | exact h | cases h), (fun h => by first | exact h | cases h), fun _ _ => rfl⟩, fun _ _ => rfl⟩, ?_⟩ | refine ⟨⟨_, rfl, ⟨rfl, rfl, .inr rfl, (fun h => by first | exact h | cases h), (fun h => by first | exact h | cases h), fun i hi => absurd hi (Nat.not_lt_zero i)⟩, fun i hi => absurd hi (Nat.not_lt_zero i)⟩, ?_⟩ | refine ⟨⟨_, rfl, ⟨rfl, rfl, .inl rfl, (fun h => by first | exact h | cases h), (fun h => by first | exact h | cases h), fun i hi => ren_closed (hQc i hi)⟩, fun i hi => inn_closed (hQc i hi)⟩, ?_⟩)
          · repeat' (first | exact trivial | exact rfl | refine And.intro ?_ ?_)
    · by_cases gf : f < 0
      · refine SG.walk tab_ok mx 400 [false, true] [] ?_
        conv => whnf
        try dsimp only [rowL, rowN, growOk, hiN, fromL, tightN, maxOk]
        refine ⟨?_, ?_⟩
        · repeat' apply And.intro
          all_goals first
            | trivial
            | rfl
            | omega
            | ((try dsimp only [rowL, rowN]); simp only [beq_iff_eq, beq_eq_false_iff_ne, bne_iff_ne, bne_eq_false_iff_eq, decide_eq_true_eq, decide_eq_false_iff_not, ne_eq, Bool.not_eq_true', Bool.not_eq_false', Bool.not_eq_eq_eq_not, Bool.not_true, Bool.not_false, Option.some.injEq, Option.getD_some, Option.getD_none]; omega)
            | (simp; done)
            | (simp; omega)
        refine SG.ret tab_ok Tryd.func8 rfl ?_
        intro ρ w' v hm hv
        exact top_true hm hv rfl
      · have hw : IntKind.i64.wrap (la - f) = la - f := wI (by omega) (by omega)
        refine SG.walk tab_ok mx 400 [false, false] [] ?_
        conv => whnf
        try dsimp only [rowL, rowN, growOk, hiN, fromL, tightN, maxOk]
        refine ⟨?_, ?_⟩
        · repeat' apply And.intro
          all_goals first
            | trivial
            | rfl
            | omega
            | ((try dsimp only [rowL, rowN]); simp only [beq_iff_eq, beq_eq_false_iff_ne, bne_iff_ne, bne_eq_false_iff_eq, decide_eq_true_eq, decide_eq_false_iff_not, ne_eq, Bool.not_eq_true', Bool.not_eq_false', Bool.not_eq_eq_eq_not, Bool.not_true, Bool.not_false, Option.some.injEq, Option.getD_some, Option.getD_none]; omega)
            | (simp; done)
            | (simp; omega)
        simp only [hw]
        refine SG.ret tab_ok Tryd.func8 rfl ?_
        intro ρ w' v hm hv
        exact top_v hm hv (decide_eq_true (show la - f < 4 by omega))
end Go.Proofs.YtcdoofjddhlodaaDoor
