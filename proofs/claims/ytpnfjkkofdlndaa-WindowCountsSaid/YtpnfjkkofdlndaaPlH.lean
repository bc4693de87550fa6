/- Windows: what begins, what is granted. -/
import Derived.Test.YtpnfjkkofdlndaaPlE
namespace Go.Proofs.Ytpnfjkkofdlndaa
open Go.Sx Go.RowKit
set_option linter.unusedVariables false
set_option linter.unusedSimpArgs false
/-- A number in a box that nobody writes any more. -/
abbrev intR (x : Int) : Row := ⟨1, 1, fun _ => [aI x], none, false, false⟩
abbrev u64R (x : Int) : Row := ⟨1, 1, fun _ => [.v (.int .u64 x)], none, false, false⟩
def cntG (F part t : Int) (x : Wn) : Int := if x.p = part then t / F * ownI x F + ownI x (cyN F t) else 0
theorem cntG_nn {F part t : Int} {x : Wn} (h : 0 ≤ t / F) (hx : 3 ≤ x.l) : 0 ≤ cntG F part t x := by
  have o1 := ownI_nn (n := F) (w := x) (by omega)
  have o2 := ownI_nn (n := cyN F t) (w := x) (by omega)
  have := Int.mul_nonneg h o1
  unfold cntG; split <;> omega
def sumG (F part t : Int) : List Wn → Int
  | [] => 0
  | x :: l => cntG F part t x + sumG F part t l
theorem sumG_nn {F part t : Int} (h : 0 ≤ t / F) : ∀ {L : List Wn}, (∀ x ∈ L, 3 ≤ x.l) → 0 ≤ sumG F part t L
  | [], _ => Int.le_refl 0
  | x :: l, hx => by
    have h1 := sumG_nn (part := part) h (fun y hy => hx y (List.mem_cons_of_mem _ hy))
    have h2 := cntG_nn (part := part) h (hx x (by simp))
    rw [sumG]; omega
theorem sumG_eq {F part t : Int} : ∀ L : List Wn, sumG F part t L = t / F * sumI part F L + sumI part (cyN F t) L
  | [] => by simp [sumG, sumI]
  | x :: l => by
    rw [sumG, sumG_eq l, sumI, sumI, cntG]
    split
    · rw [Int.mul_add]; omega
    · simp
/-- What a window counts. -/
def cntI (part n : Int) (x : Wn) : Int := if x.p = part then ownI x n else 0
theorem cntI_ok {part n : Int} {x : Wn} (h1 : 3 ≤ x.l) (h2 : x.l ≤ 4096) : 0 ≤ cntI part n x ∧ cntI part n x ≤ 4096 := by
  unfold cntI ownI
  split <;> (try split) <;> (try split) <;> omega
theorem sumI_max {P : List Pa} {F : Int} {S : List RW} {C : List Ch} {i part n : Int} (T : There P F S C i) : sumI part n (S.getD i.toNat rw0).L ≤ F := by
  have tF := T.F1
  rcases Int.le_total n 0 with h | h
  · rw [sumI_zero (fun w hw => (T.ws w hw).2.2.1) h]; omega
  · rcases Int.le_total n F with h' | h'
    · have := sumI_le (part := part) (n := n) T.sc (Int.le_refl 0) h; omega
    · rw [sumI_end (fun w hw => ⟨(T.ws w hw).2.2.2.1, (T.ws w hw).2.2.2.2⟩) h']
      have := sumI_le (part := part) (n := F) T.sc (Int.le_refl 0) (by omega); omega
section
variable {W : Base} {B : List (Option (List At))} {Rs : List (Option Row)}
set_option maxHeartbeats 4000000 in
set_option maxRecDepth 100000 in
theorem mayNo {a b c : Nat} {P : List Pa} {S : List RW} {C : List Ch} {F i : Int} (h : PlanAt Rs a b c P S C) (hS : okS S) (hb : ¬ thereB P F S C i = true) : CallOk Try.prog W B Rs 30 [planV a F b c, intV i] (hdB false) := by
  have := mayC (W := W) (B := B) (F := F) (i := i) h hS
  rw [Bool.eq_false_iff.2 hb] at this
  exact this
set_option maxHeartbeats 4000000 in
set_option maxRecDepth 100000 in
theorem startsC {a b c : Nat} {P : List Pa} {S : List RW} {C : List Ch} {F i t : Int} (h : PlanAt Rs a b c P S C) (hS : okS S) (ht : 0 ≤ t ∧ t ≤ 18446744073709551615) :
    CallOk Try.prog W B Rs 13 [planV a F b c, intV i, u64V t] (hdB (stS P F S C i t)) := by
  refine CallOk.enter Try.func13 (by kernel_rfl) rfl [a, b, c] [rowPa P, rowWs S, rowCh C] [planV 0 F 1 2, intV i, u64V t] rfl h.rows (fun r h => by cases h) rfl rfl ?_
  intro w blk hblk
  refine SG.walk tab_ok mx 400 [] [] ?_
  conv => whnf
  try dsimp only [rowL, rowN, growOk, hiN, fromL, tightN, maxOk]
  refine ⟨?_, ?_⟩
  · trivial
  refine SG.inline rfl rfl rfl Try.func20 (by kernel_rfl) rfl ?_
  intro Wg Rg hbg
  refine SG.norm ?_
  conv => whnf
  refine SG.walk tab_ok mx 400 [] [] ?_
  conv => whnf
  try dsimp only [rowL, rowN, growOk, hiN, fromL, tightN, maxOk]
  refine ⟨?_, ?_⟩
  · trivial
  refine SG.back hbg tab_ok Try.func20 rfl (Nat.le_of_ble_eq_true rfl) ?_
  refine SG.norm ?_
  conv => whnf
  refine SG.walk tab_ok mx 400 [] [] ?_
  conv => whnf
  try dsimp only [rowL, rowN, growOk, hiN, fromL, tightN, maxOk]
  refine ⟨?_, ?_⟩
  · trivial
  refine SG.range rfl rfl Try.func29 (by kernel_rfl) rfl ?_
  intro Dq lq Lq Rq hlq
  refine SG.norm ?_
  conv => whnf
  by_cases hb : thereB P F S C i = true
  · have T := There.of hb
    have t0 := T.i0
    have t1 := T.i1
    have t2 := T.i2
    have t3 := T.s3
    have hF : 1 ≤ F ∧ F ≤ 4096 := ⟨T.F1, T.F2⟩
    have t8 := T.l8
    obtain ⟨c1, c2, c3, c4⟩ := cyN_ok hF ht
    have ec : stS P F S C i t = starts (cyN F t) (S.getD i.toNat rw0).L := by unfold stS; rw [hb]; rfl
    refine SG.walk tab_ok mx 400 [true] [hdB true] ?_
    conv => whnf
    try dsimp only [rowL, rowN, growOk, hiN, fromL, tightN, maxOk]
    refine ⟨?_, ?_⟩
    · exact ⟨⟨by omega, by omega⟩, ⟨by omega, by omega⟩, mayOk (thereP rfl rfl rfl) hS hb⟩
    refine SG.loop (fun k : Nat => ⟨puts (List.replicate (Try.f29).ntmps .any) [(0, yieldOf lq), (14, rwV (S.getD i.toNat rw0)), (15, intV (S.getD i.toNat rw0).L.length), (16, intV k)], [some [.rs 0, aI F, .rs 1, .rs 2], some [.v (.int .u64 t)], some [.lb false]], [some (rowPa P), some (rowWs S), some (rowCh C)], puts (List.replicate (Try.f13).ntmps .any) [(3, bpV 0), (5, bpV 1), (6, bpV 2)]⟩) (fun k => k ≤ (S.getD i.toNat rw0).L.length ∧ starts (cyN F t) (S.getD i.toNat rw0).L = starts (cyN F t) ((S.getD i.toNat rw0).L.drop k)) (fun k => (S.getD i.toNat rw0).L.length - k) (0) (⟨Nat.zero_le _, rfl⟩) (fun h => SG.sub [0, 1, 2] [0, 1, 2] ⟨?_, ?_, ?_, by decide, rfl, rfl, rfl, ?_⟩ h) ?_
    · repeat' (first | exact trivial | exact rfl | refine And.intro ?_ ?_)
    · repeat' (first | exact trivial | exact rfl | refine And.intro ?_ ?_)
    · repeat' (first | exact trivial | refine ⟨⟨_, rfl, ⟨rfl, rfl, .inl rfl, (fun h => by first | exact h | cases h), (fun h => by first | exact h | cases h), fun _ _ => rfl⟩, fun _ _ => rfl⟩, ?_⟩ | refine ⟨⟨_, rfl, ⟨rfl, rfl, .inr rfl, (fun h => by first | exact h | cases h), (fun h => by first | exact h | cases h), fun _ _ => rfl⟩, fun _ _ => rfl⟩, ?_⟩ | refine ⟨⟨_, rfl, ⟨rfl, rfl, .inr rfl, (fun h => by first | exact h | cases h), (fun h => by first | exact h | cases h), fun i hi => absurd hi (Nat.not_lt_zero i)⟩, fun i hi => absurd hi (Nat.not_lt_zero i)⟩, ?_⟩ | refine ⟨⟨_, rfl, ⟨rfl, rfl, .inl rfl, (fun h => by first | exact h | cases h), (fun h => by first | exact h | cases h), fun i hi => ren_closed (hQc i hi)⟩, fun i hi => inn_closed (hQc i hi)⟩, ?_⟩)
    · repeat' (first | exact trivial | exact rfl | refine And.intro ?_ ?_)
    rintro k ⟨hk, hc⟩ next
    by_cases hlt : k < (S.getD i.toNat rw0).L.length
    · obtain ⟨v1, v2, v3, v4, v5⟩ := T.ws _ (getD_mem' (d := wn0) hlt)
      rw [drop_getD (d := wn0) hlt] at hc
      refine SG.walk tab_ok mx 400 [true] [] ?_
      conv => whnf
      try dsimp only [rowL, rowN, growOk, hiN, fromL, tightN, maxOk]
      refine ⟨?_, ?_⟩
      · repeat' apply And.intro
        all_goals first
          | trivial
          | rfl
          | omega
          | ((try dsimp only [rowL, rowN]); simp only [beq_iff_eq, beq_eq_false_iff_ne, bne_iff_ne, bne_eq_false_iff_eq, decide_eq_true_eq, decide_eq_false_iff_not, ne_eq, Bool.not_eq_true', Bool.not_eq_false', Bool.not_eq_eq_eq_not, Bool.not_true, Bool.not_false, Option.some.injEq, Option.getD_some, Option.getD_none]; omega)
          | (simp; done)
          | (simp; omega)
      refine SG.round hlq rfl rfl rfl rfl rfl rfl rfl ?_
      intro Ty Ry hyy
      refine SG.norm ?_
      conv => whnf
      refine SG.walk tab_ok mx 400 [] [] ?_
      conv => whnf
      try dsimp only [rowL, rowN, growOk, hiN, fromL, tightN, maxOk]
      refine ⟨?_, ?_⟩
      · trivial
      refine SG.begin_ hlq rfl rfl ?_
      by_cases g1 : cyN F t = ((S.getD i.toNat rw0).L.getD k wn0).f
      · rw [show starts (cyN F t) ((S.getD i.toNat rw0).L.getD k wn0 :: List.drop (k + 1) (S.getD i.toNat rw0).L) = true from by simp only [starts, List.any_cons, g1, beq_self_eq_true, Bool.true_or]] at hc
        refine SG.walk tab_ok mx 400 [true] [hdInt (cyN F t)] ?_
        conv => whnf
        try dsimp only [rowL, rowN, growOk, hiN, fromL, tightN, maxOk]
        refine ⟨?_, ?_⟩
        · simp only [Int.toNat_natCast]
          repeat' apply And.intro
          all_goals first
            | exact cycleC (thereP rfl rfl rfl) hF ht
            | trivial
            | rfl
            | omega
            | ((try dsimp only [rowL, rowN]); simp only [beq_iff_eq, beq_eq_false_iff_ne, bne_iff_ne, bne_eq_false_iff_eq, decide_eq_true_eq, decide_eq_false_iff_not, ne_eq, Bool.not_eq_true', Bool.not_eq_false', Bool.not_eq_eq_eq_not, Bool.not_true, Bool.not_false, Option.some.injEq, Option.getD_some, Option.getD_none]; omega)
            | (simp; done)
            | (simp; omega)
        refine SG.rret hlq hyy rfl rfl (Nat.le_of_ble_eq_true rfl) ?_
        refine SG.norm ?_
        conv => whnf
        refine SG.walk tab_ok mx 400 [] [] ?_
        conv => whnf
        try dsimp only [rowL, rowN, growOk, hiN, fromL, tightN, maxOk]
        refine ⟨?_, ?_⟩
        · trivial
        refine SG.rover hlq tab_ok Try.func29 rfl rfl (Nat.le_of_ble_eq_true rfl) ?_
        refine SG.norm ?_
        conv => whnf
        refine SG.walk tab_ok mx 400 [] [] ?_
        conv => whnf
        try dsimp only [rowL, rowN, growOk, hiN, fromL, tightN, maxOk]
        refine ⟨?_, ?_⟩
        · trivial
        rw [ec, hc]
        refine SG.ret tab_ok Try.func13 rfl ?_
        intro ρ w' v hm hv
        exact Post.mk hm (.cv (.one (.lb true))) [] none [] hv rfl rows0 rfl (by simp)
      · rw [show starts (cyN F t) ((S.getD i.toNat rw0).L.getD k wn0 :: List.drop (k + 1) (S.getD i.toNat rw0).L) = starts (cyN F t) (List.drop (k + 1) (S.getD i.toNat rw0).L) from by simp only [starts, List.any_cons, beq_eq_false_iff_ne.2 g1, Bool.false_or]] at hc
        refine SG.walk tab_ok mx 400 [false] [hdInt (cyN F t)] ?_
        conv => whnf
        try dsimp only [rowL, rowN, growOk, hiN, fromL, tightN, maxOk]
        refine ⟨?_, ?_⟩
        · simp only [Int.toNat_natCast]
          repeat' apply And.intro
          all_goals first
            | exact cycleC (thereP rfl rfl rfl) hF ht
            | trivial
            | rfl
            | omega
            | ((try dsimp only [rowL, rowN]); simp only [beq_iff_eq, beq_eq_false_iff_ne, bne_iff_ne, bne_eq_false_iff_eq, decide_eq_true_eq, decide_eq_false_iff_not, ne_eq, Bool.not_eq_true', Bool.not_eq_false', Bool.not_eq_eq_eq_not, Bool.not_true, Bool.not_false, Option.some.injEq, Option.getD_some, Option.getD_none]; omega)
            | (simp; done)
            | (simp; omega)
        refine SG.rend hlq hyy rfl rfl (Nat.le_of_ble_eq_true rfl) ?_
        refine SG.norm ?_
        conv => whnf
        refine SG.walk tab_ok mx 400 [] [] ?_
        conv => whnf
        try dsimp only [rowL, rowN, growOk, hiN, fromL, tightN, maxOk]
        refine ⟨?_, ?_⟩
        · trivial
        rw [show IntKind.i64.wrap ((k : Int) + 1) = ((k + 1 : Nat) : Int) from by rw [wI (by omega) (by omega)]; simp]
        refine SG.sub [0, 1, 2] [0, 1, 2] ⟨?_, ?_, ?_, by decide, rfl, rfl, rfl, ?_⟩ (next (k + 1) ⟨hlt, hc⟩ (by omega))
        · repeat' (first | exact trivial | exact rfl | refine And.intro ?_ ?_)
        · repeat' (first | exact trivial | exact rfl | refine And.intro ?_ ?_)
        · repeat' (first | exact trivial | refine ⟨⟨_, rfl, ⟨rfl, rfl, .inl rfl, (fun h => by first | exact h | cases h), (fun h => by first | exact h | cases h), fun _ _ => rfl⟩, fun _ _ => rfl⟩, ?_⟩ | refine ⟨⟨_, rfl, ⟨rfl, rfl, .inr rfl, (fun h => by first | exact h | cases h), (fun h => by first | exact h | cases h), fun _ _ => rfl⟩, fun _ _ => rfl⟩, ?_⟩ | refine ⟨⟨_, rfl, ⟨rfl, rfl, .inr rfl, (fun h => by first | exact h | cases h), (fun h => by first | exact h | cases h), fun i hi => absurd hi (Nat.not_lt_zero i)⟩, fun i hi => absurd hi (Nat.not_lt_zero i)⟩, ?_⟩ | refine ⟨⟨_, rfl, ⟨rfl, rfl, .inl rfl, (fun h => by first | exact h | cases h), (fun h => by first | exact h | cases h), fun i hi => ren_closed (hQc i hi)⟩, fun i hi => inn_closed (hQc i hi)⟩, ?_⟩)
        · repeat' (first | exact trivial | exact rfl | refine And.intro ?_ ?_)
    · rw [List.drop_eq_nil_of_le (by omega)] at hc
      refine SG.walk tab_ok mx 400 [false] [] ?_
      conv => whnf
      try dsimp only [rowL, rowN, growOk, hiN, fromL, tightN, maxOk]
      refine ⟨?_, ?_⟩
      · repeat' apply And.intro
        all_goals first
          | trivial
          | rfl
          | omega
          | ((try dsimp only [rowL, rowN]); simp only [beq_iff_eq, beq_eq_false_iff_ne, bne_iff_ne, bne_eq_false_iff_eq, decide_eq_true_eq, decide_eq_false_iff_not, ne_eq, Bool.not_eq_true', Bool.not_eq_false', Bool.not_eq_eq_eq_not, Bool.not_true, Bool.not_false, Option.some.injEq, Option.getD_some, Option.getD_none]; omega)
          | (simp; done)
          | (simp; omega)
      refine SG.routEnd hlq tab_ok Try.func29 rfl rfl (Nat.le_of_ble_eq_true rfl) ?_
      refine SG.norm ?_
      conv => whnf
      refine SG.walk tab_ok mx 400 [] [] ?_
      conv => whnf
      try dsimp only [rowL, rowN, growOk, hiN, fromL, tightN, maxOk]
      refine ⟨?_, ?_⟩
      · trivial
      rw [ec, hc]
      refine SG.ret tab_ok Try.func13 rfl ?_
      intro ρ w' v hm hv
      exact Post.mk hm (.cv (.one (.lb false))) [] none [] hv rfl rows0 rfl (by simp)
  · have ec : stS P F S C i t = false := by unfold stS; rw [Bool.eq_false_iff.2 hb]; rfl
    refine SG.walk tab_ok mx 400 [] [hdB false] ?_
    conv => whnf
    try dsimp only [rowL, rowN, growOk, hiN, fromL, tightN, maxOk]
    refine ⟨?_, ?_⟩
    · repeat' apply And.intro
      all_goals first
        | exact mayNo (thereP rfl rfl rfl) hS hb
        | trivial
        | rfl
        | omega
        | ((try dsimp only [rowL, rowN]); simp only [beq_iff_eq, beq_eq_false_iff_ne, bne_iff_ne, bne_eq_false_iff_eq, decide_eq_true_eq, decide_eq_false_iff_not, ne_eq, Bool.not_eq_true', Bool.not_eq_false', Bool.not_eq_eq_eq_not, Bool.not_true, Bool.not_false, Option.some.injEq, Option.getD_some, Option.getD_none]; omega)
        | (simp; done)
        | (simp; omega)
    refine SG.rout hlq tab_ok Try.func29 rfl rfl (Nat.le_of_ble_eq_true rfl) ?_
    refine SG.norm ?_
    conv => whnf
    refine SG.walk tab_ok mx 400 [] [] ?_
    conv => whnf
    try dsimp only [rowL, rowN, growOk, hiN, fromL, tightN, maxOk]
    refine ⟨?_, ?_⟩
    · trivial
    rw [ec]
    refine SG.ret tab_ok Try.func13 rfl ?_
    intro ρ w' v hm hv
    exact Post.mk hm (.cv (.one (.lb false))) [] none [] hv rfl rows0 rfl (by simp)
set_option maxHeartbeats 4000000 in
set_option maxRecDepth 100000 in
theorem ownC {x : Wn} {n : Int} (h1 : 0 ≤ x.f) (h2 : 3 ≤ x.l) (h3 : x.f + x.l ≤ 4096) : CallOk Try.prog W B Rs 26 [wnV x, intV n] (hdInt (ownI x n)) := by
  refine CallOk.enter Try.func26 (by kernel_rfl) rfl [] [] [wnV x, intV n] rfl rows0 (fun r h => by cases h) rfl rfl ?_
  intro w blk hblk
  refine SG.walk tab_ok mx 400 [] [] ?_
  conv => whnf
  try dsimp only [rowL, rowN, growOk, hiN, fromL, tightN, maxOk]
  refine ⟨?_, ?_⟩
  · repeat' apply And.intro
    all_goals first
      | trivial
      | rfl
      | omega
      | ((try dsimp only [rowL, rowN]); simp only [beq_iff_eq, beq_eq_false_iff_ne, bne_iff_ne, bne_eq_false_iff_eq, decide_eq_true_eq, decide_eq_false_iff_not, ne_eq, Bool.not_eq_true', Bool.not_eq_false', Bool.not_eq_eq_eq_not, Bool.not_true, Bool.not_false, Option.some.injEq, Option.getD_some, Option.getD_none]; omega)
      | (simp; done)
      | (simp; omega)
  have hm : 0 ≤ (if x.f + x.l < (if n > 0 then n else 0) then x.f + x.l else (if n > 0 then n else 0)) ∧ (if x.f + x.l < (if n > 0 then n else 0) then x.f + x.l else (if n > 0 then n else 0)) ≤ 4096 := by split <;> split <;> omega
  have hw : IntKind.i64.wrap (x.f + x.l) = x.f + x.l := wI (by omega) (by omega)
  obtain ⟨m, hmm⟩ : ∃ m, (if x.f + x.l < (if n > 0 then n else 0) then x.f + x.l else (if n > 0 then n else 0)) = m := ⟨_, rfl⟩
  rw [hmm] at hm
  have hw2 : IntKind.i64.wrap (m - x.f) = m - x.f := wI (by omega) (by omega)
  have hw3 : IntKind.i64.wrap (m - x.f - 2) = m - x.f - 2 := wI (by omega) (by omega)
  have he : ownI x n = (if m - x.f - 2 > 0 then m - x.f - 2 else 0) := by
    unfold ownI
    subst hmm
    split <;> (try split) <;> (try split) <;> (try split) <;> (try split) <;> omega
  simp only [hw, hmm, hw2, hw3, ← he]
  refine SG.ret tab_ok Try.func26 rfl ?_
  intro ρ w' v hm hv
  exact Post.mk hm (intV (ownI x n)) [] none [] hv rfl rows0 rfl (by simp)
set_option maxHeartbeats 4000000 in
set_option maxRecDepth 100000 in
theorem cntC {p q : Nat} {P Q : Row} {part n : Int} {x : Wn} (hp : Rs[p]? = some (some P)) (hP : RowLe P (intR part)) (hq : Rs[q]? = some (some Q)) (hQ : RowLe Q (intR n)) (h1 : 0 ≤ x.f) (h2 : 3 ≤ x.l) (h3 : x.f + x.l ≤ 4096) :
    CallOk Try.prog W B Rs 25 [wnV x, .cv (.one (.pt (.rp p 0 1 0))), .cv (.one (.pt (.rp q 0 1 0)))] (hdInt (cntI part n x)) := by
  unfold cntI
  by_cases g : x.p = part
  · rw [if_pos g]
    refine CallOk.enter Try.func25 (by kernel_rfl) rfl [p, q] [intR part, intR n] [wnV x, .cv (.one (.pt (.rp 0 0 1 0))), .cv (.one (.pt (.rp 1 0 1 0)))] rfl (rows2 (.ro_ hp hP rfl rfl (fun _ _ => rfl)) (.ro_ hq hQ rfl rfl (fun _ _ => rfl))) (fun r h => by cases h) rfl rfl ?_
    intro w blk hblk
    refine SG.walk tab_ok mx 400 [false] [hdInt (ownI x n)] ?_
    conv => whnf
    try dsimp only [rowL, rowN, growOk, hiN, fromL, tightN, maxOk]
    refine ⟨?_, ?_⟩
    · repeat' apply And.intro
      all_goals first
        | exact ownC h1 h2 h3
        | trivial
        | rfl
        | omega
        | ((try dsimp only [rowL, rowN]); simp only [beq_iff_eq, beq_eq_false_iff_ne, bne_iff_ne, bne_eq_false_iff_eq, decide_eq_true_eq, decide_eq_false_iff_not, ne_eq, Bool.not_eq_true', Bool.not_eq_false', Bool.not_eq_eq_eq_not, Bool.not_true, Bool.not_false, Option.some.injEq, Option.getD_some, Option.getD_none]; omega)
        | (simp; done)
        | (simp; omega)
    refine SG.ret tab_ok Try.func25 rfl ?_
    intro ρ w' v hm hv
    exact Post.mk hm (intV (ownI x n)) [] none [] hv rfl rows0 rfl (by simp)
  · rw [if_neg g]
    refine CallOk.enter Try.func25 (by kernel_rfl) rfl [p, q] [intR part, intR n] [wnV x, .cv (.one (.pt (.rp 0 0 1 0))), .cv (.one (.pt (.rp 1 0 1 0)))] rfl (rows2 (.ro_ hp hP rfl rfl (fun _ _ => rfl)) (.ro_ hq hQ rfl rfl (fun _ _ => rfl))) (fun r h => by cases h) rfl rfl ?_
    intro w blk hblk
    refine SG.walk tab_ok mx 400 [true] [] ?_
    conv => whnf
    try dsimp only [rowL, rowN, growOk, hiN, fromL, tightN, maxOk]
    refine ⟨?_, ?_⟩
    · repeat' apply And.intro
      all_goals first
        | trivial
        | rfl
        | omega
        | ((try dsimp only [rowL, rowN]); simp only [beq_iff_eq, beq_eq_false_iff_ne, bne_iff_ne, bne_eq_false_iff_eq, decide_eq_true_eq, decide_eq_false_iff_not, ne_eq, Bool.not_eq_true', Bool.not_eq_false', Bool.not_eq_eq_eq_not, Bool.not_true, Bool.not_false, Option.some.injEq, Option.getD_some, Option.getD_none]; omega)
        | (simp; done)
        | (simp; omega)
    refine SG.ret tab_ok Try.func25 rfl ?_
    intro ρ w' v hm hv
    exact Post.mk hm (intV 0) [] none [] hv rfl rows0 rfl (by simp)
set_option maxHeartbeats 4000000 in
set_option maxRecDepth 100000 in
theorem frameC {a b c : Nat} {P : List Pa} {S : List RW} {C : List Ch} {F i part n : Int} (h : PlanAt Rs a b c P S C) (hS : okS S) :
    CallOk Try.prog W B Rs 15 [planV a F b c, intV i, intV part, intV n] (hdInt (frS P F S C i part n)) := by
  refine CallOk.enter Try.func15 (by kernel_rfl) rfl [a, b, c] [rowPa P, rowWs S, rowCh C] [planV 0 F 1 2, intV i, intV part, intV n] rfl h.rows (fun r h => by cases h) rfl rfl ?_
  intro w blk hblk
  refine SG.walk tab_ok mx 400 [] [] ?_
  conv => whnf
  try dsimp only [rowL, rowN, growOk, hiN, fromL, tightN, maxOk]
  refine ⟨?_, ?_⟩
  · trivial
  refine SG.inline rfl rfl rfl Try.func20 (by kernel_rfl) rfl ?_
  intro Wg Rg hbg
  refine SG.norm ?_
  conv => whnf
  refine SG.walk tab_ok mx 400 [] [] ?_
  conv => whnf
  try dsimp only [rowL, rowN, growOk, hiN, fromL, tightN, maxOk]
  refine ⟨?_, ?_⟩
  · trivial
  refine SG.back hbg tab_ok Try.func20 rfl (Nat.le_of_ble_eq_true rfl) ?_
  refine SG.norm ?_
  conv => whnf
  refine SG.walk tab_ok mx 400 [] [] ?_
  conv => whnf
  try dsimp only [rowL, rowN, growOk, hiN, fromL, tightN, maxOk]
  refine ⟨?_, ?_⟩
  · trivial
  refine SG.boxRow 1 rfl ?_
  refine SG.norm ?_
  conv => whnf
  refine SG.boxRow 2 rfl ?_
  refine SG.norm ?_
  conv => whnf
  refine SG.inline rfl rfl rfl Try.func24 (by kernel_rfl) rfl ?_
  intro Ws Rs hbs
  refine SG.norm ?_
  conv => whnf
  refine SG.walk tab_ok mx 400 [] [] ?_
  conv => whnf
  try dsimp only [rowL, rowN, growOk, hiN, fromL, tightN, maxOk]
  refine ⟨?_, ?_⟩
  · trivial
  refine SG.range rfl rfl Try.func29 (by kernel_rfl) rfl ?_
  intro Dq lq Lq Rq hlq
  refine SG.norm ?_
  conv => whnf
  by_cases hb : thereB P F S C i = true
  · have T := There.of hb
    have t0 := T.i0
    have t1 := T.i1
    have t2 := T.i2
    have t3 := T.s3
    have hF : 1 ≤ F ∧ F ≤ 4096 := ⟨T.F1, T.F2⟩
    have hmax := sumI_max (part := part) (n := n) T
    have ec : frS P F S C i part n = sumI part n (S.getD i.toNat rw0).L := by unfold frS; rw [if_pos hb]; rfl
    have t8 := T.l8
    refine SG.walk tab_ok mx 400 [true] [hdB true] ?_
    conv => whnf
    try dsimp only [rowL, rowN, growOk, hiN, fromL, tightN, maxOk]
    refine ⟨?_, ?_⟩
    · exact ⟨⟨by omega, by omega⟩, ⟨by omega, by omega⟩, mayOk (thereP rfl rfl rfl) hS hb⟩
    refine SG.loop (fun km : Nat × Int => ⟨puts (List.replicate (Try.f29).ntmps .any) [(0, yieldOf lq), (14, rwV (S.getD i.toNat rw0)), (15, intV (S.getD i.toNat rw0).L.length), (16, intV km.1)], [some [.rs 0, aI F, .rs 1, .rs 2], none, none, none, none, some [.clo 25 [.rp 3 0 1 0, .rp 4 0 1 0]], some [aI km.2]], [some (rowPa P), some (rowWs S), some (rowCh C), some (intR part), some (intR n)], puts (List.replicate ((Try.f24).ntmps + (Try.f15).ntmps) .any) [(3, bpV 5), (5, bpV 6)]⟩) (fun km => km.1 ≤ (S.getD i.toNat rw0).L.length ∧ 0 ≤ km.2 ∧ sumI part n (S.getD i.toNat rw0).L = km.2 + sumI part n ((S.getD i.toNat rw0).L.drop km.1)) (fun km => (S.getD i.toNat rw0).L.length - km.1) ((0, 0)) (⟨Nat.zero_le _, Int.le_refl 0, (Int.zero_add _).symm⟩) (fun h => SG.sub [0, 1, 2, 3, 4, 5, 6] [0, 1, 2, 3, 4] ⟨?_, ?_, ?_, by decide, rfl, rfl, rfl, ?_⟩ h) ?_
    · repeat' (first | exact trivial | exact rfl | refine And.intro ?_ ?_)
    · repeat' (first | exact trivial | exact rfl | refine And.intro ?_ ?_)
    · repeat' (first | exact trivial | refine ⟨⟨_, rfl, ⟨rfl, rfl, .inl rfl, (fun h => by first | exact h | cases h), (fun h => by first | exact h | cases h), fun _ _ => rfl⟩, fun _ _ => rfl⟩, ?_⟩ | refine ⟨⟨_, rfl, ⟨rfl, rfl, .inr rfl, (fun h => by first | exact h | cases h), (fun h => by first | exact h | cases h), fun _ _ => rfl⟩, fun _ _ => rfl⟩, ?_⟩ | refine ⟨⟨_, rfl, ⟨rfl, rfl, .inr rfl, (fun h => by first | exact h | cases h), (fun h => by first | exact h | cases h), fun i hi => absurd hi (Nat.not_lt_zero i)⟩, fun i hi => absurd hi (Nat.not_lt_zero i)⟩, ?_⟩ | refine ⟨⟨_, rfl, ⟨rfl, rfl, .inl rfl, (fun h => by first | exact h | cases h), (fun h => by first | exact h | cases h), fun i hi => ren_closed (hQc i hi)⟩, fun i hi => inn_closed (hQc i hi)⟩, ?_⟩)
    · repeat' (first | exact trivial | exact rfl | refine And.intro ?_ ?_)
    rintro ⟨k, m⟩ ⟨hk, hm0, hc⟩ next
    dsimp only at hk hm0 hc next ⊢
    by_cases hlt : k < (S.getD i.toNat rw0).L.length
    · obtain ⟨v1, v2, v3, v4, v5⟩ := T.ws _ (getD_mem' (d := wn0) hlt)
      rw [drop_getD (d := wn0) hlt, sumI] at hc
      refine SG.walk tab_ok mx 400 [true] [] ?_
      conv => whnf
      try dsimp only [rowL, rowN, growOk, hiN, fromL, tightN, maxOk]
      refine ⟨?_, ?_⟩
      · repeat' apply And.intro
        all_goals first
          | trivial
          | rfl
          | omega
          | ((try dsimp only [rowL, rowN]); simp only [beq_iff_eq, beq_eq_false_iff_ne, bne_iff_ne, bne_eq_false_iff_eq, decide_eq_true_eq, decide_eq_false_iff_not, ne_eq, Bool.not_eq_true', Bool.not_eq_false', Bool.not_eq_eq_eq_not, Bool.not_true, Bool.not_false, Option.some.injEq, Option.getD_some, Option.getD_none]; omega)
          | (simp; done)
          | (simp; omega)
      refine SG.round hlq rfl rfl rfl rfl rfl rfl rfl ?_
      intro Ty Ry hyy
      refine SG.norm ?_
      conv => whnf
      refine SG.walk tab_ok mx 400 [] [] ?_
      conv => whnf
      try dsimp only [rowL, rowN, growOk, hiN, fromL, tightN, maxOk]
      refine ⟨?_, ?_⟩
      · trivial
      refine SG.begin_ hlq rfl rfl ?_
      refine SG.walk tab_ok mx 400 [] [] ?_
      conv => whnf
      try dsimp only [rowL, rowN, growOk, hiN, fromL, tightN, maxOk]
      refine ⟨?_, ?_⟩
      · repeat' apply And.intro
        all_goals first
          | trivial
          | rfl
          | omega
          | ((try dsimp only [rowL, rowN]); simp only [beq_iff_eq, beq_eq_false_iff_ne, bne_iff_ne, bne_eq_false_iff_eq, decide_eq_true_eq, decide_eq_false_iff_not, ne_eq, Bool.not_eq_true', Bool.not_eq_false', Bool.not_eq_eq_eq_not, Bool.not_true, Bool.not_false, Option.some.injEq, Option.getD_some, Option.getD_none]; omega)
          | (simp; done)
          | (simp; omega)
      have hn1 : sumI part n (List.drop (k + 1) (S.getD i.toNat rw0).L) ≥ 0 := sumI_nn (fun w hw => (T.ws w (List.mem_of_mem_drop hw)).2.2.2.1)
      have hn2 := cntI_ok (part := part) (n := n) v4 (show ((S.getD i.toNat rw0).L.getD k wn0).l ≤ 4096 by omega)
      change sumI part n (S.getD i.toNat rw0).L = m + (cntI part n ((S.getD i.toNat rw0).L.getD k wn0) + sumI part n (List.drop (k + 1) (S.getD i.toNat rw0).L)) at hc
      refine SG.walk tab_ok mx 400 [] [hdInt (cntI part n ((S.getD i.toNat rw0).L.getD k wn0))] ?_
      conv => whnf
      try dsimp only [rowL, rowN, growOk, hiN, fromL, tightN, maxOk]
      refine ⟨?_, ?_⟩
      · simp only [Int.toNat_natCast]
        repeat' apply And.intro
        all_goals first
          | exact cntC rfl (.of rfl rfl (fun _ _ => rfl)) rfl (.of rfl rfl (fun _ _ => rfl)) v3 v4 (show ((S.getD i.toNat rw0).L.getD k wn0).f + ((S.getD i.toNat rw0).L.getD k wn0).l ≤ 4096 by omega)
          | trivial
          | rfl
          | omega
          | ((try dsimp only [rowL, rowN]); simp only [beq_iff_eq, beq_eq_false_iff_ne, bne_iff_ne, bne_eq_false_iff_eq, decide_eq_true_eq, decide_eq_false_iff_not, ne_eq, Bool.not_eq_true', Bool.not_eq_false', Bool.not_eq_eq_eq_not, Bool.not_true, Bool.not_false, Option.some.injEq, Option.getD_some, Option.getD_none]; omega)
          | (simp; done)
          | (simp; omega)
      rw [show IntKind.i64.wrap (m + cntI part n ((S.getD i.toNat rw0).L.getD k wn0)) = m + cntI part n ((S.getD i.toNat rw0).L.getD k wn0) from wI (by omega) (by omega)]
      refine SG.rend hlq hyy rfl rfl (Nat.le_of_ble_eq_true rfl) ?_
      refine SG.norm ?_
      conv => whnf
      refine SG.walk tab_ok mx 400 [] [] ?_
      conv => whnf
      try dsimp only [rowL, rowN, growOk, hiN, fromL, tightN, maxOk]
      refine ⟨?_, ?_⟩
      · trivial
      rw [show IntKind.i64.wrap ((k : Int) + 1) = ((k + 1 : Nat) : Int) from by rw [wI (by omega) (by omega)]; simp]
      refine SG.sub [0, 1, 2, 3, 4, 5, 6] [0, 1, 2, 3, 4] ⟨?_, ?_, ?_, by decide, rfl, rfl, rfl, ?_⟩ (next (k + 1, m + cntI part n ((S.getD i.toNat rw0).L.getD k wn0)) ⟨hlt, by dsimp only; omega, by dsimp only; omega⟩ (by dsimp only; omega))
      · repeat' (first | exact trivial | exact rfl | refine And.intro ?_ ?_)
      · repeat' (first | exact trivial | exact rfl | refine And.intro ?_ ?_)
      · repeat' (first | exact trivial | refine ⟨⟨_, rfl, ⟨rfl, rfl, .inl rfl, (fun h => by first | exact h | cases h), (fun h => by first | exact h | cases h), fun _ _ => rfl⟩, fun _ _ => rfl⟩, ?_⟩ | refine ⟨⟨_, rfl, ⟨rfl, rfl, .inr rfl, (fun h => by first | exact h | cases h), (fun h => by first | exact h | cases h), fun _ _ => rfl⟩, fun _ _ => rfl⟩, ?_⟩ | refine ⟨⟨_, rfl, ⟨rfl, rfl, .inr rfl, (fun h => by first | exact h | cases h), (fun h => by first | exact h | cases h), fun i hi => absurd hi (Nat.not_lt_zero i)⟩, fun i hi => absurd hi (Nat.not_lt_zero i)⟩, ?_⟩ | refine ⟨⟨_, rfl, ⟨rfl, rfl, .inl rfl, (fun h => by first | exact h | cases h), (fun h => by first | exact h | cases h), fun i hi => ren_closed (hQc i hi)⟩, fun i hi => inn_closed (hQc i hi)⟩, ?_⟩)
      · repeat' (first | exact trivial | exact rfl | refine And.intro ?_ ?_)
    · rw [List.drop_eq_nil_of_le (by omega)] at hc
      refine SG.walk tab_ok mx 400 [false] [] ?_
      conv => whnf
      try dsimp only [rowL, rowN, growOk, hiN, fromL, tightN, maxOk]
      refine ⟨?_, ?_⟩
      · repeat' apply And.intro
        all_goals first
          | trivial
          | rfl
          | omega
          | ((try dsimp only [rowL, rowN]); simp only [beq_iff_eq, beq_eq_false_iff_ne, bne_iff_ne, bne_eq_false_iff_eq, decide_eq_true_eq, decide_eq_false_iff_not, ne_eq, Bool.not_eq_true', Bool.not_eq_false', Bool.not_eq_eq_eq_not, Bool.not_true, Bool.not_false, Option.some.injEq, Option.getD_some, Option.getD_none]; omega)
          | (simp; done)
          | (simp; omega)
      refine SG.routEnd hlq tab_ok Try.func29 rfl rfl (Nat.le_of_ble_eq_true rfl) ?_
      refine SG.norm ?_
      conv => whnf
      refine SG.walk tab_ok mx 400 [] [] ?_
      conv => whnf
      try dsimp only [rowL, rowN, growOk, hiN, fromL, tightN, maxOk]
      refine ⟨?_, ?_⟩
      · trivial
      refine SG.back hbs tab_ok Try.func24 rfl (Nat.le_of_ble_eq_true rfl) ?_
      refine SG.norm ?_
      conv => whnf
      refine SG.walk tab_ok mx 400 [] [] ?_
      conv => whnf
      try dsimp only [rowL, rowN, growOk, hiN, fromL, tightN, maxOk]
      refine ⟨?_, ?_⟩
      · trivial
      rw [ec, hc, show sumI part n [] = 0 from rfl, Int.add_zero]
      refine SG.ret tab_ok Try.func15 rfl ?_
      intro ρ w' v hm hv
      exact Post.mk hm (intV m) [] none [] hv rfl rows0 rfl (by simp)
  · have ec : frS P F S C i part n = 0 := by unfold frS; rw [if_neg hb]
    refine SG.walk tab_ok mx 400 [] [hdB false] ?_
    conv => whnf
    try dsimp only [rowL, rowN, growOk, hiN, fromL, tightN, maxOk]
    refine ⟨?_, ?_⟩
    · repeat' apply And.intro
      all_goals first
        | exact mayNo (thereP rfl rfl rfl) hS hb
        | trivial
        | rfl
        | omega
        | ((try dsimp only [rowL, rowN]); simp only [beq_iff_eq, beq_eq_false_iff_ne, bne_iff_ne, bne_eq_false_iff_eq, decide_eq_true_eq, decide_eq_false_iff_not, ne_eq, Bool.not_eq_true', Bool.not_eq_false', Bool.not_eq_eq_eq_not, Bool.not_true, Bool.not_false, Option.some.injEq, Option.getD_some, Option.getD_none]; omega)
        | (simp; done)
        | (simp; omega)
    refine SG.rout hlq tab_ok Try.func29 rfl rfl (Nat.le_of_ble_eq_true rfl) ?_
    refine SG.norm ?_
    conv => whnf
    refine SG.walk tab_ok mx 400 [] [] ?_
    conv => whnf
    try dsimp only [rowL, rowN, growOk, hiN, fromL, tightN, maxOk]
    refine ⟨?_, ?_⟩
    · trivial
    refine SG.back hbs tab_ok Try.func24 rfl (Nat.le_of_ble_eq_true rfl) ?_
    refine SG.norm ?_
    conv => whnf
    refine SG.walk tab_ok mx 400 [] [] ?_
    conv => whnf
    try dsimp only [rowL, rowN, growOk, hiN, fromL, tightN, maxOk]
    refine ⟨?_, ?_⟩
    · trivial
    rw [ec]
    refine SG.ret tab_ok Try.func15 rfl ?_
    intro ρ w' v hm hv
    exact Post.mk hm (intV 0) [] none [] hv rfl rows0 rfl (by simp)
theorem rows6 {A : Nat → Row → Prop} {n0 n1 n2 n3 n4 n5 : Nat} {Q0 Q1 Q2 Q3 Q4 Q5 : Row} (h0 : A n0 Q0) (h1 : A n1 Q1) (h2 : A n2 Q2) (h3 : A n3 Q3) (h4 : A n4 Q4) (h5 : A n5 Q5) : ∀ (k n : Nat) Q, [n0, n1, n2, n3, n4, n5][k]? = some n → [Q0, Q1, Q2, Q3, Q4, Q5][k]? = some Q → A n Q := fun k n Q h h' => by
  match k with
  | 0 => simp at h h'; subst h h'; exact h0
  | 1 => simp at h h'; subst h h'; exact h1
  | 2 => simp at h h'; subst h h'; exact h2
  | 3 => simp at h h'; subst h h'; exact h3
  | 4 => simp at h h'; subst h h'; exact h4
  | 5 => simp at h h'; subst h h'; exact h5
  | k + 6 => simp at h
theorem boxArg6 {a b c q : Nat} {F : Int} {Q : Row} {l : List Nat} (hq : Rs[q]? = some (some Q)) (hQ : RowLe Q (boxR a F b c)) {k : Option Nat} : ArgRow Rs (a :: b :: c :: l) k q (boxR 0 F 1 2) :=
  ⟨⟨Q, hq, hQ.sz, hQ.len, hQ.own, hQ.tight, hQ.new, fun i hi => hQ.cells i hi⟩, fun i hi => by simp [At.inn], .inl ⟨rfl, rfl⟩⟩
set_option maxHeartbeats 4000000 in
set_option maxRecDepth 100000 in
theorem cntGC {p q r a b c : Nat} {Ra Rb Rc : Row} {F part t : Int} {x : Wn} {P : List Pa} {S : List RW} {C : List Ch} (h : PlanAt Rs a b c P S C) (hp : Rs[p]? = some (some Ra)) (hP : RowLe Ra (intR part)) (hq : Rs[q]? = some (some Rb)) (hQ : RowLe Rb (u64R t)) (hr : Rs[r]? = some (some Rc)) (hR : RowLe Rc (boxR a F b c)) (h1 : 0 ≤ x.f) (h2 : 3 ≤ x.l) (h3 : x.f + x.l ≤ F) (hF : 1 ≤ F ∧ F ≤ 4096) (ht : 0 ≤ t ∧ t ≤ 18446744073709551615) (hz : 0 ≤ cntG F part t x ∧ cntG F part t x ≤ 18446744073709551615) :
    CallOk Try.prog W B Rs 28 [wnV x, .cv (.one (.pt (.rp p 0 1 0))), .cv (.one (.pt (.rp q 0 1 0))), .cv (.one (.pt (.rp r 0 4 0)))] (hdU (cntG F part t x)) := by
  obtain ⟨Pa, ha, hla⟩ := h.pa
  obtain ⟨Pb, hb, hlb⟩ := h.ws
  obtain ⟨Pc, hc, hlc⟩ := h.ch
  obtain ⟨c1, c2, c3, c4⟩ := cyN_ok hF ht
  have q1 := div_ok hF ht
  unfold cntG at hz ⊢
  by_cases g : x.p = part
  · rw [if_pos g] at hz ⊢
    have o1 := ownI_nn (n := F) (w := x) (by omega)
    have o2 := ownI_nn (n := cyN F t) (w := x) (by omega)
    have o3 : ownI x F ≤ 4096 := by unfold ownI; split <;> (try split) <;> omega
    have o4 : ownI x (cyN F t) ≤ 4096 := by unfold ownI; split <;> (try split) <;> omega
    have q0 : t.tdiv F = t / F := Int.tdiv_eq_ediv_of_nonneg ht.1
    obtain ⟨u, hu⟩ : ∃ u, ownI x F = u := ⟨_, rfl⟩
    obtain ⟨vv, hvv⟩ : ∃ vv, ownI x (cyN F t) = vv := ⟨_, rfl⟩
    obtain ⟨z, hzz⟩ : ∃ z, t / F = z := ⟨_, rfl⟩
    rw [hu] at o1 o3
    rw [hvv] at o2 o4
    rw [hzz] at q0 q1
    rw [hu, hvv, hzz] at hz ⊢
    have p0 : 0 ≤ z * u := Int.mul_nonneg (by omega) (by omega)
    obtain ⟨y, hy⟩ : ∃ y, z * u = y := ⟨_, rfl⟩
    rw [hy] at p0 hz ⊢
    have k1 : IntKind.u64.wrap u = u := wU64 (by omega) (by omega)
    have k2 : IntKind.u64.wrap vv = vv := wU64 (by omega) (by omega)
    have k3 : IntKind.u64.wrap y = y := wU64 (by omega) (by omega)
    have k4 : IntKind.u64.wrap z = z := wU64 (by omega) (by omega)
    have k5 : IntKind.u64.wrap (y + vv) = y + vv := wU64 (by omega) (by omega)
    have oF : ∀ {W : Base} {B : List (Option (List At))} {Rs : List (Option Row)}, CallOk Try.prog W B Rs 26 [wnV x, intV F] (hdInt u) := by intro W B Rs; rw [← hu]; exact ownC h1 h2 (by omega)
    have oc : ∀ {W : Base} {B : List (Option (List At))} {Rs : List (Option Row)}, CallOk Try.prog W B Rs 26 [wnV x, intV (cyN F t)] (hdInt vv) := by intro W B Rs; rw [← hvv]; exact ownC h1 h2 (by omega)
    refine CallOk.enter Try.func28 (by kernel_rfl) rfl [a, b, c, r, p, q] [rowPa P, rowWs S, rowCh C, boxR 0 F 1 2, intR part, u64R t] [wnV x, .cv (.one (.pt (.rp 4 0 1 0))), .cv (.one (.pt (.rp 5 0 1 0))), .cv (.one (.pt (.rp 3 0 4 0)))] rfl (rows6 (.ro_ ha hla rfl rfl (fun _ _ => rfl)) (.ro_ hb hlb rfl rfl (fun _ _ => rfl)) (.ro_ hc hlc rfl rfl (fun _ _ => rfl)) (boxArg6 hr hR) (.ro_ hp hP rfl rfl (fun _ _ => rfl)) (.ro_ hq hQ rfl rfl (fun _ _ => rfl))) (fun r h => by cases h) rfl rfl ?_
    intro w blk hblk
    refine SG.walk tab_ok mx 400 [false] [hdInt u, hdInt (cyN F t), hdInt vv] ?_
    conv => whnf
    try dsimp only [rowL, rowN, growOk, hiN, fromL, tightN, maxOk]
    refine ⟨?_, ?_⟩
    · simp only [c3]
      repeat' apply And.intro
      all_goals first
        | exact oF
        | exact oc
        | exact cycleC (thereP rfl rfl rfl) hF ht
        | trivial
        | rfl
        | omega
        | ((try dsimp only [rowL, rowN]); simp only [beq_iff_eq, beq_eq_false_iff_ne, bne_iff_ne, bne_eq_false_iff_eq, decide_eq_true_eq, decide_eq_false_iff_not, ne_eq, Bool.not_eq_true', Bool.not_eq_false', Bool.not_eq_eq_eq_not, Bool.not_true, Bool.not_false, Option.some.injEq, Option.getD_some, Option.getD_none]; omega)
        | (simp; done)
        | (simp; omega)
    simp only [c3, q0, k4, k1, hy, k3, k2, k5]
    refine SG.ret tab_ok Try.func28 rfl ?_
    intro ρ w' v hm hv
    exact Post.mk hm (u64V (y + vv)) [] none [] hv rfl rows0 rfl (by simp)
  · rw [if_neg g]
    refine CallOk.enter Try.func28 (by kernel_rfl) rfl [a, b, c, r, p, q] [rowPa P, rowWs S, rowCh C, boxR 0 F 1 2, intR part, u64R t] [wnV x, .cv (.one (.pt (.rp 4 0 1 0))), .cv (.one (.pt (.rp 5 0 1 0))), .cv (.one (.pt (.rp 3 0 4 0)))] rfl (rows6 (.ro_ ha hla rfl rfl (fun _ _ => rfl)) (.ro_ hb hlb rfl rfl (fun _ _ => rfl)) (.ro_ hc hlc rfl rfl (fun _ _ => rfl)) (boxArg6 hr hR) (.ro_ hp hP rfl rfl (fun _ _ => rfl)) (.ro_ hq hQ rfl rfl (fun _ _ => rfl))) (fun r h => by cases h) rfl rfl ?_
    intro w blk hblk
    refine SG.walk tab_ok mx 400 [true] [] ?_
    conv => whnf
    try dsimp only [rowL, rowN, growOk, hiN, fromL, tightN, maxOk]
    refine ⟨?_, ?_⟩
    · repeat' apply And.intro
      all_goals first
        | trivial
        | rfl
        | omega
        | ((try dsimp only [rowL, rowN]); simp only [beq_iff_eq, beq_eq_false_iff_ne, bne_iff_ne, bne_eq_false_iff_eq, decide_eq_true_eq, decide_eq_false_iff_not, ne_eq, Bool.not_eq_true', Bool.not_eq_false', Bool.not_eq_eq_eq_not, Bool.not_true, Bool.not_false, Option.some.injEq, Option.getD_some, Option.getD_none]; omega)
        | (simp; done)
        | (simp; omega)
    refine SG.ret tab_ok Try.func28 rfl ?_
    intro ρ w' v hm hv
    exact Post.mk hm (u64V 0) [] none [] hv rfl rows0 rfl (by simp)
set_option maxHeartbeats 4000000 in
set_option maxRecDepth 100000 in
theorem grantedC {a b c : Nat} {P : List Pa} {S : List RW} {C : List Ch} {F i part t : Int} (h : PlanAt Rs a b c P S C) (hS : okS S) (ht : 0 ≤ t ∧ t ≤ 18446744073709551615) :
    CallOk Try.prog W B Rs 17 [planV a F b c, intV i, intV part, u64V t] (hdU (grS P F S C i part t)) := by
  refine CallOk.enter Try.func17 (by kernel_rfl) rfl [a, b, c] [rowPa P, rowWs S, rowCh C] [planV 0 F 1 2, intV i, intV part, u64V t] rfl h.rows (fun r h => by cases h) rfl rfl ?_
  intro w blk hblk
  refine SG.walk tab_ok mx 400 [] [] ?_
  conv => whnf
  try dsimp only [rowL, rowN, growOk, hiN, fromL, tightN, maxOk]
  refine ⟨?_, ?_⟩
  · trivial
  refine SG.inline rfl rfl rfl Try.func20 (by kernel_rfl) rfl ?_
  intro Wg Rg hbg
  refine SG.norm ?_
  conv => whnf
  refine SG.walk tab_ok mx 400 [] [] ?_
  conv => whnf
  try dsimp only [rowL, rowN, growOk, hiN, fromL, tightN, maxOk]
  refine ⟨?_, ?_⟩
  · trivial
  refine SG.back hbg tab_ok Try.func20 rfl (Nat.le_of_ble_eq_true rfl) ?_
  refine SG.norm ?_
  conv => whnf
  refine SG.walk tab_ok mx 400 [] [] ?_
  conv => whnf
  try dsimp only [rowL, rowN, growOk, hiN, fromL, tightN, maxOk]
  refine ⟨?_, ?_⟩
  · trivial
  refine SG.boxRow 0 rfl ?_
  refine SG.norm ?_
  conv => whnf
  refine SG.boxRow 1 rfl ?_
  refine SG.norm ?_
  conv => whnf
  refine SG.boxRow 2 rfl ?_
  refine SG.norm ?_
  conv => whnf
  refine SG.inline rfl rfl rfl Try.func27 (by kernel_rfl) rfl ?_
  intro Ws Rs hbs
  refine SG.norm ?_
  conv => whnf
  refine SG.walk tab_ok mx 400 [] [] ?_
  conv => whnf
  try dsimp only [rowL, rowN, growOk, hiN, fromL, tightN, maxOk]
  refine ⟨?_, ?_⟩
  · trivial
  refine SG.range rfl rfl Try.func29 (by kernel_rfl) rfl ?_
  intro Dq lq Lq Rq hlq
  refine SG.norm ?_
  conv => whnf
  by_cases hb : thereB P F S C i = true
  · have T := There.of hb
    have t0 := T.i0
    have t1 := T.i1
    have t2 := T.i2
    have t3 := T.s3
    have hF : 1 ≤ F ∧ F ≤ 4096 := ⟨T.F1, T.F2⟩
    obtain ⟨w1, w2, w3'⟩ := grS_ok (part := part) T ht
    unfold winsOf at w3'
    have ec : grS P F S C i part t = t / F * sumI part F (S.getD i.toNat rw0).L + sumI part (cyN F t) (S.getD i.toNat rw0).L := by unfold grS; rw [if_pos hb]; rfl
    have t8 := T.l8
    refine SG.walk tab_ok mx 400 [true] [hdB true] ?_
    conv => whnf
    try dsimp only [rowL, rowN, growOk, hiN, fromL, tightN, maxOk]
    refine ⟨?_, ?_⟩
    · exact ⟨⟨by omega, by omega⟩, ⟨by omega, by omega⟩, mayOk (thereP rfl rfl rfl) hS hb⟩
    have ec' : grS P F S C i part t = sumG F part t (S.getD i.toNat rw0).L := by rw [ec, sumG_eq]
    rw [← ec, ec'] at w3'
    have q1 := div_ok hF ht
    refine SG.loop (fun km : Nat × Int => ⟨puts (List.replicate (Try.f29).ntmps .any) [(0, yieldOf lq), (14, rwV (S.getD i.toNat rw0)), (15, intV (S.getD i.toNat rw0).L.length), (16, intV km.1)], [none, none, none, none, none, some [.clo 28 [.rp 4 0 1 0, .rp 5 0 1 0, .rp 3 0 4 0]], some [.v (.int .u64 km.2)]], [some (rowPa P), some (rowWs S), some (rowCh C), some (boxR 0 F 1 2), some (intR part), some (u64R t)], puts (List.replicate ((Try.f27).ntmps + (Try.f17).ntmps) .any) [(3, bpV 5), (5, bpV 6)]⟩) (fun km => km.1 ≤ (S.getD i.toNat rw0).L.length ∧ 0 ≤ km.2 ∧ sumG F part t (S.getD i.toNat rw0).L = km.2 + sumG F part t ((S.getD i.toNat rw0).L.drop km.1)) (fun km => (S.getD i.toNat rw0).L.length - km.1) ((0, 0)) (⟨Nat.zero_le _, Int.le_refl 0, (Int.zero_add _).symm⟩) (fun h => SG.sub [0, 1, 2, 3, 4, 5, 6] [0, 1, 2, 3, 4, 5] ⟨?_, ?_, ?_, by decide, rfl, rfl, rfl, ?_⟩ h) ?_
    · repeat' (first | exact trivial | exact rfl | refine And.intro ?_ ?_)
    · repeat' (first | exact trivial | exact rfl | refine And.intro ?_ ?_)
    · repeat' (first | exact trivial | refine ⟨⟨_, rfl, ⟨rfl, rfl, .inl rfl, (fun h => by first | exact h | cases h), (fun h => by first | exact h | cases h), fun _ _ => rfl⟩, fun _ _ => rfl⟩, ?_⟩ | refine ⟨⟨_, rfl, ⟨rfl, rfl, .inr rfl, (fun h => by first | exact h | cases h), (fun h => by first | exact h | cases h), fun _ _ => rfl⟩, fun _ _ => rfl⟩, ?_⟩ | refine ⟨⟨_, rfl, ⟨rfl, rfl, .inr rfl, (fun h => by first | exact h | cases h), (fun h => by first | exact h | cases h), fun i hi => absurd hi (Nat.not_lt_zero i)⟩, fun i hi => absurd hi (Nat.not_lt_zero i)⟩, ?_⟩ | refine ⟨⟨_, rfl, ⟨rfl, rfl, .inl rfl, (fun h => by first | exact h | cases h), (fun h => by first | exact h | cases h), fun i hi => ren_closed (hQc i hi)⟩, fun i hi => inn_closed (hQc i hi)⟩, ?_⟩)
    · repeat' (first | exact trivial | exact rfl | refine And.intro ?_ ?_)
    rintro ⟨k, m⟩ ⟨hk, hm0, hc⟩ next
    dsimp only at hk hm0 hc next ⊢
    by_cases hlt : k < (S.getD i.toNat rw0).L.length
    · obtain ⟨v1, v2, v3, v4, v5⟩ := T.ws _ (getD_mem' (d := wn0) hlt)
      rw [drop_getD (d := wn0) hlt, sumG] at hc
      refine SG.walk tab_ok mx 400 [true] [] ?_
      conv => whnf
      try dsimp only [rowL, rowN, growOk, hiN, fromL, tightN, maxOk]
      refine ⟨?_, ?_⟩
      · repeat' apply And.intro
        all_goals first
          | trivial
          | rfl
          | omega
          | ((try dsimp only [rowL, rowN]); simp only [beq_iff_eq, beq_eq_false_iff_ne, bne_iff_ne, bne_eq_false_iff_eq, decide_eq_true_eq, decide_eq_false_iff_not, ne_eq, Bool.not_eq_true', Bool.not_eq_false', Bool.not_eq_eq_eq_not, Bool.not_true, Bool.not_false, Option.some.injEq, Option.getD_some, Option.getD_none]; omega)
          | (simp; done)
          | (simp; omega)
      refine SG.round hlq rfl rfl rfl rfl rfl rfl rfl ?_
      intro Ty Ry hyy
      refine SG.norm ?_
      conv => whnf
      refine SG.walk tab_ok mx 400 [] [] ?_
      conv => whnf
      try dsimp only [rowL, rowN, growOk, hiN, fromL, tightN, maxOk]
      refine ⟨?_, ?_⟩
      · trivial
      refine SG.begin_ hlq rfl rfl ?_
      have hn1 : sumG F part t (List.drop (k + 1) (S.getD i.toNat rw0).L) ≥ 0 := sumG_nn q1.1 (fun w hw => (T.ws w (List.mem_of_mem_drop hw)).2.2.2.1)
      have hn2 := cntG_nn (part := part) q1.1 v4
      have hn3 : 0 ≤ cntG F part t ((S.getD i.toNat rw0).L.getD k wn0) ∧ cntG F part t ((S.getD i.toNat rw0).L.getD k wn0) ≤ 18446744073709551615 := ⟨hn2, by omega⟩
      refine SG.walk tab_ok mx 400 [] [hdU (cntG F part t ((S.getD i.toNat rw0).L.getD k wn0))] ?_
      conv => whnf
      try dsimp only [rowL, rowN, growOk, hiN, fromL, tightN, maxOk]
      refine ⟨?_, ?_⟩
      · simp only [Int.toNat_natCast]
        repeat' apply And.intro
        all_goals first
          | exact cntGC (thereP rfl rfl rfl) rfl (.of rfl rfl (fun _ _ => rfl)) rfl (.of rfl rfl (fun _ _ => rfl)) rfl (.of rfl rfl (fun _ _ => rfl)) v3 v4 v5 hF ht hn3
          | trivial
          | rfl
          | omega
          | ((try dsimp only [rowL, rowN]); simp only [beq_iff_eq, beq_eq_false_iff_ne, bne_iff_ne, bne_eq_false_iff_eq, decide_eq_true_eq, decide_eq_false_iff_not, ne_eq, Bool.not_eq_true', Bool.not_eq_false', Bool.not_eq_eq_eq_not, Bool.not_true, Bool.not_false, Option.some.injEq, Option.getD_some, Option.getD_none]; omega)
          | (simp; done)
          | (simp; omega)
      rw [show IntKind.u64.wrap (m + cntG F part t ((S.getD i.toNat rw0).L.getD k wn0)) = m + cntG F part t ((S.getD i.toNat rw0).L.getD k wn0) from wU64 (by omega) (by omega)]
      refine SG.rend hlq hyy rfl rfl (Nat.le_of_ble_eq_true rfl) ?_
      refine SG.norm ?_
      conv => whnf
      refine SG.walk tab_ok mx 400 [] [] ?_
      conv => whnf
      try dsimp only [rowL, rowN, growOk, hiN, fromL, tightN, maxOk]
      refine ⟨?_, ?_⟩
      · trivial
      rw [show IntKind.i64.wrap ((k : Int) + 1) = ((k + 1 : Nat) : Int) from by rw [wI (by omega) (by omega)]; simp]
      refine SG.sub [0, 1, 2, 3, 4, 5, 6] [0, 1, 2, 3, 4, 5] ⟨?_, ?_, ?_, by decide, rfl, rfl, rfl, ?_⟩ (next (k + 1, m + cntG F part t ((S.getD i.toNat rw0).L.getD k wn0)) ⟨hlt, by dsimp only; omega, by dsimp only; omega⟩ (by dsimp only; omega))
      · repeat' (first | exact trivial | exact rfl | refine And.intro ?_ ?_)
      · repeat' (first | exact trivial | exact rfl | refine And.intro ?_ ?_)
      · repeat' (first | exact trivial | refine ⟨⟨_, rfl, ⟨rfl, rfl, .inl rfl, (fun h => by first | exact h | cases h), (fun h => by first | exact h | cases h), fun _ _ => rfl⟩, fun _ _ => rfl⟩, ?_⟩ | refine ⟨⟨_, rfl, ⟨rfl, rfl, .inr rfl, (fun h => by first | exact h | cases h), (fun h => by first | exact h | cases h), fun _ _ => rfl⟩, fun _ _ => rfl⟩, ?_⟩ | refine ⟨⟨_, rfl, ⟨rfl, rfl, .inr rfl, (fun h => by first | exact h | cases h), (fun h => by first | exact h | cases h), fun i hi => absurd hi (Nat.not_lt_zero i)⟩, fun i hi => absurd hi (Nat.not_lt_zero i)⟩, ?_⟩ | refine ⟨⟨_, rfl, ⟨rfl, rfl, .inl rfl, (fun h => by first | exact h | cases h), (fun h => by first | exact h | cases h), fun i hi => ren_closed (hQc i hi)⟩, fun i hi => inn_closed (hQc i hi)⟩, ?_⟩)
      · repeat' (first | exact trivial | exact rfl | refine And.intro ?_ ?_)
    · rw [List.drop_eq_nil_of_le (by omega)] at hc
      refine SG.walk tab_ok mx 400 [false] [] ?_
      conv => whnf
      try dsimp only [rowL, rowN, growOk, hiN, fromL, tightN, maxOk]
      refine ⟨?_, ?_⟩
      · repeat' apply And.intro
        all_goals first
          | trivial
          | rfl
          | omega
          | ((try dsimp only [rowL, rowN]); simp only [beq_iff_eq, beq_eq_false_iff_ne, bne_iff_ne, bne_eq_false_iff_eq, decide_eq_true_eq, decide_eq_false_iff_not, ne_eq, Bool.not_eq_true', Bool.not_eq_false', Bool.not_eq_eq_eq_not, Bool.not_true, Bool.not_false, Option.some.injEq, Option.getD_some, Option.getD_none]; omega)
          | (simp; done)
          | (simp; omega)
      refine SG.routEnd hlq tab_ok Try.func29 rfl rfl (Nat.le_of_ble_eq_true rfl) ?_
      refine SG.norm ?_
      conv => whnf
      refine SG.walk tab_ok mx 400 [] [] ?_
      conv => whnf
      try dsimp only [rowL, rowN, growOk, hiN, fromL, tightN, maxOk]
      refine ⟨?_, ?_⟩
      · trivial
      refine SG.back hbs tab_ok Try.func27 rfl (Nat.le_of_ble_eq_true rfl) ?_
      refine SG.norm ?_
      conv => whnf
      refine SG.walk tab_ok mx 400 [] [] ?_
      conv => whnf
      try dsimp only [rowL, rowN, growOk, hiN, fromL, tightN, maxOk]
      refine ⟨?_, ?_⟩
      · trivial
      rw [ec', hc, show sumG F part t [] = 0 from rfl, Int.add_zero]
      refine SG.ret tab_ok Try.func17 rfl ?_
      intro ρ w' v hm hv
      exact Post.mk hm (u64V m) [] none [] hv rfl rows0 rfl (by simp)
  · have ec : grS P F S C i part t = 0 := by unfold grS; rw [if_neg hb]
    refine SG.walk tab_ok mx 400 [] [hdB false] ?_
    conv => whnf
    try dsimp only [rowL, rowN, growOk, hiN, fromL, tightN, maxOk]
    refine ⟨?_, ?_⟩
    · repeat' apply And.intro
      all_goals first
        | exact mayNo (thereP rfl rfl rfl) hS hb
        | trivial
        | rfl
        | omega
        | ((try dsimp only [rowL, rowN]); simp only [beq_iff_eq, beq_eq_false_iff_ne, bne_iff_ne, bne_eq_false_iff_eq, decide_eq_true_eq, decide_eq_false_iff_not, ne_eq, Bool.not_eq_true', Bool.not_eq_false', Bool.not_eq_eq_eq_not, Bool.not_true, Bool.not_false, Option.some.injEq, Option.getD_some, Option.getD_none]; omega)
        | (simp; done)
        | (simp; omega)
    refine SG.rout hlq tab_ok Try.func29 rfl rfl (Nat.le_of_ble_eq_true rfl) ?_
    refine SG.norm ?_
    conv => whnf
    refine SG.walk tab_ok mx 400 [] [] ?_
    conv => whnf
    try dsimp only [rowL, rowN, growOk, hiN, fromL, tightN, maxOk]
    refine ⟨?_, ?_⟩
    · trivial
    refine SG.back hbs tab_ok Try.func27 rfl (Nat.le_of_ble_eq_true rfl) ?_
    refine SG.norm ?_
    conv => whnf
    refine SG.walk tab_ok mx 400 [] [] ?_
    conv => whnf
    try dsimp only [rowL, rowN, growOk, hiN, fromL, tightN, maxOk]
    refine ⟨?_, ?_⟩
    · trivial
    rw [ec]
    refine SG.ret tab_ok Try.func17 rfl ?_
    intro ρ w' v hm hv
    exact Post.mk hm (u64V 0) [] none [] hv rfl rows0 rfl (by simp)
end
end Go.Proofs.Ytpnfjkkofdlndaa
