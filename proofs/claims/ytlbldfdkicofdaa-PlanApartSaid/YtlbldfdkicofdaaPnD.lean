/- Which plans are the same: Same. -/
import Derived.Test.YtlbldfdkicofdaaPnC
namespace Go.Proofs.Ytlbldfdkicofdaa
open Go.Sx Go.RowKit
set_option linter.unusedVariables false
set_option linter.unusedSimpArgs false
section
variable {W : Base} {B : List (Option (List At))} {Rs : List (Option Row)}
theorem rows6 {A : Nat → Row → Prop} {n0 n1 n2 n3 n4 n5 : Nat} {Q0 Q1 Q2 Q3 Q4 Q5 : Row} (h0 : A n0 Q0) (h1 : A n1 Q1) (h2 : A n2 Q2) (h3 : A n3 Q3) (h4 : A n4 Q4) (h5 : A n5 Q5) : ∀ (k n : Nat) Q, [n0, n1, n2, n3, n4, n5][k]? = some n → [Q0, Q1, Q2, Q3, Q4, Q5][k]? = some Q → A n Q := fun k n Q h h' => by
  match k, h, h' with
  | 0, h, h' => simp at h h'; subst h h'; exact h0
  | 1, h, h' => simp at h h'; subst h h'; exact h1
  | 2, h, h' => simp at h h'; subst h h'; exact h2
  | 3, h, h' => simp at h h'; subst h h'; exact h3
  | 4, h, h' => simp at h h'; subst h h'; exact h4
  | 5, h, h' => simp at h h'; subst h h'; exact h5
  | k + 6, h, h' => simp at h
theorem PlanAt.rows6 {a b c a2 b2 c2 : Nat} {P P2 : List Pa} {S S2 : List RW} {C C2 : List Ch} (h : PlanAt Rs a b c P S C) (h2 : PlanAt Rs a2 b2 c2 P2 S2 C2) : ∀ (k n : Nat) Q, [a, b, c, a2, b2, c2][k]? = some n → [rowPa P, rowWs S, rowCh C, rowPa P2, rowWs S2, rowCh C2][k]? = some Q → ArgRow Rs [a, b, c, a2, b2, c2] none n Q := by
  obtain ⟨⟨R1, e1, l1⟩, ⟨R2, e2, l2⟩, ⟨R3, e3, l3⟩⟩ := h
  obtain ⟨⟨R4, e4, l4⟩, ⟨R5, e5, l5⟩, ⟨R6, e6, l6⟩⟩ := h2
  exact Go.Proofs.Ytlbldfdkicofdaa.rows6 (.ro_ e1 l1 rfl rfl (fun _ _ => rfl)) (.ro_ e2 l2 rfl rfl (fun _ _ => rfl)) (.ro_ e3 l3 rfl rfl (fun _ _ => rfl)) (.ro_ e4 l4 rfl rfl (fun _ _ => rfl)) (.ro_ e5 l5 rfl rfl (fun _ _ => rfl)) (.ro_ e6 l6 rfl rfl (fun _ _ => rfl))
set_option maxRecDepth 100000 in
theorem sameYes {a b c a2 b2 c2 : Nat} {P P2 : List Pa} {S S2 : List RW} {C C2 : List Ch} {F F2 : Int} (h : PlanAt Rs a b c P S C) (h2 : PlanAt Rs a2 b2 c2 P2 S2 C2) (eP : P = P2) (eF : F = F2) (eC : C = C2) (eS : imS S = imS S2)
    (lP : P.length ≤ 100) (lS : S.length ≤ 100) (lC : C.length ≤ 100) (lW : ∀ r ∈ S, r.L.length ≤ 100) : CallOk Try.prog W B Rs 10 [planV a F b c, planV a2 F2 b2 c2] (hdB true) := by
  have hF : (F != F2) = false := by simp [eF]
  refine CallOk.enter Try.func10 (by kernel_rfl) rfl [a, b, c, a2, b2, c2] [rowPa P, rowWs S, rowCh C, rowPa P2, rowWs S2, rowCh C2] [planV 0 F 1 2, planV 3 F2 4 5] rfl (h.rows6 h2) (fun r h => by cases h) rfl rfl ?_
  intro w blk hblk
  refine SG.walk tab_ok mx 400 [false, false] [hdB true, hdB true, hdB true] ?_
  conv => whnf
  try dsimp only [rowL, rowN, growOk, hiN, fromL, tightN, maxOk]
  refine ⟨?_, ?_⟩
  · repeat' apply And.intro
    all_goals first
      | exact eqPaYes rfl (.of rfl rfl (fun _ _ => rfl)) rfl (.of rfl rfl (fun _ _ => rfl)) eP lP
      | exact eqChYes rfl (.of rfl rfl (fun _ _ => rfl)) rfl (.of rfl rfl (fun _ _ => rfl)) eC lC
      | exact eqWsYes rfl (.of rfl rfl (fun _ _ => rfl)) rfl (.of rfl rfl (fun _ _ => rfl)) eS lS lW
      | exact hF
      | trivial
      | rfl
      | omega
      | ((try dsimp only [rowL, rowN]); simp only [beq_iff_eq, beq_eq_false_iff_ne, bne_iff_ne, bne_eq_false_iff_eq, decide_eq_true_eq, decide_eq_false_iff_not, ne_eq, Bool.not_eq_true', Bool.not_eq_false', Bool.not_eq_eq_eq_not, Bool.not_true, Bool.not_false, Option.some.injEq, Option.getD_some, Option.getD_none]; omega)
      | (simp; done)
      | (simp; omega)
  refine SG.ret tab_ok Try.func10 rfl ?_
  intro ρ w' v hm hv
  exact Post.mk hm (.cv (.one (.lb true))) [] none [] hv rfl rows0 rfl (by simp)
set_option maxRecDepth 100000 in
theorem sameNo {a b c a2 b2 c2 : Nat} {P P2 : List Pa} {S S2 : List RW} {C C2 : List Ch} {F F2 : Int} (h : PlanAt Rs a b c P S C) (h2 : PlanAt Rs a2 b2 c2 P2 S2 C2) (hn : ¬ (P = P2 ∧ F = F2 ∧ C = C2 ∧ imS S = imS S2))
    (lP : P.length ≤ 100) (lS : S.length ≤ 100) (lC : C.length ≤ 100) (lW : ∀ r ∈ S, r.L.length ≤ 100) : CallOk Try.prog W B Rs 10 [planV a F b c, planV a2 F2 b2 c2] (hdB false) := by
  by_cases eP : P = P2
  · by_cases eF : F = F2
    · have hF : (F != F2) = false := by simp [eF]
      by_cases eC : C = C2
      · have eS : ¬ imS S = imS S2 := fun e => hn ⟨eP, eF, eC, e⟩
        refine CallOk.enter Try.func10 (by kernel_rfl) rfl [a, b, c, a2, b2, c2] [rowPa P, rowWs S, rowCh C, rowPa P2, rowWs S2, rowCh C2] [planV 0 F 1 2, planV 3 F2 4 5] rfl (h.rows6 h2) (fun r h => by cases h) rfl rfl ?_
        intro w blk hblk
        refine SG.walk tab_ok mx 400 [false, false] [hdB true, hdB true, hdB false] ?_
        conv => whnf
        try dsimp only [rowL, rowN, growOk, hiN, fromL, tightN, maxOk]
        refine ⟨?_, ?_⟩
        · repeat' apply And.intro
          all_goals first
            | exact eqPaYes rfl (.of rfl rfl (fun _ _ => rfl)) rfl (.of rfl rfl (fun _ _ => rfl)) eP lP
            | exact eqChYes rfl (.of rfl rfl (fun _ _ => rfl)) rfl (.of rfl rfl (fun _ _ => rfl)) eC lC
            | exact eqWsNo rfl (.of rfl rfl (fun _ _ => rfl)) rfl (.of rfl rfl (fun _ _ => rfl)) eS lS lW
            | exact hF
            | trivial
            | rfl
            | omega
            | ((try dsimp only [rowL, rowN]); simp only [beq_iff_eq, beq_eq_false_iff_ne, bne_iff_ne, bne_eq_false_iff_eq, decide_eq_true_eq, decide_eq_false_iff_not, ne_eq, Bool.not_eq_true', Bool.not_eq_false', Bool.not_eq_eq_eq_not, Bool.not_true, Bool.not_false, Option.some.injEq, Option.getD_some, Option.getD_none]; omega)
            | (simp; done)
            | (simp; omega)
        refine SG.ret tab_ok Try.func10 rfl ?_
        intro ρ w' v hm hv
        exact Post.mk hm (.cv (.one (.lb false))) [] none [] hv rfl rows0 rfl (by simp)
      · refine CallOk.enter Try.func10 (by kernel_rfl) rfl [a, b, c, a2, b2, c2] [rowPa P, rowWs S, rowCh C, rowPa P2, rowWs S2, rowCh C2] [planV 0 F 1 2, planV 3 F2 4 5] rfl (h.rows6 h2) (fun r h => by cases h) rfl rfl ?_
        intro w blk hblk
        refine SG.walk tab_ok mx 400 [false, false] [hdB true, hdB false] ?_
        conv => whnf
        try dsimp only [rowL, rowN, growOk, hiN, fromL, tightN, maxOk]
        refine ⟨?_, ?_⟩
        · repeat' apply And.intro
          all_goals first
            | exact eqPaYes rfl (.of rfl rfl (fun _ _ => rfl)) rfl (.of rfl rfl (fun _ _ => rfl)) eP lP
            | exact eqChNo rfl (.of rfl rfl (fun _ _ => rfl)) rfl (.of rfl rfl (fun _ _ => rfl)) eC lC
            | exact hF
            | trivial
            | rfl
            | omega
            | ((try dsimp only [rowL, rowN]); simp only [beq_iff_eq, beq_eq_false_iff_ne, bne_iff_ne, bne_eq_false_iff_eq, decide_eq_true_eq, decide_eq_false_iff_not, ne_eq, Bool.not_eq_true', Bool.not_eq_false', Bool.not_eq_eq_eq_not, Bool.not_true, Bool.not_false, Option.some.injEq, Option.getD_some, Option.getD_none]; omega)
            | (simp; done)
            | (simp; omega)
        refine SG.ret tab_ok Try.func10 rfl ?_
        intro ρ w' v hm hv
        exact Post.mk hm (.cv (.one (.lb false))) [] none [] hv rfl rows0 rfl (by simp)
    · have hF : (F != F2) = true := by simp [eF]
      refine CallOk.enter Try.func10 (by kernel_rfl) rfl [a, b, c, a2, b2, c2] [rowPa P, rowWs S, rowCh C, rowPa P2, rowWs S2, rowCh C2] [planV 0 F 1 2, planV 3 F2 4 5] rfl (h.rows6 h2) (fun r h => by cases h) rfl rfl ?_
      intro w blk hblk
      refine SG.walk tab_ok mx 400 [true, true] [hdB true] ?_
      conv => whnf
      try dsimp only [rowL, rowN, growOk, hiN, fromL, tightN, maxOk]
      refine ⟨?_, ?_⟩
      · repeat' apply And.intro
        all_goals first
          | exact eqPaYes rfl (.of rfl rfl (fun _ _ => rfl)) rfl (.of rfl rfl (fun _ _ => rfl)) eP lP
          | exact hF
          | trivial
          | rfl
          | omega
          | ((try dsimp only [rowL, rowN]); simp only [beq_iff_eq, beq_eq_false_iff_ne, bne_iff_ne, bne_eq_false_iff_eq, decide_eq_true_eq, decide_eq_false_iff_not, ne_eq, Bool.not_eq_true', Bool.not_eq_false', Bool.not_eq_eq_eq_not, Bool.not_true, Bool.not_false, Option.some.injEq, Option.getD_some, Option.getD_none]; omega)
          | (simp; done)
          | (simp; omega)
      refine SG.ret tab_ok Try.func10 rfl ?_
      intro ρ w' v hm hv
      exact Post.mk hm (.cv (.one (.lb false))) [] none [] hv rfl rows0 rfl (by simp)
  · refine CallOk.enter Try.func10 (by kernel_rfl) rfl [a, b, c, a2, b2, c2] [rowPa P, rowWs S, rowCh C, rowPa P2, rowWs S2, rowCh C2] [planV 0 F 1 2, planV 3 F2 4 5] rfl (h.rows6 h2) (fun r h => by cases h) rfl rfl ?_
    intro w blk hblk
    refine SG.walk tab_ok mx 400 [] [hdB false] ?_
    conv => whnf
    try dsimp only [rowL, rowN, growOk, hiN, fromL, tightN, maxOk]
    refine ⟨?_, ?_⟩
    · repeat' apply And.intro
      all_goals first
        | exact eqPaNo rfl (.of rfl rfl (fun _ _ => rfl)) rfl (.of rfl rfl (fun _ _ => rfl)) eP lP
        | trivial
        | rfl
        | omega
        | ((try dsimp only [rowL, rowN]); simp only [beq_iff_eq, beq_eq_false_iff_ne, bne_iff_ne, bne_eq_false_iff_eq, decide_eq_true_eq, decide_eq_false_iff_not, ne_eq, Bool.not_eq_true', Bool.not_eq_false', Bool.not_eq_eq_eq_not, Bool.not_true, Bool.not_false, Option.some.injEq, Option.getD_some, Option.getD_none]; omega)
        | (simp; done)
        | (simp; omega)
    refine SG.ret tab_ok Try.func10 rfl ?_
    intro ρ w' v hm hv
    exact Post.mk hm (.cv (.one (.lb false))) [] none [] hv rfl rows0 rfl (by simp)
end
/-! ### What the bytes tell. -/
theorem u8o_inj {x y : Int} (h : u8o x = u8o y) : x % 256 = y % 256 := by
  have e := congrArg bC h
  rw [u8o_cell, u8o_cell, IntKind.wrap_u8, IntKind.wrap_u8] at e
  simpa using e
theorem enc2_inj {n m : Int} {t u : List UInt8} (hn : 0 ≤ n ∧ n < 65536) (hm : 0 ≤ m ∧ m < 65536) (h : enc2 n ++ t = enc2 m ++ u) : n = m ∧ t = u := by
  simp only [enc2, List.cons_append, List.nil_append, List.cons.injEq] at h
  obtain ⟨h1, h2, h3⟩ := h
  have a := u8o_inj h1
  have b := u8o_inj h2
  rw [Int.fdiv_eq_ediv_of_nonneg _ (by omega), Int.fdiv_eq_ediv_of_nonneg _ (by omega)] at a
  exact ⟨by omega, h3⟩
theorem flat_inj {α β : Type} {g : α → List β} {ok : α → Prop} (hg : ∀ x y t u, ok x → ok y → g x ++ t = g y ++ u → x = y ∧ t = u) : ∀ (L M : List α) (t u : List β), L.length = M.length → (∀ x ∈ L, ok x) → (∀ x ∈ M, ok x) → L.flatMap g ++ t = M.flatMap g ++ u → L = M ∧ t = u
  | [], [], t, u, _, _, _, h => ⟨rfl, by simpa using h⟩
  | [], _ :: _, _, _, h, _, _, _ => by simp at h
  | _ :: _, [], _, _, h, _, _, _ => by simp at h
  | x :: L, y :: M, t, u, hl, h1, h2, h => by
    simp only [List.flatMap_cons, List.append_assoc] at h
    obtain ⟨rfl, h3⟩ := hg x y _ _ (h1 _ (.head _)) (h2 _ (.head _)) h
    obtain ⟨rfl, h4⟩ := flat_inj hg L M t u (by simpa using hl) (fun z hz => h1 z (.tail _ hz)) (fun z hz => h2 z (.tail _ hz)) h3
    exact ⟨rfl, h4⟩
def okN (n : Int) : Prop := 0 ≤ n ∧ n < 65536
theorem byN_inj {N M : List Int} (hN : ∀ n ∈ N, okN n) (hM : ∀ n ∈ M, okN n) (h : byN N = byN M) : N = M := by
  have h1 : N.flatMap enc2 = M.flatMap enc2 := List.append_cancel_left h
  have hl : N.length = M.length := by
    have := congrArg List.length h1
    rw [enc2_len, enc2_len] at this
    omega
  exact (flat_inj (ok := okN) (fun x y t u hx hy h => enc2_inj hx hy h) N M [] [] hl hN hM (by simpa using h1)).1
theorem nums_inj {P P2 : List Pa} {F F2 : Int} {S S2 : List RW} {C C2 : List Ch} (h : nums P F S C = nums P2 F2 S2 C2) : P = P2 ∧ F = F2 ∧ C = C2 ∧ imS S = imS S2 := by
  have e : ∀ (P : List Pa) F (S : List RW) (C : List Ch), nums P F S C = (P.length : Int) :: (P.flatMap paN ++ (F :: (S.length : Int) :: ((imS S).flatMap roN ++ ((C.length : Int) :: (C.flatMap chN ++ []))))) := fun P F S C => by
    simp [nums, List.flatMap_map]
  rw [e, e] at h
  simp only [List.cons.injEq] at h
  obtain ⟨h0, h1⟩ := h
  obtain ⟨rfl, h2⟩ := flat_inj (ok := fun _ => True) (fun x y t u _ _ h => by cases x; cases y; simpa [paN, and_assoc] using h) P P2 _ _ (by omega) (fun _ _ => trivial) (fun _ _ => trivial) h1
  simp only [List.cons.injEq] at h2
  obtain ⟨rfl, h3, h4⟩ := h2
  obtain ⟨h5, h6⟩ := flat_inj (g := roN) (ok := fun _ => True) (fun x y t u _ _ h => by
    simp only [roN, List.cons_append, List.cons.injEq] at h
    exact flat_inj (ok := fun _ => True) (fun x y t u _ _ h => by cases x; cases y; simpa [wnN, and_assoc] using h) x y t u (by omega) (fun _ _ => trivial) (fun _ _ => trivial) h.2) (imS S) (imS S2) _ _ (by simp; omega) (fun _ _ => trivial) (fun _ _ => trivial) h4
  simp only [List.cons.injEq] at h6
  obtain ⟨h7, h8⟩ := h6
  obtain ⟨rfl, _⟩ := flat_inj (ok := fun _ => True) (fun x y t u _ _ h => by cases x; cases y; simpa [chN, and_assoc] using h) C C2 _ _ (by omega) (fun _ _ => trivial) (fun _ _ => trivial) h8
  exact ⟨rfl, rfl, rfl, h5⟩
end Go.Proofs.Ytlbldfdkicofdaa
