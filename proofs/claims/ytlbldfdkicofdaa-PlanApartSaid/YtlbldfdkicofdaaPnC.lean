/- Which plans are the same. -/
import Derived.Test.YtlbldfdkicofdaaPnB
namespace Go.Proofs.Ytlbldfdkicofdaa
open Go.Sx Go.RowKit
set_option linter.unusedVariables false
set_option linter.unusedSimpArgs false
def bPa (x y : Pa) : Bool := x.m == y.m && (x.a == y.a && (x.b == y.b && x.c == y.c))
def bWn (x y : Wn) : Bool := x.p == y.p && (x.f == y.f && x.l == y.l)
def bCh (x y : Ch) : Bool := x.k == y.k && (x.f == y.f && (x.t == y.t && (x.s == y.s && x.d == y.d)))
theorem bPa_iff {x y : Pa} : bPa x y = true ↔ x = y := by
  cases x; cases y; simp [bPa]
theorem bWn_iff {x y : Wn} : bWn x y = true ↔ x = y := by
  cases x; cases y; simp [bWn]
theorem bCh_iff {x y : Ch} : bCh x y = true ↔ x = y := by
  cases x; cases y; simp [bCh]
theorem nb_no {b : Bool} {p : Prop} (h : b = true ↔ p) (hp : p) : (!b) = false := by rw [h.2 hp]; rfl
theorem nb_yes {b : Bool} {p : Prop} (h : b = true ↔ p) (hp : ¬ p) : (!b) = true := by
  cases b
  · rfl
  · exact absurd (h.1 rfl) hp
theorem ln_no {n m : Nat} (h : n = m) : ((n : Int) != (m : Int)) = false := by simp [h]
theorem ln_yes {n m : Nat} (h : ¬ n = m) : ((n : Int) != (m : Int)) = true := by simp; omega
theorem take_all_eq {α : Type} {L M : List α} {k : Nat} (h : L.take k = M.take k) (hk : ¬ k < L.length) (hl : L.length = M.length) : L = M := by
  rwa [List.take_of_length_le (by omega), List.take_of_length_le (by omega)] at h
theorem take_eq_succ {α : Type} {L M : List α} {k : Nat} {d : α} (h : L.take k = M.take k) (hk : k < L.length) (hl : L.length = M.length) (he : L.getD k d = M.getD k d) : L.take (k + 1) = M.take (k + 1) := by
  rw [take_snoc (d := d) hk, take_snoc (d := d) (by omega), h, he]
abbrev imS (S : List RW) : List (List Wn) := S.map RV.L
theorem imS_at {S : List RW} {k : Nat} (h : k < S.length) : (imS S).getD k [] = (S.getD k rw0).L := by
  simp [List.getD_eq_getElem?_getD, List.getElem?_eq_getElem h]
section
variable {W : Base} {B : List (Option (List At))} {Rs : List (Option Row)}
set_option maxRecDepth 100000 in
theorem eqPaYes {a b : Nat} {RA RB : Row} {P P2 : List Pa} (ha : Rs[a]? = some (some RA)) (hA : RowLe RA (rowPa P)) (hb : Rs[b]? = some (some RB)) (hB : RowLe RB (rowPa P2)) (h : P = P2) (hl : P.length ≤ 100) : CallOk Try.prog W B Rs 19 [rsV a, rsV b] (hdB true) := by
  have hll : P.length = P2.length := by have := congrArg List.length h; simpa using this
  have hln := ln_no hll
  refine CallOk.enter Try.func19 (by kernel_rfl) rfl [a, b] [rowPa P, rowPa P2] [rsV 0, rsV 1] rfl (rows2 (.ro_ ha hA rfl rfl (fun _ _ => rfl)) (.ro_ hb hB rfl rfl (fun _ _ => rfl))) (fun r h => by cases h) rfl rfl ?_
  intro w blk hblk
  refine SG.walk tab_ok mx 400 [false] [] ?_
  conv => whnf
  try dsimp only [rowL, rowN, growOk, hiN, fromL, tightN, maxOk]
  refine ⟨?_, ?_⟩
  · repeat' apply And.intro
    all_goals first
      | exact hln
      | trivial
      | rfl
      | omega
      | ((try dsimp only [rowL, rowN]); simp only [beq_iff_eq, beq_eq_false_iff_ne, bne_iff_ne, bne_eq_false_iff_eq, decide_eq_true_eq, decide_eq_false_iff_not, ne_eq, Bool.not_eq_true', Bool.not_eq_false', Bool.not_eq_eq_eq_not, Bool.not_true, Bool.not_false, Option.some.injEq, Option.getD_some, Option.getD_none]; omega)
      | (simp; done)
      | (simp; omega)
  refine SG.loop (fun k : Nat => ⟨puts (List.replicate (Try.f19).ntmps .any) [(0, rsV 0), (1, rsV 1), (12, intV P.length), (13, intV k)], [], [some (rowPa P), some (rowPa P2)], []⟩) (fun k => k ≤ P.length) (fun k => P.length - k) (0) (Nat.zero_le _) (fun h => SG.sub [] [0, 1] ⟨?_, ?_, ?_, by decide, rfl, rfl, rfl, ?_⟩ h) ?_
  · repeat' (first | exact trivial | exact rfl | refine And.intro ?_ ?_)
  · repeat' (first | exact trivial | exact rfl | refine And.intro ?_ ?_)
  · repeat' (first | exact trivial | refine ⟨⟨_, rfl, ⟨rfl, rfl, .inl rfl, (fun h => by first | exact h | cases h), (fun h => by first | exact h | cases h), fun _ _ => rfl⟩, fun _ _ => rfl⟩, ?_⟩ | refine ⟨⟨_, rfl, ⟨rfl, rfl, .inr rfl, (fun h => by first | exact h | cases h), (fun h => by first | exact h | cases h), fun _ _ => rfl⟩, fun _ _ => rfl⟩, ?_⟩ | refine ⟨⟨_, rfl, ⟨rfl, rfl, .inr rfl, (fun h => by first | exact h | cases h), (fun h => by first | exact h | cases h), fun i hi => absurd hi (Nat.not_lt_zero i)⟩, fun i hi => absurd hi (Nat.not_lt_zero i)⟩, ?_⟩ | refine ⟨⟨_, rfl, ⟨rfl, rfl, .inl rfl, (fun h => by first | exact h | cases h), (fun h => by first | exact h | cases h), fun i hi => ren_closed (hQc i hi)⟩, fun i hi => inn_closed (hQc i hi)⟩, ?_⟩)
  · repeat' (first | exact trivial | exact rfl | refine And.intro ?_ ?_)
  rintro k hk next
  try dsimp only at hk next ⊢
  by_cases hlt : k < P.length
  · have he : P.getD k pa0 = P2.getD k pa0 := by rw [h]
    have hq := nb_no (bPa_iff (x := P.getD k pa0) (y := P2.getD k pa0)) he
    refine SG.walk tab_ok mx 400 [true, false] [] ?_
    conv => whnf
    try dsimp only [rowL, rowN, growOk, hiN, fromL, tightN, maxOk]
    refine ⟨?_, ?_⟩
    · repeat' apply And.intro
      all_goals first
        | exact hq
        | trivial
        | rfl
        | omega
        | ((try dsimp only [rowL, rowN]); simp only [beq_iff_eq, beq_eq_false_iff_ne, bne_iff_ne, bne_eq_false_iff_eq, decide_eq_true_eq, decide_eq_false_iff_not, ne_eq, Bool.not_eq_true', Bool.not_eq_false', Bool.not_eq_eq_eq_not, Bool.not_true, Bool.not_false, Option.some.injEq, Option.getD_some, Option.getD_none]; omega)
        | (simp; done)
        | (simp; omega)
    rw [wI (x := (k : Int) + 1) (by omega) (by omega)]
    refine SG.sub [] [0, 1] ⟨?_, ?_, ?_, by decide, rfl, rfl, rfl, ?_⟩ (next (k + 1) hlt (by omega))
    · repeat' (first | exact trivial | exact rfl | refine And.intro ?_ ?_)
    · repeat' (first | exact trivial | exact rfl | refine And.intro ?_ ?_)
    · repeat' (first | exact trivial | refine ⟨⟨_, rfl, ⟨rfl, rfl, .inl rfl, (fun h => by first | exact h | cases h), (fun h => by first | exact h | cases h), fun _ _ => rfl⟩, fun _ _ => rfl⟩, ?_⟩ | refine ⟨⟨_, rfl, ⟨rfl, rfl, .inr rfl, (fun h => by first | exact h | cases h), (fun h => by first | exact h | cases h), fun _ _ => rfl⟩, fun _ _ => rfl⟩, ?_⟩ | refine ⟨⟨_, rfl, ⟨rfl, rfl, .inr rfl, (fun h => by first | exact h | cases h), (fun h => by first | exact h | cases h), fun i hi => absurd hi (Nat.not_lt_zero i)⟩, fun i hi => absurd hi (Nat.not_lt_zero i)⟩, ?_⟩ | refine ⟨⟨_, rfl, ⟨rfl, rfl, .inl rfl, (fun h => by first | exact h | cases h), (fun h => by first | exact h | cases h), fun i hi => ren_closed (hQc i hi)⟩, fun i hi => inn_closed (hQc i hi)⟩, ?_⟩)
    · repeat' (first | exact trivial | exact rfl | refine And.intro ?_ ?_)
  · refine SG.walk tab_ok mx 400 [false] [] ?_
    conv => whnf
    try dsimp only [rowL, rowN, growOk, hiN, fromL, tightN, maxOk]
    refine ⟨?_, ?_⟩
    · repeat' apply And.intro
      all_goals first
        | trivial
        | rfl
        | omega
        | ((try dsimp only [rowL, rowN]); simp only [beq_iff_eq, beq_eq_false_iff_ne, bne_iff_ne, bne_eq_false_iff_eq, decide_eq_true_eq, decide_eq_false_iff_not, ne_eq, Bool.not_eq_true', Bool.not_eq_false', Bool.not_eq_eq_eq_not, Bool.not_true, Bool.not_false, Option.some.injEq, Option.getD_some, Option.getD_none]; omega)
        | (simp; done)
        | (simp; omega)
    refine SG.ret tab_ok Try.func19 rfl ?_
    intro ρ w' v hm hv
    exact Post.mk hm (.cv (.one (.lb true))) [] none [] hv rfl rows0 rfl (by simp)
set_option maxRecDepth 100000 in
theorem eqPaNo {a b : Nat} {RA RB : Row} {P P2 : List Pa} (ha : Rs[a]? = some (some RA)) (hA : RowLe RA (rowPa P)) (hb : Rs[b]? = some (some RB)) (hB : RowLe RB (rowPa P2)) (h : ¬ P = P2) (hl : P.length ≤ 100) : CallOk Try.prog W B Rs 19 [rsV a, rsV b] (hdB false) := by
  by_cases hll : P.length = P2.length
  · have hln := ln_no hll
    refine CallOk.enter Try.func19 (by kernel_rfl) rfl [a, b] [rowPa P, rowPa P2] [rsV 0, rsV 1] rfl (rows2 (.ro_ ha hA rfl rfl (fun _ _ => rfl)) (.ro_ hb hB rfl rfl (fun _ _ => rfl))) (fun r h => by cases h) rfl rfl ?_
    intro w blk hblk
    refine SG.walk tab_ok mx 400 [false] [] ?_
    conv => whnf
    try dsimp only [rowL, rowN, growOk, hiN, fromL, tightN, maxOk]
    refine ⟨?_, ?_⟩
    · repeat' apply And.intro
      all_goals first
        | exact hln
        | trivial
        | rfl
        | omega
        | ((try dsimp only [rowL, rowN]); simp only [beq_iff_eq, beq_eq_false_iff_ne, bne_iff_ne, bne_eq_false_iff_eq, decide_eq_true_eq, decide_eq_false_iff_not, ne_eq, Bool.not_eq_true', Bool.not_eq_false', Bool.not_eq_eq_eq_not, Bool.not_true, Bool.not_false, Option.some.injEq, Option.getD_some, Option.getD_none]; omega)
        | (simp; done)
        | (simp; omega)
    refine SG.loop (fun k : Nat => ⟨puts (List.replicate (Try.f19).ntmps .any) [(0, rsV 0), (1, rsV 1), (12, intV P.length), (13, intV k)], [], [some (rowPa P), some (rowPa P2)], []⟩) (fun k => k ≤ P.length ∧ (P).take k = (P2).take k) (fun k => P.length - k) (0) (⟨Nat.zero_le _, rfl⟩) (fun h => SG.sub [] [0, 1] ⟨?_, ?_, ?_, by decide, rfl, rfl, rfl, ?_⟩ h) ?_
    · repeat' (first | exact trivial | exact rfl | refine And.intro ?_ ?_)
    · repeat' (first | exact trivial | exact rfl | refine And.intro ?_ ?_)
    · repeat' (first | exact trivial | refine ⟨⟨_, rfl, ⟨rfl, rfl, .inl rfl, (fun h => by first | exact h | cases h), (fun h => by first | exact h | cases h), fun _ _ => rfl⟩, fun _ _ => rfl⟩, ?_⟩ | refine ⟨⟨_, rfl, ⟨rfl, rfl, .inr rfl, (fun h => by first | exact h | cases h), (fun h => by first | exact h | cases h), fun _ _ => rfl⟩, fun _ _ => rfl⟩, ?_⟩ | refine ⟨⟨_, rfl, ⟨rfl, rfl, .inr rfl, (fun h => by first | exact h | cases h), (fun h => by first | exact h | cases h), fun i hi => absurd hi (Nat.not_lt_zero i)⟩, fun i hi => absurd hi (Nat.not_lt_zero i)⟩, ?_⟩ | refine ⟨⟨_, rfl, ⟨rfl, rfl, .inl rfl, (fun h => by first | exact h | cases h), (fun h => by first | exact h | cases h), fun i hi => ren_closed (hQc i hi)⟩, fun i hi => inn_closed (hQc i hi)⟩, ?_⟩)
    · repeat' (first | exact trivial | exact rfl | refine And.intro ?_ ?_)
    rintro k ⟨hk, hp⟩ next
    try dsimp only at hk hp next ⊢
    by_cases hlt : k < P.length
    · by_cases he : P.getD k pa0 = P2.getD k pa0
      · have hq := nb_no (bPa_iff (x := P.getD k pa0) (y := P2.getD k pa0)) he
        refine SG.walk tab_ok mx 400 [true, false] [] ?_
        conv => whnf
        try dsimp only [rowL, rowN, growOk, hiN, fromL, tightN, maxOk]
        refine ⟨?_, ?_⟩
        · repeat' apply And.intro
          all_goals first
            | exact hq
            | trivial
            | rfl
            | omega
            | ((try dsimp only [rowL, rowN]); simp only [beq_iff_eq, beq_eq_false_iff_ne, bne_iff_ne, bne_eq_false_iff_eq, decide_eq_true_eq, decide_eq_false_iff_not, ne_eq, Bool.not_eq_true', Bool.not_eq_false', Bool.not_eq_eq_eq_not, Bool.not_true, Bool.not_false, Option.some.injEq, Option.getD_some, Option.getD_none]; omega)
            | (simp; done)
            | (simp; omega)
        rw [wI (x := (k : Int) + 1) (by omega) (by omega)]
        refine SG.sub [] [0, 1] ⟨?_, ?_, ?_, by decide, rfl, rfl, rfl, ?_⟩ (next (k + 1) ⟨hlt, take_eq_succ (d := pa0) hp (by simpa using hlt) (by simpa using hll) he⟩ (by omega))
        · repeat' (first | exact trivial | exact rfl | refine And.intro ?_ ?_)
        · repeat' (first | exact trivial | exact rfl | refine And.intro ?_ ?_)
        · repeat' (first | exact trivial | refine ⟨⟨_, rfl, ⟨rfl, rfl, .inl rfl, (fun h => by first | exact h | cases h), (fun h => by first | exact h | cases h), fun _ _ => rfl⟩, fun _ _ => rfl⟩, ?_⟩ | refine ⟨⟨_, rfl, ⟨rfl, rfl, .inr rfl, (fun h => by first | exact h | cases h), (fun h => by first | exact h | cases h), fun _ _ => rfl⟩, fun _ _ => rfl⟩, ?_⟩ | refine ⟨⟨_, rfl, ⟨rfl, rfl, .inr rfl, (fun h => by first | exact h | cases h), (fun h => by first | exact h | cases h), fun i hi => absurd hi (Nat.not_lt_zero i)⟩, fun i hi => absurd hi (Nat.not_lt_zero i)⟩, ?_⟩ | refine ⟨⟨_, rfl, ⟨rfl, rfl, .inl rfl, (fun h => by first | exact h | cases h), (fun h => by first | exact h | cases h), fun i hi => ren_closed (hQc i hi)⟩, fun i hi => inn_closed (hQc i hi)⟩, ?_⟩)
        · repeat' (first | exact trivial | exact rfl | refine And.intro ?_ ?_)
      · have hq := nb_yes (bPa_iff (x := P.getD k pa0) (y := P2.getD k pa0)) he
        refine SG.walk tab_ok mx 400 [true, true] [] ?_
        conv => whnf
        try dsimp only [rowL, rowN, growOk, hiN, fromL, tightN, maxOk]
        refine ⟨?_, ?_⟩
        · repeat' apply And.intro
          all_goals first
            | exact hq
            | trivial
            | rfl
            | omega
            | ((try dsimp only [rowL, rowN]); simp only [beq_iff_eq, beq_eq_false_iff_ne, bne_iff_ne, bne_eq_false_iff_eq, decide_eq_true_eq, decide_eq_false_iff_not, ne_eq, Bool.not_eq_true', Bool.not_eq_false', Bool.not_eq_eq_eq_not, Bool.not_true, Bool.not_false, Option.some.injEq, Option.getD_some, Option.getD_none]; omega)
            | (simp; done)
            | (simp; omega)
        refine SG.ret tab_ok Try.func19 rfl ?_
        intro ρ w' v hm hv
        exact Post.mk hm (.cv (.one (.lb false))) [] none [] hv rfl rows0 rfl (by simp)
    · exact absurd (take_all_eq hp (by simpa using hlt) (by simpa using hll)) h
  · have hln := ln_yes hll
    refine CallOk.enter Try.func19 (by kernel_rfl) rfl [a, b] [rowPa P, rowPa P2] [rsV 0, rsV 1] rfl (rows2 (.ro_ ha hA rfl rfl (fun _ _ => rfl)) (.ro_ hb hB rfl rfl (fun _ _ => rfl))) (fun r h => by cases h) rfl rfl ?_
    intro w blk hblk
    refine SG.walk tab_ok mx 400 [true] [] ?_
    conv => whnf
    try dsimp only [rowL, rowN, growOk, hiN, fromL, tightN, maxOk]
    refine ⟨?_, ?_⟩
    · repeat' apply And.intro
      all_goals first
        | exact hln
        | trivial
        | rfl
        | omega
        | ((try dsimp only [rowL, rowN]); simp only [beq_iff_eq, beq_eq_false_iff_ne, bne_iff_ne, bne_eq_false_iff_eq, decide_eq_true_eq, decide_eq_false_iff_not, ne_eq, Bool.not_eq_true', Bool.not_eq_false', Bool.not_eq_eq_eq_not, Bool.not_true, Bool.not_false, Option.some.injEq, Option.getD_some, Option.getD_none]; omega)
        | (simp; done)
        | (simp; omega)
    refine SG.ret tab_ok Try.func19 rfl ?_
    intro ρ w' v hm hv
    exact Post.mk hm (.cv (.one (.lb false))) [] none [] hv rfl rows0 rfl (by simp)
set_option maxRecDepth 100000 in
theorem eqChYes {a b : Nat} {RA RB : Row} {P P2 : List Ch} (ha : Rs[a]? = some (some RA)) (hA : RowLe RA (rowCh P)) (hb : Rs[b]? = some (some RB)) (hB : RowLe RB (rowCh P2)) (h : P = P2) (hl : P.length ≤ 100) : CallOk Try.prog W B Rs 20 [rsV a, rsV b] (hdB true) := by
  have hll : P.length = P2.length := by have := congrArg List.length h; simpa using this
  have hln := ln_no hll
  refine CallOk.enter Try.func20 (by kernel_rfl) rfl [a, b] [rowCh P, rowCh P2] [rsV 0, rsV 1] rfl (rows2 (.ro_ ha hA rfl rfl (fun _ _ => rfl)) (.ro_ hb hB rfl rfl (fun _ _ => rfl))) (fun r h => by cases h) rfl rfl ?_
  intro w blk hblk
  refine SG.walk tab_ok mx 400 [false] [] ?_
  conv => whnf
  try dsimp only [rowL, rowN, growOk, hiN, fromL, tightN, maxOk]
  refine ⟨?_, ?_⟩
  · repeat' apply And.intro
    all_goals first
      | exact hln
      | trivial
      | rfl
      | omega
      | ((try dsimp only [rowL, rowN]); simp only [beq_iff_eq, beq_eq_false_iff_ne, bne_iff_ne, bne_eq_false_iff_eq, decide_eq_true_eq, decide_eq_false_iff_not, ne_eq, Bool.not_eq_true', Bool.not_eq_false', Bool.not_eq_eq_eq_not, Bool.not_true, Bool.not_false, Option.some.injEq, Option.getD_some, Option.getD_none]; omega)
      | (simp; done)
      | (simp; omega)
  refine SG.loop (fun k : Nat => ⟨puts (List.replicate (Try.f20).ntmps .any) [(0, rsV 0), (1, rsV 1), (12, intV P.length), (13, intV k)], [], [some (rowCh P), some (rowCh P2)], []⟩) (fun k => k ≤ P.length) (fun k => P.length - k) (0) (Nat.zero_le _) (fun h => SG.sub [] [0, 1] ⟨?_, ?_, ?_, by decide, rfl, rfl, rfl, ?_⟩ h) ?_
  · repeat' (first | exact trivial | exact rfl | refine And.intro ?_ ?_)
  · repeat' (first | exact trivial | exact rfl | refine And.intro ?_ ?_)
  · repeat' (first | exact trivial | refine ⟨⟨_, rfl, ⟨rfl, rfl, .inl rfl, (fun h => by first | exact h | cases h), (fun h => by first | exact h | cases h), fun _ _ => rfl⟩, fun _ _ => rfl⟩, ?_⟩ | refine ⟨⟨_, rfl, ⟨rfl, rfl, .inr rfl, (fun h => by first | exact h | cases h), (fun h => by first | exact h | cases h), fun _ _ => rfl⟩, fun _ _ => rfl⟩, ?_⟩ | refine ⟨⟨_, rfl, ⟨rfl, rfl, .inr rfl, (fun h => by first | exact h | cases h), (fun h => by first | exact h | cases h), fun i hi => absurd hi (Nat.not_lt_zero i)⟩, fun i hi => absurd hi (Nat.not_lt_zero i)⟩, ?_⟩ | refine ⟨⟨_, rfl, ⟨rfl, rfl, .inl rfl, (fun h => by first | exact h | cases h), (fun h => by first | exact h | cases h), fun i hi => ren_closed (hQc i hi)⟩, fun i hi => inn_closed (hQc i hi)⟩, ?_⟩)
  · repeat' (first | exact trivial | exact rfl | refine And.intro ?_ ?_)
  rintro k hk next
  try dsimp only at hk next ⊢
  by_cases hlt : k < P.length
  · have he : P.getD k ch0 = P2.getD k ch0 := by rw [h]
    have hq := nb_no (bCh_iff (x := P.getD k ch0) (y := P2.getD k ch0)) he
    refine SG.walk tab_ok mx 400 [true, false] [] ?_
    conv => whnf
    try dsimp only [rowL, rowN, growOk, hiN, fromL, tightN, maxOk]
    refine ⟨?_, ?_⟩
    · repeat' apply And.intro
      all_goals first
        | exact hq
        | trivial
        | rfl
        | omega
        | ((try dsimp only [rowL, rowN]); simp only [beq_iff_eq, beq_eq_false_iff_ne, bne_iff_ne, bne_eq_false_iff_eq, decide_eq_true_eq, decide_eq_false_iff_not, ne_eq, Bool.not_eq_true', Bool.not_eq_false', Bool.not_eq_eq_eq_not, Bool.not_true, Bool.not_false, Option.some.injEq, Option.getD_some, Option.getD_none]; omega)
        | (simp; done)
        | (simp; omega)
    rw [wI (x := (k : Int) + 1) (by omega) (by omega)]
    refine SG.sub [] [0, 1] ⟨?_, ?_, ?_, by decide, rfl, rfl, rfl, ?_⟩ (next (k + 1) hlt (by omega))
    · repeat' (first | exact trivial | exact rfl | refine And.intro ?_ ?_)
    · repeat' (first | exact trivial | exact rfl | refine And.intro ?_ ?_)
    · repeat' (first | exact trivial | refine ⟨⟨_, rfl, ⟨rfl, rfl, .inl rfl, (fun h => by first | exact h | cases h), (fun h => by first | exact h | cases h), fun _ _ => rfl⟩, fun _ _ => rfl⟩, ?_⟩ | refine ⟨⟨_, rfl, ⟨rfl, rfl, .inr rfl, (fun h => by first | exact h | cases h), (fun h => by first | exact h | cases h), fun _ _ => rfl⟩, fun _ _ => rfl⟩, ?_⟩ | refine ⟨⟨_, rfl, ⟨rfl, rfl, .inr rfl, (fun h => by first | exact h | cases h), (fun h => by first | exact h | cases h), fun i hi => absurd hi (Nat.not_lt_zero i)⟩, fun i hi => absurd hi (Nat.not_lt_zero i)⟩, ?_⟩ | refine ⟨⟨_, rfl, ⟨rfl, rfl, .inl rfl, (fun h => by first | exact h | cases h), (fun h => by first | exact h | cases h), fun i hi => ren_closed (hQc i hi)⟩, fun i hi => inn_closed (hQc i hi)⟩, ?_⟩)
    · repeat' (first | exact trivial | exact rfl | refine And.intro ?_ ?_)
  · refine SG.walk tab_ok mx 400 [false] [] ?_
    conv => whnf
    try dsimp only [rowL, rowN, growOk, hiN, fromL, tightN, maxOk]
    refine ⟨?_, ?_⟩
    · repeat' apply And.intro
      all_goals first
        | trivial
        | rfl
        | omega
        | ((try dsimp only [rowL, rowN]); simp only [beq_iff_eq, beq_eq_false_iff_ne, bne_iff_ne, bne_eq_false_iff_eq, decide_eq_true_eq, decide_eq_false_iff_not, ne_eq, Bool.not_eq_true', Bool.not_eq_false', Bool.not_eq_eq_eq_not, Bool.not_true, Bool.not_false, Option.some.injEq, Option.getD_some, Option.getD_none]; omega)
        | (simp; done)
        | (simp; omega)
    refine SG.ret tab_ok Try.func20 rfl ?_
    intro ρ w' v hm hv
    exact Post.mk hm (.cv (.one (.lb true))) [] none [] hv rfl rows0 rfl (by simp)
set_option maxRecDepth 100000 in
theorem eqChNo {a b : Nat} {RA RB : Row} {P P2 : List Ch} (ha : Rs[a]? = some (some RA)) (hA : RowLe RA (rowCh P)) (hb : Rs[b]? = some (some RB)) (hB : RowLe RB (rowCh P2)) (h : ¬ P = P2) (hl : P.length ≤ 100) : CallOk Try.prog W B Rs 20 [rsV a, rsV b] (hdB false) := by
  by_cases hll : P.length = P2.length
  · have hln := ln_no hll
    refine CallOk.enter Try.func20 (by kernel_rfl) rfl [a, b] [rowCh P, rowCh P2] [rsV 0, rsV 1] rfl (rows2 (.ro_ ha hA rfl rfl (fun _ _ => rfl)) (.ro_ hb hB rfl rfl (fun _ _ => rfl))) (fun r h => by cases h) rfl rfl ?_
    intro w blk hblk
    refine SG.walk tab_ok mx 400 [false] [] ?_
    conv => whnf
    try dsimp only [rowL, rowN, growOk, hiN, fromL, tightN, maxOk]
    refine ⟨?_, ?_⟩
    · repeat' apply And.intro
      all_goals first
        | exact hln
        | trivial
        | rfl
        | omega
        | ((try dsimp only [rowL, rowN]); simp only [beq_iff_eq, beq_eq_false_iff_ne, bne_iff_ne, bne_eq_false_iff_eq, decide_eq_true_eq, decide_eq_false_iff_not, ne_eq, Bool.not_eq_true', Bool.not_eq_false', Bool.not_eq_eq_eq_not, Bool.not_true, Bool.not_false, Option.some.injEq, Option.getD_some, Option.getD_none]; omega)
        | (simp; done)
        | (simp; omega)
    refine SG.loop (fun k : Nat => ⟨puts (List.replicate (Try.f20).ntmps .any) [(0, rsV 0), (1, rsV 1), (12, intV P.length), (13, intV k)], [], [some (rowCh P), some (rowCh P2)], []⟩) (fun k => k ≤ P.length ∧ (P).take k = (P2).take k) (fun k => P.length - k) (0) (⟨Nat.zero_le _, rfl⟩) (fun h => SG.sub [] [0, 1] ⟨?_, ?_, ?_, by decide, rfl, rfl, rfl, ?_⟩ h) ?_
    · repeat' (first | exact trivial | exact rfl | refine And.intro ?_ ?_)
    · repeat' (first | exact trivial | exact rfl | refine And.intro ?_ ?_)
    · repeat' (first | exact trivial | refine ⟨⟨_, rfl, ⟨rfl, rfl, .inl rfl, (fun h => by first | exact h | cases h), (fun h => by first | exact h | cases h), fun _ _ => rfl⟩, fun _ _ => rfl⟩, ?_⟩ | refine ⟨⟨_, rfl, ⟨rfl, rfl, .inr rfl, (fun h => by first | exact h | cases h), (fun h => by first | exact h | cases h), fun _ _ => rfl⟩, fun _ _ => rfl⟩, ?_⟩ | refine ⟨⟨_, rfl, ⟨rfl, rfl, .inr rfl, (fun h => by first | exact h | cases h), (fun h => by first | exact h | cases h), fun i hi => absurd hi (Nat.not_lt_zero i)⟩, fun i hi => absurd hi (Nat.not_lt_zero i)⟩, ?_⟩ | refine ⟨⟨_, rfl, ⟨rfl, rfl, .inl rfl, (fun h => by first | exact h | cases h), (fun h => by first | exact h | cases h), fun i hi => ren_closed (hQc i hi)⟩, fun i hi => inn_closed (hQc i hi)⟩, ?_⟩)
    · repeat' (first | exact trivial | exact rfl | refine And.intro ?_ ?_)
    rintro k ⟨hk, hp⟩ next
    try dsimp only at hk hp next ⊢
    by_cases hlt : k < P.length
    · by_cases he : P.getD k ch0 = P2.getD k ch0
      · have hq := nb_no (bCh_iff (x := P.getD k ch0) (y := P2.getD k ch0)) he
        refine SG.walk tab_ok mx 400 [true, false] [] ?_
        conv => whnf
        try dsimp only [rowL, rowN, growOk, hiN, fromL, tightN, maxOk]
        refine ⟨?_, ?_⟩
        · repeat' apply And.intro
          all_goals first
            | exact hq
            | trivial
            | rfl
            | omega
            | ((try dsimp only [rowL, rowN]); simp only [beq_iff_eq, beq_eq_false_iff_ne, bne_iff_ne, bne_eq_false_iff_eq, decide_eq_true_eq, decide_eq_false_iff_not, ne_eq, Bool.not_eq_true', Bool.not_eq_false', Bool.not_eq_eq_eq_not, Bool.not_true, Bool.not_false, Option.some.injEq, Option.getD_some, Option.getD_none]; omega)
            | (simp; done)
            | (simp; omega)
        rw [wI (x := (k : Int) + 1) (by omega) (by omega)]
        refine SG.sub [] [0, 1] ⟨?_, ?_, ?_, by decide, rfl, rfl, rfl, ?_⟩ (next (k + 1) ⟨hlt, take_eq_succ (d := ch0) hp (by simpa using hlt) (by simpa using hll) he⟩ (by omega))
        · repeat' (first | exact trivial | exact rfl | refine And.intro ?_ ?_)
        · repeat' (first | exact trivial | exact rfl | refine And.intro ?_ ?_)
        · repeat' (first | exact trivial | refine ⟨⟨_, rfl, ⟨rfl, rfl, .inl rfl, (fun h => by first | exact h | cases h), (fun h => by first | exact h | cases h), fun _ _ => rfl⟩, fun _ _ => rfl⟩, ?_⟩ | refine ⟨⟨_, rfl, ⟨rfl, rfl, .inr rfl, (fun h => by first | exact h | cases h), (fun h => by first | exact h | cases h), fun _ _ => rfl⟩, fun _ _ => rfl⟩, ?_⟩ | refine ⟨⟨_, rfl, ⟨rfl, rfl, .inr rfl, (fun h => by first | exact h | cases h), (fun h => by first | exact h | cases h), fun i hi => absurd hi (Nat.not_lt_zero i)⟩, fun i hi => absurd hi (Nat.not_lt_zero i)⟩, ?_⟩ | refine ⟨⟨_, rfl, ⟨rfl, rfl, .inl rfl, (fun h => by first | exact h | cases h), (fun h => by first | exact h | cases h), fun i hi => ren_closed (hQc i hi)⟩, fun i hi => inn_closed (hQc i hi)⟩, ?_⟩)
        · repeat' (first | exact trivial | exact rfl | refine And.intro ?_ ?_)
      · have hq := nb_yes (bCh_iff (x := P.getD k ch0) (y := P2.getD k ch0)) he
        refine SG.walk tab_ok mx 400 [true, true] [] ?_
        conv => whnf
        try dsimp only [rowL, rowN, growOk, hiN, fromL, tightN, maxOk]
        refine ⟨?_, ?_⟩
        · repeat' apply And.intro
          all_goals first
            | exact hq
            | trivial
            | rfl
            | omega
            | ((try dsimp only [rowL, rowN]); simp only [beq_iff_eq, beq_eq_false_iff_ne, bne_iff_ne, bne_eq_false_iff_eq, decide_eq_true_eq, decide_eq_false_iff_not, ne_eq, Bool.not_eq_true', Bool.not_eq_false', Bool.not_eq_eq_eq_not, Bool.not_true, Bool.not_false, Option.some.injEq, Option.getD_some, Option.getD_none]; omega)
            | (simp; done)
            | (simp; omega)
        refine SG.ret tab_ok Try.func20 rfl ?_
        intro ρ w' v hm hv
        exact Post.mk hm (.cv (.one (.lb false))) [] none [] hv rfl rows0 rfl (by simp)
    · exact absurd (take_all_eq hp (by simpa using hlt) (by simpa using hll)) h
  · have hln := ln_yes hll
    refine CallOk.enter Try.func20 (by kernel_rfl) rfl [a, b] [rowCh P, rowCh P2] [rsV 0, rsV 1] rfl (rows2 (.ro_ ha hA rfl rfl (fun _ _ => rfl)) (.ro_ hb hB rfl rfl (fun _ _ => rfl))) (fun r h => by cases h) rfl rfl ?_
    intro w blk hblk
    refine SG.walk tab_ok mx 400 [true] [] ?_
    conv => whnf
    try dsimp only [rowL, rowN, growOk, hiN, fromL, tightN, maxOk]
    refine ⟨?_, ?_⟩
    · repeat' apply And.intro
      all_goals first
        | exact hln
        | trivial
        | rfl
        | omega
        | ((try dsimp only [rowL, rowN]); simp only [beq_iff_eq, beq_eq_false_iff_ne, bne_iff_ne, bne_eq_false_iff_eq, decide_eq_true_eq, decide_eq_false_iff_not, ne_eq, Bool.not_eq_true', Bool.not_eq_false', Bool.not_eq_eq_eq_not, Bool.not_true, Bool.not_false, Option.some.injEq, Option.getD_some, Option.getD_none]; omega)
        | (simp; done)
        | (simp; omega)
    refine SG.ret tab_ok Try.func20 rfl ?_
    intro ρ w' v hm hv
    exact Post.mk hm (.cv (.one (.lb false))) [] none [] hv rfl rows0 rfl (by simp)
set_option maxRecDepth 100000 in
theorem eqWnYes {x y : RW} (h : x.L = y.L) (hl : x.L.length ≤ 100) : CallOk Try.prog W B Rs 23 [rwV x, rwV y] (hdB true) := by
  have hll : x.L.length = y.L.length := by have := congrArg List.length h; simpa using this
  have hln := ln_no hll
  refine CallOk.enter Try.func23 (by kernel_rfl) rfl [] [] [rwV x, rwV y] rfl rows0 (fun r h => by cases h) rfl rfl ?_
  intro w blk hblk
  refine SG.walk tab_ok mx 400 [false] [] ?_
  conv => whnf
  try dsimp only [rowL, rowN, growOk, hiN, fromL, tightN, maxOk]
  refine ⟨?_, ?_⟩
  · repeat' apply And.intro
    all_goals first
      | exact hln
      | trivial
      | rfl
      | omega
      | ((try dsimp only [rowL, rowN]); simp only [beq_iff_eq, beq_eq_false_iff_ne, bne_iff_ne, bne_eq_false_iff_eq, decide_eq_true_eq, decide_eq_false_iff_not, ne_eq, Bool.not_eq_true', Bool.not_eq_false', Bool.not_eq_eq_eq_not, Bool.not_true, Bool.not_false, Option.some.injEq, Option.getD_some, Option.getD_none]; omega)
      | (simp; done)
      | (simp; omega)
  refine SG.loop (fun k : Nat => ⟨puts (List.replicate (Try.f23).ntmps .any) [(0, rwV x), (1, rwV y), (12, intV x.L.length), (13, intV k)], [], [], []⟩) (fun k => k ≤ x.L.length) (fun k => x.L.length - k) (0) (Nat.zero_le _) (fun h => SG.sub [] [] ⟨?_, ?_, ?_, by decide, rfl, rfl, rfl, ?_⟩ h) ?_
  · repeat' (first | exact trivial | exact rfl | refine And.intro ?_ ?_)
  · repeat' (first | exact trivial | exact rfl | refine And.intro ?_ ?_)
  · repeat' (first | exact trivial | refine ⟨⟨_, rfl, ⟨rfl, rfl, .inl rfl, (fun h => by first | exact h | cases h), (fun h => by first | exact h | cases h), fun _ _ => rfl⟩, fun _ _ => rfl⟩, ?_⟩ | refine ⟨⟨_, rfl, ⟨rfl, rfl, .inr rfl, (fun h => by first | exact h | cases h), (fun h => by first | exact h | cases h), fun _ _ => rfl⟩, fun _ _ => rfl⟩, ?_⟩ | refine ⟨⟨_, rfl, ⟨rfl, rfl, .inr rfl, (fun h => by first | exact h | cases h), (fun h => by first | exact h | cases h), fun i hi => absurd hi (Nat.not_lt_zero i)⟩, fun i hi => absurd hi (Nat.not_lt_zero i)⟩, ?_⟩ | refine ⟨⟨_, rfl, ⟨rfl, rfl, .inl rfl, (fun h => by first | exact h | cases h), (fun h => by first | exact h | cases h), fun i hi => ren_closed (hQc i hi)⟩, fun i hi => inn_closed (hQc i hi)⟩, ?_⟩)
  · repeat' (first | exact trivial | exact rfl | refine And.intro ?_ ?_)
  rintro k hk next
  try dsimp only at hk next ⊢
  by_cases hlt : k < x.L.length
  · have he : x.L.getD k wn0 = y.L.getD k wn0 := by rw [h]
    have hq := nb_no (bWn_iff (x := x.L.getD k wn0) (y := y.L.getD k wn0)) he
    refine SG.walk tab_ok mx 400 [true, false] [] ?_
    conv => whnf
    try dsimp only [rowL, rowN, growOk, hiN, fromL, tightN, maxOk]
    refine ⟨?_, ?_⟩
    · repeat' apply And.intro
      all_goals first
        | exact hq
        | trivial
        | rfl
        | omega
        | ((try dsimp only [rowL, rowN]); simp only [beq_iff_eq, beq_eq_false_iff_ne, bne_iff_ne, bne_eq_false_iff_eq, decide_eq_true_eq, decide_eq_false_iff_not, ne_eq, Bool.not_eq_true', Bool.not_eq_false', Bool.not_eq_eq_eq_not, Bool.not_true, Bool.not_false, Option.some.injEq, Option.getD_some, Option.getD_none]; omega)
        | (simp; done)
        | (simp; omega)
    rw [wI (x := (k : Int) + 1) (by omega) (by omega)]
    refine SG.sub [] [] ⟨?_, ?_, ?_, by decide, rfl, rfl, rfl, ?_⟩ (next (k + 1) hlt (by omega))
    · repeat' (first | exact trivial | exact rfl | refine And.intro ?_ ?_)
    · repeat' (first | exact trivial | exact rfl | refine And.intro ?_ ?_)
    · repeat' (first | exact trivial | refine ⟨⟨_, rfl, ⟨rfl, rfl, .inl rfl, (fun h => by first | exact h | cases h), (fun h => by first | exact h | cases h), fun _ _ => rfl⟩, fun _ _ => rfl⟩, ?_⟩ | refine ⟨⟨_, rfl, ⟨rfl, rfl, .inr rfl, (fun h => by first | exact h | cases h), (fun h => by first | exact h | cases h), fun _ _ => rfl⟩, fun _ _ => rfl⟩, ?_⟩ | refine ⟨⟨_, rfl, ⟨rfl, rfl, .inr rfl, (fun h => by first | exact h | cases h), (fun h => by first | exact h | cases h), fun i hi => absurd hi (Nat.not_lt_zero i)⟩, fun i hi => absurd hi (Nat.not_lt_zero i)⟩, ?_⟩ | refine ⟨⟨_, rfl, ⟨rfl, rfl, .inl rfl, (fun h => by first | exact h | cases h), (fun h => by first | exact h | cases h), fun i hi => ren_closed (hQc i hi)⟩, fun i hi => inn_closed (hQc i hi)⟩, ?_⟩)
    · repeat' (first | exact trivial | exact rfl | refine And.intro ?_ ?_)
  · refine SG.walk tab_ok mx 400 [false] [] ?_
    conv => whnf
    try dsimp only [rowL, rowN, growOk, hiN, fromL, tightN, maxOk]
    refine ⟨?_, ?_⟩
    · repeat' apply And.intro
      all_goals first
        | trivial
        | rfl
        | omega
        | ((try dsimp only [rowL, rowN]); simp only [beq_iff_eq, beq_eq_false_iff_ne, bne_iff_ne, bne_eq_false_iff_eq, decide_eq_true_eq, decide_eq_false_iff_not, ne_eq, Bool.not_eq_true', Bool.not_eq_false', Bool.not_eq_eq_eq_not, Bool.not_true, Bool.not_false, Option.some.injEq, Option.getD_some, Option.getD_none]; omega)
        | (simp; done)
        | (simp; omega)
    refine SG.ret tab_ok Try.func23 rfl ?_
    intro ρ w' v hm hv
    exact Post.mk hm (.cv (.one (.lb true))) [] none [] hv rfl rows0 rfl (by simp)
set_option maxRecDepth 100000 in
theorem eqWnNo {x y : RW} (h : ¬ x.L = y.L) (hl : x.L.length ≤ 100) : CallOk Try.prog W B Rs 23 [rwV x, rwV y] (hdB false) := by
  by_cases hll : x.L.length = y.L.length
  · have hln := ln_no hll
    refine CallOk.enter Try.func23 (by kernel_rfl) rfl [] [] [rwV x, rwV y] rfl rows0 (fun r h => by cases h) rfl rfl ?_
    intro w blk hblk
    refine SG.walk tab_ok mx 400 [false] [] ?_
    conv => whnf
    try dsimp only [rowL, rowN, growOk, hiN, fromL, tightN, maxOk]
    refine ⟨?_, ?_⟩
    · repeat' apply And.intro
      all_goals first
        | exact hln
        | trivial
        | rfl
        | omega
        | ((try dsimp only [rowL, rowN]); simp only [beq_iff_eq, beq_eq_false_iff_ne, bne_iff_ne, bne_eq_false_iff_eq, decide_eq_true_eq, decide_eq_false_iff_not, ne_eq, Bool.not_eq_true', Bool.not_eq_false', Bool.not_eq_eq_eq_not, Bool.not_true, Bool.not_false, Option.some.injEq, Option.getD_some, Option.getD_none]; omega)
        | (simp; done)
        | (simp; omega)
    refine SG.loop (fun k : Nat => ⟨puts (List.replicate (Try.f23).ntmps .any) [(0, rwV x), (1, rwV y), (12, intV x.L.length), (13, intV k)], [], [], []⟩) (fun k => k ≤ x.L.length ∧ (x.L).take k = (y.L).take k) (fun k => x.L.length - k) (0) (⟨Nat.zero_le _, rfl⟩) (fun h => SG.sub [] [] ⟨?_, ?_, ?_, by decide, rfl, rfl, rfl, ?_⟩ h) ?_
    · repeat' (first | exact trivial | exact rfl | refine And.intro ?_ ?_)
    · repeat' (first | exact trivial | exact rfl | refine And.intro ?_ ?_)
    · repeat' (first | exact trivial | refine ⟨⟨_, rfl, ⟨rfl, rfl, .inl rfl, (fun h => by first | exact h | cases h), (fun h => by first | exact h | cases h), fun _ _ => rfl⟩, fun _ _ => rfl⟩, ?_⟩ | refine ⟨⟨_, rfl, ⟨rfl, rfl, .inr rfl, (fun h => by first | exact h | cases h), (fun h => by first | exact h | cases h), fun _ _ => rfl⟩, fun _ _ => rfl⟩, ?_⟩ | refine ⟨⟨_, rfl, ⟨rfl, rfl, .inr rfl, (fun h => by first | exact h | cases h), (fun h => by first | exact h | cases h), fun i hi => absurd hi (Nat.not_lt_zero i)⟩, fun i hi => absurd hi (Nat.not_lt_zero i)⟩, ?_⟩ | refine ⟨⟨_, rfl, ⟨rfl, rfl, .inl rfl, (fun h => by first | exact h | cases h), (fun h => by first | exact h | cases h), fun i hi => ren_closed (hQc i hi)⟩, fun i hi => inn_closed (hQc i hi)⟩, ?_⟩)
    · repeat' (first | exact trivial | exact rfl | refine And.intro ?_ ?_)
    rintro k ⟨hk, hp⟩ next
    try dsimp only at hk hp next ⊢
    by_cases hlt : k < x.L.length
    · by_cases he : x.L.getD k wn0 = y.L.getD k wn0
      · have hq := nb_no (bWn_iff (x := x.L.getD k wn0) (y := y.L.getD k wn0)) he
        refine SG.walk tab_ok mx 400 [true, false] [] ?_
        conv => whnf
        try dsimp only [rowL, rowN, growOk, hiN, fromL, tightN, maxOk]
        refine ⟨?_, ?_⟩
        · repeat' apply And.intro
          all_goals first
            | exact hq
            | trivial
            | rfl
            | omega
            | ((try dsimp only [rowL, rowN]); simp only [beq_iff_eq, beq_eq_false_iff_ne, bne_iff_ne, bne_eq_false_iff_eq, decide_eq_true_eq, decide_eq_false_iff_not, ne_eq, Bool.not_eq_true', Bool.not_eq_false', Bool.not_eq_eq_eq_not, Bool.not_true, Bool.not_false, Option.some.injEq, Option.getD_some, Option.getD_none]; omega)
            | (simp; done)
            | (simp; omega)
        rw [wI (x := (k : Int) + 1) (by omega) (by omega)]
        refine SG.sub [] [] ⟨?_, ?_, ?_, by decide, rfl, rfl, rfl, ?_⟩ (next (k + 1) ⟨hlt, take_eq_succ (d := wn0) hp (by simpa using hlt) (by simpa using hll) he⟩ (by omega))
        · repeat' (first | exact trivial | exact rfl | refine And.intro ?_ ?_)
        · repeat' (first | exact trivial | exact rfl | refine And.intro ?_ ?_)
        · repeat' (first | exact trivial | refine ⟨⟨_, rfl, ⟨rfl, rfl, .inl rfl, (fun h => by first | exact h | cases h), (fun h => by first | exact h | cases h), fun _ _ => rfl⟩, fun _ _ => rfl⟩, ?_⟩ | refine ⟨⟨_, rfl, ⟨rfl, rfl, .inr rfl, (fun h => by first | exact h | cases h), (fun h => by first | exact h | cases h), fun _ _ => rfl⟩, fun _ _ => rfl⟩, ?_⟩ | refine ⟨⟨_, rfl, ⟨rfl, rfl, .inr rfl, (fun h => by first | exact h | cases h), (fun h => by first | exact h | cases h), fun i hi => absurd hi (Nat.not_lt_zero i)⟩, fun i hi => absurd hi (Nat.not_lt_zero i)⟩, ?_⟩ | refine ⟨⟨_, rfl, ⟨rfl, rfl, .inl rfl, (fun h => by first | exact h | cases h), (fun h => by first | exact h | cases h), fun i hi => ren_closed (hQc i hi)⟩, fun i hi => inn_closed (hQc i hi)⟩, ?_⟩)
        · repeat' (first | exact trivial | exact rfl | refine And.intro ?_ ?_)
      · have hq := nb_yes (bWn_iff (x := x.L.getD k wn0) (y := y.L.getD k wn0)) he
        refine SG.walk tab_ok mx 400 [true, true] [] ?_
        conv => whnf
        try dsimp only [rowL, rowN, growOk, hiN, fromL, tightN, maxOk]
        refine ⟨?_, ?_⟩
        · repeat' apply And.intro
          all_goals first
            | exact hq
            | trivial
            | rfl
            | omega
            | ((try dsimp only [rowL, rowN]); simp only [beq_iff_eq, beq_eq_false_iff_ne, bne_iff_ne, bne_eq_false_iff_eq, decide_eq_true_eq, decide_eq_false_iff_not, ne_eq, Bool.not_eq_true', Bool.not_eq_false', Bool.not_eq_eq_eq_not, Bool.not_true, Bool.not_false, Option.some.injEq, Option.getD_some, Option.getD_none]; omega)
            | (simp; done)
            | (simp; omega)
        refine SG.ret tab_ok Try.func23 rfl ?_
        intro ρ w' v hm hv
        exact Post.mk hm (.cv (.one (.lb false))) [] none [] hv rfl rows0 rfl (by simp)
    · exact absurd (take_all_eq hp (by simpa using hlt) (by simpa using hll)) h
  · have hln := ln_yes hll
    refine CallOk.enter Try.func23 (by kernel_rfl) rfl [] [] [rwV x, rwV y] rfl rows0 (fun r h => by cases h) rfl rfl ?_
    intro w blk hblk
    refine SG.walk tab_ok mx 400 [true] [] ?_
    conv => whnf
    try dsimp only [rowL, rowN, growOk, hiN, fromL, tightN, maxOk]
    refine ⟨?_, ?_⟩
    · repeat' apply And.intro
      all_goals first
        | exact hln
        | trivial
        | rfl
        | omega
        | ((try dsimp only [rowL, rowN]); simp only [beq_iff_eq, beq_eq_false_iff_ne, bne_iff_ne, bne_eq_false_iff_eq, decide_eq_true_eq, decide_eq_false_iff_not, ne_eq, Bool.not_eq_true', Bool.not_eq_false', Bool.not_eq_eq_eq_not, Bool.not_true, Bool.not_false, Option.some.injEq, Option.getD_some, Option.getD_none]; omega)
        | (simp; done)
        | (simp; omega)
    refine SG.ret tab_ok Try.func23 rfl ?_
    intro ρ w' v hm hv
    exact Post.mk hm (.cv (.one (.lb false))) [] none [] hv rfl rows0 rfl (by simp)
set_option maxRecDepth 100000 in
theorem sameWYes {x y : RW} (h : x.L = y.L) (hl : x.L.length ≤ 100) : CallOk Try.prog W B Rs 22 [rwV x, rwV y] (hdB true) := by
  refine CallOk.enter Try.func22 (by kernel_rfl) rfl [] [] [rwV x, rwV y] rfl rows0 (fun r h => by cases h) rfl rfl ?_
  intro w blk hblk
  refine SG.walk tab_ok mx 400 [] [hdB true] ?_
  conv => whnf
  try dsimp only [rowL, rowN, growOk, hiN, fromL, tightN, maxOk]
  refine ⟨?_, ?_⟩
  · repeat' apply And.intro
    all_goals first
      | exact eqWnYes h hl
      | trivial
      | rfl
      | omega
      | ((try dsimp only [rowL, rowN]); simp only [beq_iff_eq, beq_eq_false_iff_ne, bne_iff_ne, bne_eq_false_iff_eq, decide_eq_true_eq, decide_eq_false_iff_not, ne_eq, Bool.not_eq_true', Bool.not_eq_false', Bool.not_eq_eq_eq_not, Bool.not_true, Bool.not_false, Option.some.injEq, Option.getD_some, Option.getD_none]; omega)
      | (simp; done)
      | (simp; omega)
  refine SG.ret tab_ok Try.func22 rfl ?_
  intro ρ w' v hm hv
  exact Post.mk hm (.cv (.one (.lb true))) [] none [] hv rfl rows0 rfl (by simp)
set_option maxRecDepth 100000 in
theorem sameWNo {x y : RW} (h : ¬ x.L = y.L) (hl : x.L.length ≤ 100) : CallOk Try.prog W B Rs 22 [rwV x, rwV y] (hdB false) := by
  refine CallOk.enter Try.func22 (by kernel_rfl) rfl [] [] [rwV x, rwV y] rfl rows0 (fun r h => by cases h) rfl rfl ?_
  intro w blk hblk
  refine SG.walk tab_ok mx 400 [] [hdB false] ?_
  conv => whnf
  try dsimp only [rowL, rowN, growOk, hiN, fromL, tightN, maxOk]
  refine ⟨?_, ?_⟩
  · repeat' apply And.intro
    all_goals first
      | exact eqWnNo h hl
      | trivial
      | rfl
      | omega
      | ((try dsimp only [rowL, rowN]); simp only [beq_iff_eq, beq_eq_false_iff_ne, bne_iff_ne, bne_eq_false_iff_eq, decide_eq_true_eq, decide_eq_false_iff_not, ne_eq, Bool.not_eq_true', Bool.not_eq_false', Bool.not_eq_eq_eq_not, Bool.not_true, Bool.not_false, Option.some.injEq, Option.getD_some, Option.getD_none]; omega)
      | (simp; done)
      | (simp; omega)
  refine SG.ret tab_ok Try.func22 rfl ?_
  intro ρ w' v hm hv
  exact Post.mk hm (.cv (.one (.lb false))) [] none [] hv rfl rows0 rfl (by simp)
set_option maxRecDepth 100000 in
theorem eqWsYes {a b : Nat} {RA RB : Row} {S S2 : List RW} (ha : Rs[a]? = some (some RA)) (hA : RowLe RA (rowWs S)) (hb : Rs[b]? = some (some RB)) (hB : RowLe RB (rowWs S2)) (h : imS S = imS S2) (hl : S.length ≤ 100) (hs : ∀ r ∈ S, r.L.length ≤ 100) : CallOk Try.prog W B Rs 21 [rsV a, rsV b, .cv (.one (.clo 22 []))] (hdB true) := by
  have hll : S.length = S2.length := by have := congrArg List.length h; simpa using this
  have hln := ln_no hll
  refine CallOk.enter Try.func21 (by kernel_rfl) rfl [a, b] [rowWs S, rowWs S2] [rsV 0, rsV 1, .cv (.one (.clo 22 []))] rfl (rows2 (.ro_ ha hA rfl rfl (fun _ _ => rfl)) (.ro_ hb hB rfl rfl (fun _ _ => rfl))) (fun r h => by cases h) rfl rfl ?_
  intro w blk hblk
  refine SG.walk tab_ok mx 400 [false] [] ?_
  conv => whnf
  try dsimp only [rowL, rowN, growOk, hiN, fromL, tightN, maxOk]
  refine ⟨?_, ?_⟩
  · repeat' apply And.intro
    all_goals first
      | exact hln
      | trivial
      | rfl
      | omega
      | ((try dsimp only [rowL, rowN]); simp only [beq_iff_eq, beq_eq_false_iff_ne, bne_iff_ne, bne_eq_false_iff_eq, decide_eq_true_eq, decide_eq_false_iff_not, ne_eq, Bool.not_eq_true', Bool.not_eq_false', Bool.not_eq_eq_eq_not, Bool.not_true, Bool.not_false, Option.some.injEq, Option.getD_some, Option.getD_none]; omega)
      | (simp; done)
      | (simp; omega)
  refine SG.loop (fun k : Nat => ⟨puts (List.replicate (Try.f21).ntmps .any) [(1, rsV 1), (2, .cv (.one (.clo 22 []))), (15, rsV 0), (16, intV S.length), (17, intV k)], [], [some (rowWs S), some (rowWs S2)], []⟩) (fun k => k ≤ S.length) (fun k => S.length - k) (0) (Nat.zero_le _) (fun h => SG.sub [] [0, 1] ⟨?_, ?_, ?_, by decide, rfl, rfl, rfl, ?_⟩ h) ?_
  · repeat' (first | exact trivial | exact rfl | refine And.intro ?_ ?_)
  · repeat' (first | exact trivial | exact rfl | refine And.intro ?_ ?_)
  · repeat' (first | exact trivial | refine ⟨⟨_, rfl, ⟨rfl, rfl, .inl rfl, (fun h => by first | exact h | cases h), (fun h => by first | exact h | cases h), fun _ _ => rfl⟩, fun _ _ => rfl⟩, ?_⟩ | refine ⟨⟨_, rfl, ⟨rfl, rfl, .inr rfl, (fun h => by first | exact h | cases h), (fun h => by first | exact h | cases h), fun _ _ => rfl⟩, fun _ _ => rfl⟩, ?_⟩ | refine ⟨⟨_, rfl, ⟨rfl, rfl, .inr rfl, (fun h => by first | exact h | cases h), (fun h => by first | exact h | cases h), fun i hi => absurd hi (Nat.not_lt_zero i)⟩, fun i hi => absurd hi (Nat.not_lt_zero i)⟩, ?_⟩ | refine ⟨⟨_, rfl, ⟨rfl, rfl, .inl rfl, (fun h => by first | exact h | cases h), (fun h => by first | exact h | cases h), fun i hi => ren_closed (hQc i hi)⟩, fun i hi => inn_closed (hQc i hi)⟩, ?_⟩)
  · repeat' (first | exact trivial | exact rfl | refine And.intro ?_ ?_)
  rintro k hk next
  try dsimp only at hk next ⊢
  by_cases hlt : k < S.length
  · have he : (S.getD k rw0).L = (S2.getD k rw0).L := by rw [← imS_at hlt, ← imS_at (show k < S2.length by omega), h]
    have hq := fun W' : Base => @sameWYes W' [] [some (rowWs S), some (rowWs S2)] _ _ he (hs _ (getD_mem' hlt))
    refine SG.walk tab_ok mx 400 [true, false] [hdB true] ?_
    conv => whnf
    try dsimp only [rowL, rowN, growOk, hiN, fromL, tightN, maxOk]
    refine ⟨?_, ?_⟩
    · repeat' apply And.intro
      all_goals first
        | exact hq _
        | trivial
        | rfl
        | omega
        | ((try dsimp only [rowL, rowN]); simp only [beq_iff_eq, beq_eq_false_iff_ne, bne_iff_ne, bne_eq_false_iff_eq, decide_eq_true_eq, decide_eq_false_iff_not, ne_eq, Bool.not_eq_true', Bool.not_eq_false', Bool.not_eq_eq_eq_not, Bool.not_true, Bool.not_false, Option.some.injEq, Option.getD_some, Option.getD_none]; omega)
        | (simp; done)
        | (simp; omega)
    rw [wI (x := (k : Int) + 1) (by omega) (by omega)]
    refine SG.sub [] [0, 1] ⟨?_, ?_, ?_, by decide, rfl, rfl, rfl, ?_⟩ (next (k + 1) hlt (by omega))
    · repeat' (first | exact trivial | exact rfl | refine And.intro ?_ ?_)
    · repeat' (first | exact trivial | exact rfl | refine And.intro ?_ ?_)
    · repeat' (first | exact trivial | refine ⟨⟨_, rfl, ⟨rfl, rfl, .inl rfl, (fun h => by first | exact h | cases h), (fun h => by first | exact h | cases h), fun _ _ => rfl⟩, fun _ _ => rfl⟩, ?_⟩ | refine ⟨⟨_, rfl, ⟨rfl, rfl, .inr rfl, (fun h => by first | exact h | cases h), (fun h => by first | exact h | cases h), fun _ _ => rfl⟩, fun _ _ => rfl⟩, ?_⟩ | refine ⟨⟨_, rfl, ⟨rfl, rfl, .inr rfl, (fun h => by first | exact h | cases h), (fun h => by first | exact h | cases h), fun i hi => absurd hi (Nat.not_lt_zero i)⟩, fun i hi => absurd hi (Nat.not_lt_zero i)⟩, ?_⟩ | refine ⟨⟨_, rfl, ⟨rfl, rfl, .inl rfl, (fun h => by first | exact h | cases h), (fun h => by first | exact h | cases h), fun i hi => ren_closed (hQc i hi)⟩, fun i hi => inn_closed (hQc i hi)⟩, ?_⟩)
    · repeat' (first | exact trivial | exact rfl | refine And.intro ?_ ?_)
  · refine SG.walk tab_ok mx 400 [false] [] ?_
    conv => whnf
    try dsimp only [rowL, rowN, growOk, hiN, fromL, tightN, maxOk]
    refine ⟨?_, ?_⟩
    · repeat' apply And.intro
      all_goals first
        | trivial
        | rfl
        | omega
        | ((try dsimp only [rowL, rowN]); simp only [beq_iff_eq, beq_eq_false_iff_ne, bne_iff_ne, bne_eq_false_iff_eq, decide_eq_true_eq, decide_eq_false_iff_not, ne_eq, Bool.not_eq_true', Bool.not_eq_false', Bool.not_eq_eq_eq_not, Bool.not_true, Bool.not_false, Option.some.injEq, Option.getD_some, Option.getD_none]; omega)
        | (simp; done)
        | (simp; omega)
    refine SG.ret tab_ok Try.func21 rfl ?_
    intro ρ w' v hm hv
    exact Post.mk hm (.cv (.one (.lb true))) [] none [] hv rfl rows0 rfl (by simp)
set_option maxRecDepth 100000 in
theorem eqWsNo {a b : Nat} {RA RB : Row} {S S2 : List RW} (ha : Rs[a]? = some (some RA)) (hA : RowLe RA (rowWs S)) (hb : Rs[b]? = some (some RB)) (hB : RowLe RB (rowWs S2)) (h : ¬ imS S = imS S2) (hl : S.length ≤ 100) (hs : ∀ r ∈ S, r.L.length ≤ 100) : CallOk Try.prog W B Rs 21 [rsV a, rsV b, .cv (.one (.clo 22 []))] (hdB false) := by
  by_cases hll : S.length = S2.length
  · have hln := ln_no hll
    refine CallOk.enter Try.func21 (by kernel_rfl) rfl [a, b] [rowWs S, rowWs S2] [rsV 0, rsV 1, .cv (.one (.clo 22 []))] rfl (rows2 (.ro_ ha hA rfl rfl (fun _ _ => rfl)) (.ro_ hb hB rfl rfl (fun _ _ => rfl))) (fun r h => by cases h) rfl rfl ?_
    intro w blk hblk
    refine SG.walk tab_ok mx 400 [false] [] ?_
    conv => whnf
    try dsimp only [rowL, rowN, growOk, hiN, fromL, tightN, maxOk]
    refine ⟨?_, ?_⟩
    · repeat' apply And.intro
      all_goals first
        | exact hln
        | trivial
        | rfl
        | omega
        | ((try dsimp only [rowL, rowN]); simp only [beq_iff_eq, beq_eq_false_iff_ne, bne_iff_ne, bne_eq_false_iff_eq, decide_eq_true_eq, decide_eq_false_iff_not, ne_eq, Bool.not_eq_true', Bool.not_eq_false', Bool.not_eq_eq_eq_not, Bool.not_true, Bool.not_false, Option.some.injEq, Option.getD_some, Option.getD_none]; omega)
        | (simp; done)
        | (simp; omega)
    refine SG.loop (fun k : Nat => ⟨puts (List.replicate (Try.f21).ntmps .any) [(1, rsV 1), (2, .cv (.one (.clo 22 []))), (15, rsV 0), (16, intV S.length), (17, intV k)], [], [some (rowWs S), some (rowWs S2)], []⟩) (fun k => k ≤ S.length ∧ (imS S).take k = (imS S2).take k) (fun k => S.length - k) (0) (⟨Nat.zero_le _, rfl⟩) (fun h => SG.sub [] [0, 1] ⟨?_, ?_, ?_, by decide, rfl, rfl, rfl, ?_⟩ h) ?_
    · repeat' (first | exact trivial | exact rfl | refine And.intro ?_ ?_)
    · repeat' (first | exact trivial | exact rfl | refine And.intro ?_ ?_)
    · repeat' (first | exact trivial | refine ⟨⟨_, rfl, ⟨rfl, rfl, .inl rfl, (fun h => by first | exact h | cases h), (fun h => by first | exact h | cases h), fun _ _ => rfl⟩, fun _ _ => rfl⟩, ?_⟩ | refine ⟨⟨_, rfl, ⟨rfl, rfl, .inr rfl, (fun h => by first | exact h | cases h), (fun h => by first | exact h | cases h), fun _ _ => rfl⟩, fun _ _ => rfl⟩, ?_⟩ | refine ⟨⟨_, rfl, ⟨rfl, rfl, .inr rfl, (fun h => by first | exact h | cases h), (fun h => by first | exact h | cases h), fun i hi => absurd hi (Nat.not_lt_zero i)⟩, fun i hi => absurd hi (Nat.not_lt_zero i)⟩, ?_⟩ | refine ⟨⟨_, rfl, ⟨rfl, rfl, .inl rfl, (fun h => by first | exact h | cases h), (fun h => by first | exact h | cases h), fun i hi => ren_closed (hQc i hi)⟩, fun i hi => inn_closed (hQc i hi)⟩, ?_⟩)
    · repeat' (first | exact trivial | exact rfl | refine And.intro ?_ ?_)
    rintro k ⟨hk, hp⟩ next
    try dsimp only at hk hp next ⊢
    by_cases hlt : k < S.length
    · by_cases he : (S.getD k rw0).L = (S2.getD k rw0).L
      · have hq := fun W' : Base => @sameWYes W' [] [some (rowWs S), some (rowWs S2)] _ _ he (hs _ (getD_mem' hlt))
        refine SG.walk tab_ok mx 400 [true, false] [hdB true] ?_
        conv => whnf
        try dsimp only [rowL, rowN, growOk, hiN, fromL, tightN, maxOk]
        refine ⟨?_, ?_⟩
        · repeat' apply And.intro
          all_goals first
            | exact hq _
            | trivial
            | rfl
            | omega
            | ((try dsimp only [rowL, rowN]); simp only [beq_iff_eq, beq_eq_false_iff_ne, bne_iff_ne, bne_eq_false_iff_eq, decide_eq_true_eq, decide_eq_false_iff_not, ne_eq, Bool.not_eq_true', Bool.not_eq_false', Bool.not_eq_eq_eq_not, Bool.not_true, Bool.not_false, Option.some.injEq, Option.getD_some, Option.getD_none]; omega)
            | (simp; done)
            | (simp; omega)
        rw [wI (x := (k : Int) + 1) (by omega) (by omega)]
        refine SG.sub [] [0, 1] ⟨?_, ?_, ?_, by decide, rfl, rfl, rfl, ?_⟩ (next (k + 1) ⟨hlt, take_eq_succ (d := []) hp (by simpa using hlt) (by simpa using hll) (by rw [imS_at hlt, imS_at (show k < S2.length by omega)]; exact he)⟩ (by omega))
        · repeat' (first | exact trivial | exact rfl | refine And.intro ?_ ?_)
        · repeat' (first | exact trivial | exact rfl | refine And.intro ?_ ?_)
        · repeat' (first | exact trivial | refine ⟨⟨_, rfl, ⟨rfl, rfl, .inl rfl, (fun h => by first | exact h | cases h), (fun h => by first | exact h | cases h), fun _ _ => rfl⟩, fun _ _ => rfl⟩, ?_⟩ | refine ⟨⟨_, rfl, ⟨rfl, rfl, .inr rfl, (fun h => by first | exact h | cases h), (fun h => by first | exact h | cases h), fun _ _ => rfl⟩, fun _ _ => rfl⟩, ?_⟩ | refine ⟨⟨_, rfl, ⟨rfl, rfl, .inr rfl, (fun h => by first | exact h | cases h), (fun h => by first | exact h | cases h), fun i hi => absurd hi (Nat.not_lt_zero i)⟩, fun i hi => absurd hi (Nat.not_lt_zero i)⟩, ?_⟩ | refine ⟨⟨_, rfl, ⟨rfl, rfl, .inl rfl, (fun h => by first | exact h | cases h), (fun h => by first | exact h | cases h), fun i hi => ren_closed (hQc i hi)⟩, fun i hi => inn_closed (hQc i hi)⟩, ?_⟩)
        · repeat' (first | exact trivial | exact rfl | refine And.intro ?_ ?_)
      · have hq := fun W' : Base => @sameWNo W' [] [some (rowWs S), some (rowWs S2)] _ _ he (hs _ (getD_mem' hlt))
        refine SG.walk tab_ok mx 400 [true, true] [hdB false] ?_
        conv => whnf
        try dsimp only [rowL, rowN, growOk, hiN, fromL, tightN, maxOk]
        refine ⟨?_, ?_⟩
        · repeat' apply And.intro
          all_goals first
            | exact hq _
            | trivial
            | rfl
            | omega
            | ((try dsimp only [rowL, rowN]); simp only [beq_iff_eq, beq_eq_false_iff_ne, bne_iff_ne, bne_eq_false_iff_eq, decide_eq_true_eq, decide_eq_false_iff_not, ne_eq, Bool.not_eq_true', Bool.not_eq_false', Bool.not_eq_eq_eq_not, Bool.not_true, Bool.not_false, Option.some.injEq, Option.getD_some, Option.getD_none]; omega)
            | (simp; done)
            | (simp; omega)
        refine SG.ret tab_ok Try.func21 rfl ?_
        intro ρ w' v hm hv
        exact Post.mk hm (.cv (.one (.lb false))) [] none [] hv rfl rows0 rfl (by simp)
    · exact absurd (take_all_eq hp (by simpa using hlt) (by simpa using hll)) h
  · have hln := ln_yes hll
    refine CallOk.enter Try.func21 (by kernel_rfl) rfl [a, b] [rowWs S, rowWs S2] [rsV 0, rsV 1, .cv (.one (.clo 22 []))] rfl (rows2 (.ro_ ha hA rfl rfl (fun _ _ => rfl)) (.ro_ hb hB rfl rfl (fun _ _ => rfl))) (fun r h => by cases h) rfl rfl ?_
    intro w blk hblk
    refine SG.walk tab_ok mx 400 [true] [] ?_
    conv => whnf
    try dsimp only [rowL, rowN, growOk, hiN, fromL, tightN, maxOk]
    refine ⟨?_, ?_⟩
    · repeat' apply And.intro
      all_goals first
        | exact hln
        | trivial
        | rfl
        | omega
        | ((try dsimp only [rowL, rowN]); simp only [beq_iff_eq, beq_eq_false_iff_ne, bne_iff_ne, bne_eq_false_iff_eq, decide_eq_true_eq, decide_eq_false_iff_not, ne_eq, Bool.not_eq_true', Bool.not_eq_false', Bool.not_eq_eq_eq_not, Bool.not_true, Bool.not_false, Option.some.injEq, Option.getD_some, Option.getD_none]; omega)
        | (simp; done)
        | (simp; omega)
    refine SG.ret tab_ok Try.func21 rfl ?_
    intro ρ w' v hm hv
    exact Post.mk hm (.cv (.one (.lb false))) [] none [] hv rfl rows0 rfl (by simp)
end
end Go.Proofs.Ytlbldfdkicofdaa
