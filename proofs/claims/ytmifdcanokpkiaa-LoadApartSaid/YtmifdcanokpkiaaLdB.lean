/- Which images are the same. -/
import Derived.Test.YtmifdcanokpkiaaLdA
namespace Go.Proofs.Ytmifdcanokpkiaa
open Go.Sx Go.RowKit
set_option linter.unusedVariables false
set_option linter.unusedSimpArgs false
abbrev cloV (f : FuncId) : SV := .cv (.one (.clo f []))
def eqB (m n : ByteArray) : Bool := m.toList == n.toList
theorem eqB_iff {m n : ByteArray} : eqB m n = true ↔ m = n := by
  unfold eqB
  rw [beq_iff_eq]
  refine ⟨fun h => ?_, fun h => by rw [h]⟩
  rw [ByteArray.toList_eq, ByteArray.toList_eq] at h
  exact ByteArray.ext (Array.toList_inj.1 h)
theorem take_all_eq {α : Type} {L M : List α} {k : Nat} (h : L.take k = M.take k) (hk : ¬ k < L.length) (hl : L.length = M.length) : L = M := by
  rwa [List.take_of_length_le (by omega), List.take_of_length_le (by omega)] at h
theorem take_eq_succ {α : Type} {L M : List α} {k : Nat} {d : α} (h : L.take k = M.take k) (hk : k < L.length) (hl : L.length = M.length) (he : L.getD k d = M.getD k d) : L.take (k + 1) = M.take (k + 1) := by
  rw [take_snoc (d := d) hk, take_snoc (d := d) (by omega), h, he]
/-- The images of rows. -/
abbrev imS (S : List RS) : List (List ByteArray) := S.map RV.L
theorem imS_at {S : List RS} {k : Nat} (h : k < S.length) : (imS S).getD k [] = (S.getD k rs0).L := by
  simp [List.getD_eq_getElem?_getD, List.getElem?_eq_getElem h]
section
variable {W : Base} {B : List (Option (List At))} {Rs : List (Option Row)}
set_option maxRecDepth 100000 in
theorem eqStr {m n : ByteArray} : CallOk Try.prog W B Rs 10 [strV m, strV n] (hdV (eqB m n)) := by
  refine CallOk.enter Try.func10 (by kernel_rfl) rfl [] [] [strV m, strV n] rfl (fun _ _ _ h => by simp at h) (fun r h => by cases h) rfl rfl ?_
  intro w blk hblk
  refine SG.walk tab_ok mx 400 [] [] ?_
  conv => whnf
  try dsimp only [rowL, rowN, growOk, hiN, fromL, tightN, maxOk]
  refine ⟨?_, ?_⟩
  · repeat' apply And.intro
    all_goals first
      | trivial
      | rfl
      | omega
      | ((try dsimp only [rowL, rowN]); simp only [beq_iff_eq, beq_eq_false_iff_ne, bne_iff_ne, bne_eq_false_iff_eq, decide_eq_true_eq, decide_eq_false_iff_not, ne_eq, Bool.not_eq_true', Bool.not_eq_false', Bool.not_eq_eq_eq_not, Bool.not_true, Bool.not_false, Option.some.injEq, Option.getD_some, Option.getD_none]; omega)
      | (simp; done)
      | (simp; omega)
  refine SG.ret tab_ok Try.func10 rfl ?_
  intro ρ w' v hm hv
  exact Post.mk hm (.cv (.one (.v (.bool (eqB m n))))) [] none [] hv rfl rows0 rfl (by simp)
theorem eqStrB {m n : ByteArray} {b : Bool} (h : eqB m n = b) : CallOk Try.prog W B Rs 10 [strV m, strV n] (hdV b) := h ▸ eqStr
set_option maxRecDepth 100000 in
theorem alike1Yes {x y : RS} (h : x.L = y.L) (h8 : x.L.length ≤ 8) : CallOk Try.prog W B Rs 9 [roV x, roV y, cloV 10] (hdB true) := by
  have hll : x.L.length = y.L.length := by rw [h]
  refine CallOk.enter Try.func9 (by kernel_rfl) rfl [] [] [roV x, roV y, cloV 10] rfl (fun _ _ _ h => by simp at h) (fun r h => by cases h) rfl rfl ?_
  intro w blk hblk
  refine SG.walk tab_ok mx 400 [false] [] ?_
  conv => whnf
  try dsimp only [rowL, rowN, growOk, hiN, fromL, tightN, maxOk]
  refine ⟨?_, ?_⟩
  · repeat' apply And.intro
    all_goals first
      | exact (by simpa using hll)
      | trivial
      | rfl
      | omega
      | ((try dsimp only [rowL, rowN]); simp only [beq_iff_eq, beq_eq_false_iff_ne, bne_iff_ne, bne_eq_false_iff_eq, decide_eq_true_eq, decide_eq_false_iff_not, ne_eq, Bool.not_eq_true', Bool.not_eq_false', Bool.not_eq_eq_eq_not, Bool.not_true, Bool.not_false, Option.some.injEq, Option.getD_some, Option.getD_none]; omega)
      | (simp; done)
      | (simp; omega)
  refine SG.loop (fun k : Nat => ⟨puts (List.replicate (Try.f9).ntmps .any) [(0, roV x), (1, roV y), (2, cloV 10), (14, intV x.L.length), (15, intV k)], [], [], []⟩) (fun k => k ≤ x.L.length) (fun k => x.L.length - k) (0) (Nat.zero_le _) (fun h => SG.sub [] [] ⟨?_, ?_, ?_, by decide, rfl, rfl, rfl, ?_⟩ h) ?_
  · repeat' (first | exact trivial | exact rfl | refine And.intro ?_ ?_)
  · repeat' (first | exact trivial | exact rfl | refine And.intro ?_ ?_)
  · repeat' (first | exact trivial | refine ⟨⟨_, rfl, ⟨rfl, rfl, .inl rfl, (fun h => by first | exact h | cases h), (fun h => by first | exact h | cases h), fun _ _ => rfl⟩, fun _ _ => rfl⟩, ?_⟩ | refine ⟨⟨_, rfl, ⟨rfl, rfl, .inr rfl, (fun h => by first | exact h | cases h), (fun h => by first | exact h | cases h), fun _ _ => rfl⟩, fun _ _ => rfl⟩, ?_⟩ | refine ⟨⟨_, rfl, ⟨rfl, rfl, .inr rfl, (fun h => by first | exact h | cases h), (fun h => by first | exact h | cases h), fun i hi => absurd hi (Nat.not_lt_zero i)⟩, fun i hi => absurd hi (Nat.not_lt_zero i)⟩, ?_⟩ | refine ⟨⟨_, rfl, ⟨rfl, rfl, .inl rfl, (fun h => by first | exact h | cases h), (fun h => by first | exact h | cases h), fun i hi => ren_closed (hQc i hi)⟩, fun i hi => inn_closed (hQc i hi)⟩, ?_⟩)
  · repeat' (first | exact trivial | exact rfl | refine And.intro ?_ ?_)
  rintro k hk next
  try dsimp only at hk next ⊢
  by_cases hlt : k < x.L.length
  · have he : x.L.getD k s0 = y.L.getD k s0 := by rw [h]
    refine SG.walk tab_ok mx 400 [true, false] [hdV true] ?_
    conv => whnf
    try dsimp only [rowL, rowN, growOk, hiN, fromL, tightN, maxOk]
    refine ⟨?_, ?_⟩
    · repeat' apply And.intro
      all_goals first
        | exact eqStrB (eqB_iff.2 he)
        | trivial
        | rfl
        | omega
        | ((try dsimp only [rowL, rowN]); simp only [beq_iff_eq, beq_eq_false_iff_ne, bne_iff_ne, bne_eq_false_iff_eq, decide_eq_true_eq, decide_eq_false_iff_not, ne_eq, Bool.not_eq_true', Bool.not_eq_false', Bool.not_eq_eq_eq_not, Bool.not_true, Bool.not_false, Option.some.injEq, Option.getD_some, Option.getD_none]; omega)
        | (simp; done)
        | (simp; omega)
    rw [wI (x := (k : Int) + 1) (by omega) (by omega)]
    refine SG.sub [] [] ⟨?_, ?_, ?_, by decide, rfl, rfl, rfl, ?_⟩ (next (k + 1) hlt (by omega))
    · repeat' (first | exact trivial | exact rfl | refine And.intro ?_ ?_)
    · repeat' (first | exact trivial | exact rfl | refine And.intro ?_ ?_)
    · repeat' (first | exact trivial | refine ⟨⟨_, rfl, ⟨rfl, rfl, .inl rfl, (fun h => by first | exact h | cases h), (fun h => by first | exact h | cases h), fun _ _ => rfl⟩, fun _ _ => rfl⟩, ?_⟩ | refine ⟨⟨_, rfl, ⟨rfl, rfl, .inr rfl, (fun h => by first | exact h | cases h), (fun h => by first | exact h | cases h), fun _ _ => rfl⟩, fun _ _ => rfl⟩, ?_⟩ | refine ⟨⟨_, rfl, ⟨rfl, rfl, .inr rfl, (fun h => by first | exact h | cases h), (fun h => by first | exact h | cases h), fun i hi => absurd hi (Nat.not_lt_zero i)⟩, fun i hi => absurd hi (Nat.not_lt_zero i)⟩, ?_⟩ | refine ⟨⟨_, rfl, ⟨rfl, rfl, .inl rfl, (fun h => by first | exact h | cases h), (fun h => by first | exact h | cases h), fun i hi => ren_closed (hQc i hi)⟩, fun i hi => inn_closed (hQc i hi)⟩, ?_⟩)
    · repeat' (first | exact trivial | exact rfl | refine And.intro ?_ ?_)
  · refine SG.walk tab_ok mx 400 [false] [] ?_
    conv => whnf
    try dsimp only [rowL, rowN, growOk, hiN, fromL, tightN, maxOk]
    refine ⟨?_, ?_⟩
    · repeat' apply And.intro
      all_goals first
        | trivial
        | rfl
        | omega
        | ((try dsimp only [rowL, rowN]); simp only [beq_iff_eq, beq_eq_false_iff_ne, bne_iff_ne, bne_eq_false_iff_eq, decide_eq_true_eq, decide_eq_false_iff_not, ne_eq, Bool.not_eq_true', Bool.not_eq_false', Bool.not_eq_eq_eq_not, Bool.not_true, Bool.not_false, Option.some.injEq, Option.getD_some, Option.getD_none]; omega)
        | (simp; done)
        | (simp; omega)
    refine SG.ret tab_ok Try.func9 rfl ?_
    intro ρ w' v hm hv
    exact Post.mk hm (.cv (.one (.lb true))) [] none [] hv rfl rows0 rfl (by simp)
set_option maxRecDepth 100000 in
theorem alike1No {x y : RS} (h : ¬ x.L = y.L) (h8 : x.L.length ≤ 8) : CallOk Try.prog W B Rs 9 [roV x, roV y, cloV 10] (hdB false) := by
  by_cases hll : x.L.length = y.L.length
  · refine CallOk.enter Try.func9 (by kernel_rfl) rfl [] [] [roV x, roV y, cloV 10] rfl (fun _ _ _ h => by simp at h) (fun r h => by cases h) rfl rfl ?_
    intro w blk hblk
    refine SG.walk tab_ok mx 400 [false] [] ?_
    conv => whnf
    try dsimp only [rowL, rowN, growOk, hiN, fromL, tightN, maxOk]
    refine ⟨?_, ?_⟩
    · repeat' apply And.intro
      all_goals first
        | exact (by simpa using hll)
        | trivial
        | rfl
        | omega
        | ((try dsimp only [rowL, rowN]); simp only [beq_iff_eq, beq_eq_false_iff_ne, bne_iff_ne, bne_eq_false_iff_eq, decide_eq_true_eq, decide_eq_false_iff_not, ne_eq, Bool.not_eq_true', Bool.not_eq_false', Bool.not_eq_eq_eq_not, Bool.not_true, Bool.not_false, Option.some.injEq, Option.getD_some, Option.getD_none]; omega)
        | (simp; done)
        | (simp; omega)
    refine SG.loop (fun k : Nat => ⟨puts (List.replicate (Try.f9).ntmps .any) [(0, roV x), (1, roV y), (2, cloV 10), (14, intV x.L.length), (15, intV k)], [], [], []⟩) (fun k => k ≤ x.L.length ∧ (x.L).take k = (y.L).take k) (fun k => x.L.length - k) (0) (⟨Nat.zero_le _, rfl⟩) (fun h => SG.sub [] [] ⟨?_, ?_, ?_, by decide, rfl, rfl, rfl, ?_⟩ h) ?_
    · repeat' (first | exact trivial | exact rfl | refine And.intro ?_ ?_)
    · repeat' (first | exact trivial | exact rfl | refine And.intro ?_ ?_)
    · repeat' (first | exact trivial | refine ⟨⟨_, rfl, ⟨rfl, rfl, .inl rfl, (fun h => by first | exact h | cases h), (fun h => by first | exact h | cases h), fun _ _ => rfl⟩, fun _ _ => rfl⟩, ?_⟩ | refine ⟨⟨_, rfl, ⟨rfl, rfl, .inr rfl, (fun h => by first | exact h | cases h), (fun h => by first | exact h | cases h), fun _ _ => rfl⟩, fun _ _ => rfl⟩, ?_⟩ | refine ⟨⟨_, rfl, ⟨rfl, rfl, .inr rfl, (fun h => by first | exact h | cases h), (fun h => by first | exact h | cases h), fun i hi => absurd hi (Nat.not_lt_zero i)⟩, fun i hi => absurd hi (Nat.not_lt_zero i)⟩, ?_⟩ | refine ⟨⟨_, rfl, ⟨rfl, rfl, .inl rfl, (fun h => by first | exact h | cases h), (fun h => by first | exact h | cases h), fun i hi => ren_closed (hQc i hi)⟩, fun i hi => inn_closed (hQc i hi)⟩, ?_⟩)
    · repeat' (first | exact trivial | exact rfl | refine And.intro ?_ ?_)
    rintro k ⟨hk, hp⟩ next
    try dsimp only at hk hp next ⊢
    by_cases hlt : k < x.L.length
    · by_cases he : x.L.getD k s0 = y.L.getD k s0
      · refine SG.walk tab_ok mx 400 [true, false] [hdV true] ?_
        conv => whnf
        try dsimp only [rowL, rowN, growOk, hiN, fromL, tightN, maxOk]
        refine ⟨?_, ?_⟩
        · repeat' apply And.intro
          all_goals first
            | exact eqStrB (eqB_iff.2 he)
            | trivial
            | rfl
            | omega
            | ((try dsimp only [rowL, rowN]); simp only [beq_iff_eq, beq_eq_false_iff_ne, bne_iff_ne, bne_eq_false_iff_eq, decide_eq_true_eq, decide_eq_false_iff_not, ne_eq, Bool.not_eq_true', Bool.not_eq_false', Bool.not_eq_eq_eq_not, Bool.not_true, Bool.not_false, Option.some.injEq, Option.getD_some, Option.getD_none]; omega)
            | (simp; done)
            | (simp; omega)
        rw [wI (x := (k : Int) + 1) (by omega) (by omega)]
        refine SG.sub [] [] ⟨?_, ?_, ?_, by decide, rfl, rfl, rfl, ?_⟩ (next (k + 1) ⟨hlt, take_eq_succ (d := s0) hp hlt hll he⟩ (by omega))
        · repeat' (first | exact trivial | exact rfl | refine And.intro ?_ ?_)
        · repeat' (first | exact trivial | exact rfl | refine And.intro ?_ ?_)
        · repeat' (first | exact trivial | refine ⟨⟨_, rfl, ⟨rfl, rfl, .inl rfl, (fun h => by first | exact h | cases h), (fun h => by first | exact h | cases h), fun _ _ => rfl⟩, fun _ _ => rfl⟩, ?_⟩ | refine ⟨⟨_, rfl, ⟨rfl, rfl, .inr rfl, (fun h => by first | exact h | cases h), (fun h => by first | exact h | cases h), fun _ _ => rfl⟩, fun _ _ => rfl⟩, ?_⟩ | refine ⟨⟨_, rfl, ⟨rfl, rfl, .inr rfl, (fun h => by first | exact h | cases h), (fun h => by first | exact h | cases h), fun i hi => absurd hi (Nat.not_lt_zero i)⟩, fun i hi => absurd hi (Nat.not_lt_zero i)⟩, ?_⟩ | refine ⟨⟨_, rfl, ⟨rfl, rfl, .inl rfl, (fun h => by first | exact h | cases h), (fun h => by first | exact h | cases h), fun i hi => ren_closed (hQc i hi)⟩, fun i hi => inn_closed (hQc i hi)⟩, ?_⟩)
        · repeat' (first | exact trivial | exact rfl | refine And.intro ?_ ?_)
      · refine SG.walk tab_ok mx 400 [true, true] [hdV false] ?_
        conv => whnf
        try dsimp only [rowL, rowN, growOk, hiN, fromL, tightN, maxOk]
        refine ⟨?_, ?_⟩
        · repeat' apply And.intro
          all_goals first
            | exact eqStrB (Bool.eq_false_iff.2 (fun h => he (eqB_iff.1 h)))
            | trivial
            | rfl
            | omega
            | ((try dsimp only [rowL, rowN]); simp only [beq_iff_eq, beq_eq_false_iff_ne, bne_iff_ne, bne_eq_false_iff_eq, decide_eq_true_eq, decide_eq_false_iff_not, ne_eq, Bool.not_eq_true', Bool.not_eq_false', Bool.not_eq_eq_eq_not, Bool.not_true, Bool.not_false, Option.some.injEq, Option.getD_some, Option.getD_none]; omega)
            | (simp; done)
            | (simp; omega)
        refine SG.ret tab_ok Try.func9 rfl ?_
        intro ρ w' v hm hv
        exact Post.mk hm (.cv (.one (.lb false))) [] none [] hv rfl rows0 rfl (by simp)
    · exact absurd (take_all_eq hp (by simpa using hlt) hll) h
  · refine CallOk.enter Try.func9 (by kernel_rfl) rfl [] [] [roV x, roV y, cloV 10] rfl (fun _ _ _ h => by simp at h) (fun r h => by cases h) rfl rfl ?_
    intro w blk hblk
    refine SG.walk tab_ok mx 400 [true] [] ?_
    conv => whnf
    try dsimp only [rowL, rowN, growOk, hiN, fromL, tightN, maxOk]
    refine ⟨?_, ?_⟩
    · repeat' apply And.intro
      all_goals first
        | exact (by simpa using hll)
        | trivial
        | rfl
        | omega
        | ((try dsimp only [rowL, rowN]); simp only [beq_iff_eq, beq_eq_false_iff_ne, bne_iff_ne, bne_eq_false_iff_eq, decide_eq_true_eq, decide_eq_false_iff_not, ne_eq, Bool.not_eq_true', Bool.not_eq_false', Bool.not_eq_eq_eq_not, Bool.not_true, Bool.not_false, Option.some.injEq, Option.getD_some, Option.getD_none]; omega)
        | (simp; done)
        | (simp; omega)
    refine SG.ret tab_ok Try.func9 rfl ?_
    intro ρ w' v hm hv
    exact Post.mk hm (.cv (.one (.lb false))) [] none [] hv rfl rows0 rfl (by simp)
set_option maxRecDepth 100000 in
theorem sameYes {x y : RS} (h : x.L = y.L) (h8 : x.L.length ≤ 8) : CallOk Try.prog W B Rs 8 [roV x, roV y] (hdB true) := by
  refine CallOk.enter Try.func8 (by kernel_rfl) rfl [] [] [roV x, roV y] rfl (fun _ _ _ h => by simp at h) (fun r h => by cases h) rfl rfl ?_
  intro w blk hblk
  refine SG.walk tab_ok mx 400 [] [hdB true] ?_
  conv => whnf
  try dsimp only [rowL, rowN, growOk, hiN, fromL, tightN, maxOk]
  refine ⟨?_, ?_⟩
  · repeat' apply And.intro
    all_goals first
      | exact alike1Yes h h8
      | trivial
      | rfl
      | omega
      | ((try dsimp only [rowL, rowN]); simp only [beq_iff_eq, beq_eq_false_iff_ne, bne_iff_ne, bne_eq_false_iff_eq, decide_eq_true_eq, decide_eq_false_iff_not, ne_eq, Bool.not_eq_true', Bool.not_eq_false', Bool.not_eq_eq_eq_not, Bool.not_true, Bool.not_false, Option.some.injEq, Option.getD_some, Option.getD_none]; omega)
      | (simp; done)
      | (simp; omega)
  refine SG.ret tab_ok Try.func8 rfl ?_
  intro ρ w' v hm hv
  exact Post.mk hm (.cv (.one (.lb true))) [] none [] hv rfl rows0 rfl (by simp)
set_option maxRecDepth 100000 in
theorem sameNo {x y : RS} (h : ¬ x.L = y.L) (h8 : x.L.length ≤ 8) : CallOk Try.prog W B Rs 8 [roV x, roV y] (hdB false) := by
  refine CallOk.enter Try.func8 (by kernel_rfl) rfl [] [] [roV x, roV y] rfl (fun _ _ _ h => by simp at h) (fun r h => by cases h) rfl rfl ?_
  intro w blk hblk
  refine SG.walk tab_ok mx 400 [] [hdB false] ?_
  conv => whnf
  try dsimp only [rowL, rowN, growOk, hiN, fromL, tightN, maxOk]
  refine ⟨?_, ?_⟩
  · repeat' apply And.intro
    all_goals first
      | exact alike1No h h8
      | trivial
      | rfl
      | omega
      | ((try dsimp only [rowL, rowN]); simp only [beq_iff_eq, beq_eq_false_iff_ne, bne_iff_ne, bne_eq_false_iff_eq, decide_eq_true_eq, decide_eq_false_iff_not, ne_eq, Bool.not_eq_true', Bool.not_eq_false', Bool.not_eq_eq_eq_not, Bool.not_true, Bool.not_false, Option.some.injEq, Option.getD_some, Option.getD_none]; omega)
      | (simp; done)
      | (simp; omega)
  refine SG.ret tab_ok Try.func8 rfl ?_
  intro ρ w' v hm hv
  exact Post.mk hm (.cv (.one (.lb false))) [] none [] hv rfl rows0 rfl (by simp)
set_option maxRecDepth 100000 in
theorem alike2Yes {a b : Nat} {RA RB : Row} {S S2 : List RS} (ha : Rs[a]? = some (some RA)) (hA : RowLe RA (rowSs S)) (hb : Rs[b]? = some (some RB)) (hB : RowLe RB (rowSs S2)) (h : imS S = imS S2) (h8 : S.length ≤ 4) (hs : ∀ r ∈ S, r.L.length ≤ 8) : CallOk Try.prog W B Rs 7 [rsV a, rsV b, cloV 8] (hdB true) := by
  have hll : S.length = S2.length := by have := congrArg List.length h; simpa using this
  refine CallOk.enter Try.func7 (by kernel_rfl) rfl [a, b] [rowSs S, rowSs S2] [rsV 0, rsV 1, cloV 8] rfl (rows2 (.ro_ ha hA rfl rfl (fun _ _ => rfl)) (.ro_ hb hB rfl rfl (fun _ _ => rfl))) (fun r h => by cases h) rfl rfl ?_
  intro w blk hblk
  refine SG.walk tab_ok mx 400 [false] [] ?_
  conv => whnf
  try dsimp only [rowL, rowN, growOk, hiN, fromL, tightN, maxOk]
  refine ⟨?_, ?_⟩
  · repeat' apply And.intro
    all_goals first
      | exact (by simpa using hll)
      | trivial
      | rfl
      | omega
      | ((try dsimp only [rowL, rowN]); simp only [beq_iff_eq, beq_eq_false_iff_ne, bne_iff_ne, bne_eq_false_iff_eq, decide_eq_true_eq, decide_eq_false_iff_not, ne_eq, Bool.not_eq_true', Bool.not_eq_false', Bool.not_eq_eq_eq_not, Bool.not_true, Bool.not_false, Option.some.injEq, Option.getD_some, Option.getD_none]; omega)
      | (simp; done)
      | (simp; omega)
  refine SG.loop (fun k : Nat => ⟨puts (List.replicate (Try.f7).ntmps .any) [(0, rsV 0), (1, rsV 1), (2, cloV 8), (14, intV S.length), (15, intV k)], [], [some (rowSs S), some (rowSs S2)], []⟩) (fun k => k ≤ S.length) (fun k => S.length - k) (0) (Nat.zero_le _) (fun h => SG.sub [] [0, 1] ⟨?_, ?_, ?_, by decide, rfl, rfl, rfl, ?_⟩ h) ?_
  · repeat' (first | exact trivial | exact rfl | refine And.intro ?_ ?_)
  · repeat' (first | exact trivial | exact rfl | refine And.intro ?_ ?_)
  · repeat' (first | exact trivial | refine ⟨⟨_, rfl, ⟨rfl, rfl, .inl rfl, (fun h => by first | exact h | cases h), (fun h => by first | exact h | cases h), fun _ _ => rfl⟩, fun _ _ => rfl⟩, ?_⟩ | refine ⟨⟨_, rfl, ⟨rfl, rfl, .inr rfl, (fun h => by first | exact h | cases h), (fun h => by first | exact h | cases h), fun _ _ => rfl⟩, fun _ _ => rfl⟩, ?_⟩ | refine ⟨⟨_, rfl, ⟨rfl, rfl, .inr rfl, (fun h => by first | exact h | cases h), (fun h => by first | exact h | cases h), fun i hi => absurd hi (Nat.not_lt_zero i)⟩, fun i hi => absurd hi (Nat.not_lt_zero i)⟩, ?_⟩ | refine ⟨⟨_, rfl, ⟨rfl, rfl, .inl rfl, (fun h => by first | exact h | cases h), (fun h => by first | exact h | cases h), fun i hi => ren_closed (hQc i hi)⟩, fun i hi => inn_closed (hQc i hi)⟩, ?_⟩)
  · repeat' (first | exact trivial | exact rfl | refine And.intro ?_ ?_)
  rintro k hk next
  try dsimp only at hk next ⊢
  by_cases hlt : k < S.length
  · have he : (S.getD k rs0).L = (S2.getD k rs0).L := by rw [← imS_at hlt, ← imS_at (show k < S2.length by omega), h]
    refine SG.walk tab_ok mx 400 [true, false] [hdB true] ?_
    conv => whnf
    try dsimp only [rowL, rowN, growOk, hiN, fromL, tightN, maxOk]
    refine ⟨?_, ?_⟩
    · repeat' apply And.intro
      all_goals first
        | exact sameYes he (hs _ (getD_mem' hlt))
        | trivial
        | rfl
        | omega
        | ((try dsimp only [rowL, rowN]); simp only [beq_iff_eq, beq_eq_false_iff_ne, bne_iff_ne, bne_eq_false_iff_eq, decide_eq_true_eq, decide_eq_false_iff_not, ne_eq, Bool.not_eq_true', Bool.not_eq_false', Bool.not_eq_eq_eq_not, Bool.not_true, Bool.not_false, Option.some.injEq, Option.getD_some, Option.getD_none]; omega)
        | (simp; done)
        | (simp; omega)
    rw [wI (x := (k : Int) + 1) (by omega) (by omega)]
    refine SG.sub [] [0, 1] ⟨?_, ?_, ?_, by decide, rfl, rfl, rfl, ?_⟩ (next (k + 1) hlt (by omega))
    · repeat' (first | exact trivial | exact rfl | refine And.intro ?_ ?_)
    · repeat' (first | exact trivial | exact rfl | refine And.intro ?_ ?_)
    · repeat' (first | exact trivial | refine ⟨⟨_, rfl, ⟨rfl, rfl, .inl rfl, (fun h => by first | exact h | cases h), (fun h => by first | exact h | cases h), fun _ _ => rfl⟩, fun _ _ => rfl⟩, ?_⟩ | refine ⟨⟨_, rfl, ⟨rfl, rfl, .inr rfl, (fun h => by first | exact h | cases h), (fun h => by first | exact h | cases h), fun _ _ => rfl⟩, fun _ _ => rfl⟩, ?_⟩ | refine ⟨⟨_, rfl, ⟨rfl, rfl, .inr rfl, (fun h => by first | exact h | cases h), (fun h => by first | exact h | cases h), fun i hi => absurd hi (Nat.not_lt_zero i)⟩, fun i hi => absurd hi (Nat.not_lt_zero i)⟩, ?_⟩ | refine ⟨⟨_, rfl, ⟨rfl, rfl, .inl rfl, (fun h => by first | exact h | cases h), (fun h => by first | exact h | cases h), fun i hi => ren_closed (hQc i hi)⟩, fun i hi => inn_closed (hQc i hi)⟩, ?_⟩)
    · repeat' (first | exact trivial | exact rfl | refine And.intro ?_ ?_)
  · refine SG.walk tab_ok mx 400 [false] [] ?_
    conv => whnf
    try dsimp only [rowL, rowN, growOk, hiN, fromL, tightN, maxOk]
    refine ⟨?_, ?_⟩
    · repeat' apply And.intro
      all_goals first
        | trivial
        | rfl
        | omega
        | ((try dsimp only [rowL, rowN]); simp only [beq_iff_eq, beq_eq_false_iff_ne, bne_iff_ne, bne_eq_false_iff_eq, decide_eq_true_eq, decide_eq_false_iff_not, ne_eq, Bool.not_eq_true', Bool.not_eq_false', Bool.not_eq_eq_eq_not, Bool.not_true, Bool.not_false, Option.some.injEq, Option.getD_some, Option.getD_none]; omega)
        | (simp; done)
        | (simp; omega)
    refine SG.ret tab_ok Try.func7 rfl ?_
    intro ρ w' v hm hv
    exact Post.mk hm (.cv (.one (.lb true))) [] none [] hv rfl rows0 rfl (by simp)
set_option maxRecDepth 100000 in
theorem alike2No {a b : Nat} {RA RB : Row} {S S2 : List RS} (ha : Rs[a]? = some (some RA)) (hA : RowLe RA (rowSs S)) (hb : Rs[b]? = some (some RB)) (hB : RowLe RB (rowSs S2)) (h : ¬ imS S = imS S2) (h8 : S.length ≤ 4) (hs : ∀ r ∈ S, r.L.length ≤ 8) : CallOk Try.prog W B Rs 7 [rsV a, rsV b, cloV 8] (hdB false) := by
  by_cases hll : S.length = S2.length
  · refine CallOk.enter Try.func7 (by kernel_rfl) rfl [a, b] [rowSs S, rowSs S2] [rsV 0, rsV 1, cloV 8] rfl (rows2 (.ro_ ha hA rfl rfl (fun _ _ => rfl)) (.ro_ hb hB rfl rfl (fun _ _ => rfl))) (fun r h => by cases h) rfl rfl ?_
    intro w blk hblk
    refine SG.walk tab_ok mx 400 [false] [] ?_
    conv => whnf
    try dsimp only [rowL, rowN, growOk, hiN, fromL, tightN, maxOk]
    refine ⟨?_, ?_⟩
    · repeat' apply And.intro
      all_goals first
        | exact (by simpa using hll)
        | trivial
        | rfl
        | omega
        | ((try dsimp only [rowL, rowN]); simp only [beq_iff_eq, beq_eq_false_iff_ne, bne_iff_ne, bne_eq_false_iff_eq, decide_eq_true_eq, decide_eq_false_iff_not, ne_eq, Bool.not_eq_true', Bool.not_eq_false', Bool.not_eq_eq_eq_not, Bool.not_true, Bool.not_false, Option.some.injEq, Option.getD_some, Option.getD_none]; omega)
        | (simp; done)
        | (simp; omega)
    refine SG.loop (fun k : Nat => ⟨puts (List.replicate (Try.f7).ntmps .any) [(0, rsV 0), (1, rsV 1), (2, cloV 8), (14, intV S.length), (15, intV k)], [], [some (rowSs S), some (rowSs S2)], []⟩) (fun k => k ≤ S.length ∧ (imS S).take k = (imS S2).take k) (fun k => S.length - k) (0) (⟨Nat.zero_le _, rfl⟩) (fun h => SG.sub [] [0, 1] ⟨?_, ?_, ?_, by decide, rfl, rfl, rfl, ?_⟩ h) ?_
    · repeat' (first | exact trivial | exact rfl | refine And.intro ?_ ?_)
    · repeat' (first | exact trivial | exact rfl | refine And.intro ?_ ?_)
    · repeat' (first | exact trivial | refine ⟨⟨_, rfl, ⟨rfl, rfl, .inl rfl, (fun h => by first | exact h | cases h), (fun h => by first | exact h | cases h), fun _ _ => rfl⟩, fun _ _ => rfl⟩, ?_⟩ | refine ⟨⟨_, rfl, ⟨rfl, rfl, .inr rfl, (fun h => by first | exact h | cases h), (fun h => by first | exact h | cases h), fun _ _ => rfl⟩, fun _ _ => rfl⟩, ?_⟩ | refine ⟨⟨_, rfl, ⟨rfl, rfl, .inr rfl, (fun h => by first | exact h | cases h), (fun h => by first | exact h | cases h), fun i hi => absurd hi (Nat.not_lt_zero i)⟩, fun i hi => absurd hi (Nat.not_lt_zero i)⟩, ?_⟩ | refine ⟨⟨_, rfl, ⟨rfl, rfl, .inl rfl, (fun h => by first | exact h | cases h), (fun h => by first | exact h | cases h), fun i hi => ren_closed (hQc i hi)⟩, fun i hi => inn_closed (hQc i hi)⟩, ?_⟩)
    · repeat' (first | exact trivial | exact rfl | refine And.intro ?_ ?_)
    rintro k ⟨hk, hp⟩ next
    try dsimp only at hk hp next ⊢
    by_cases hlt : k < S.length
    · by_cases he : (S.getD k rs0).L = (S2.getD k rs0).L
      · refine SG.walk tab_ok mx 400 [true, false] [hdB true] ?_
        conv => whnf
        try dsimp only [rowL, rowN, growOk, hiN, fromL, tightN, maxOk]
        refine ⟨?_, ?_⟩
        · repeat' apply And.intro
          all_goals first
            | exact sameYes he (hs _ (getD_mem' hlt))
            | trivial
            | rfl
            | omega
            | ((try dsimp only [rowL, rowN]); simp only [beq_iff_eq, beq_eq_false_iff_ne, bne_iff_ne, bne_eq_false_iff_eq, decide_eq_true_eq, decide_eq_false_iff_not, ne_eq, Bool.not_eq_true', Bool.not_eq_false', Bool.not_eq_eq_eq_not, Bool.not_true, Bool.not_false, Option.some.injEq, Option.getD_some, Option.getD_none]; omega)
            | (simp; done)
            | (simp; omega)
        rw [wI (x := (k : Int) + 1) (by omega) (by omega)]
        refine SG.sub [] [0, 1] ⟨?_, ?_, ?_, by decide, rfl, rfl, rfl, ?_⟩ (next (k + 1) ⟨hlt, take_eq_succ (d := []) hp (by simpa using hlt) (by simpa using hll) (by rw [imS_at hlt, imS_at (show k < S2.length by omega)]; exact he)⟩ (by omega))
        · repeat' (first | exact trivial | exact rfl | refine And.intro ?_ ?_)
        · repeat' (first | exact trivial | exact rfl | refine And.intro ?_ ?_)
        · repeat' (first | exact trivial | refine ⟨⟨_, rfl, ⟨rfl, rfl, .inl rfl, (fun h => by first | exact h | cases h), (fun h => by first | exact h | cases h), fun _ _ => rfl⟩, fun _ _ => rfl⟩, ?_⟩ | refine ⟨⟨_, rfl, ⟨rfl, rfl, .inr rfl, (fun h => by first | exact h | cases h), (fun h => by first | exact h | cases h), fun _ _ => rfl⟩, fun _ _ => rfl⟩, ?_⟩ | refine ⟨⟨_, rfl, ⟨rfl, rfl, .inr rfl, (fun h => by first | exact h | cases h), (fun h => by first | exact h | cases h), fun i hi => absurd hi (Nat.not_lt_zero i)⟩, fun i hi => absurd hi (Nat.not_lt_zero i)⟩, ?_⟩ | refine ⟨⟨_, rfl, ⟨rfl, rfl, .inl rfl, (fun h => by first | exact h | cases h), (fun h => by first | exact h | cases h), fun i hi => ren_closed (hQc i hi)⟩, fun i hi => inn_closed (hQc i hi)⟩, ?_⟩)
        · repeat' (first | exact trivial | exact rfl | refine And.intro ?_ ?_)
      · refine SG.walk tab_ok mx 400 [true, true] [hdB false] ?_
        conv => whnf
        try dsimp only [rowL, rowN, growOk, hiN, fromL, tightN, maxOk]
        refine ⟨?_, ?_⟩
        · repeat' apply And.intro
          all_goals first
            | exact sameNo he (hs _ (getD_mem' hlt))
            | trivial
            | rfl
            | omega
            | ((try dsimp only [rowL, rowN]); simp only [beq_iff_eq, beq_eq_false_iff_ne, bne_iff_ne, bne_eq_false_iff_eq, decide_eq_true_eq, decide_eq_false_iff_not, ne_eq, Bool.not_eq_true', Bool.not_eq_false', Bool.not_eq_eq_eq_not, Bool.not_true, Bool.not_false, Option.some.injEq, Option.getD_some, Option.getD_none]; omega)
            | (simp; done)
            | (simp; omega)
        refine SG.ret tab_ok Try.func7 rfl ?_
        intro ρ w' v hm hv
        exact Post.mk hm (.cv (.one (.lb false))) [] none [] hv rfl rows0 rfl (by simp)
    · exact absurd (take_all_eq hp (by simpa using hlt) (by simpa using hll)) h
  · refine CallOk.enter Try.func7 (by kernel_rfl) rfl [a, b] [rowSs S, rowSs S2] [rsV 0, rsV 1, cloV 8] rfl (rows2 (.ro_ ha hA rfl rfl (fun _ _ => rfl)) (.ro_ hb hB rfl rfl (fun _ _ => rfl))) (fun r h => by cases h) rfl rfl ?_
    intro w blk hblk
    refine SG.walk tab_ok mx 400 [true] [] ?_
    conv => whnf
    try dsimp only [rowL, rowN, growOk, hiN, fromL, tightN, maxOk]
    refine ⟨?_, ?_⟩
    · repeat' apply And.intro
      all_goals first
        | exact (by simpa using hll)
        | trivial
        | rfl
        | omega
        | ((try dsimp only [rowL, rowN]); simp only [beq_iff_eq, beq_eq_false_iff_ne, bne_iff_ne, bne_eq_false_iff_eq, decide_eq_true_eq, decide_eq_false_iff_not, ne_eq, Bool.not_eq_true', Bool.not_eq_false', Bool.not_eq_eq_eq_not, Bool.not_true, Bool.not_false, Option.some.injEq, Option.getD_some, Option.getD_none]; omega)
        | (simp; done)
        | (simp; omega)
    refine SG.ret tab_ok Try.func7 rfl ?_
    intro ρ w' v hm hv
    exact Post.mk hm (.cv (.one (.lb false))) [] none [] hv rfl rows0 rfl (by simp)
set_option maxRecDepth 100000 in
theorem sameSYes {a b : Nat} {RA RB : Row} {S S2 : List RS} (ha : Rs[a]? = some (some RA)) (hA : RowLe RA (rowSs S)) (hb : Rs[b]? = some (some RB)) (hB : RowLe RB (rowSs S2)) (h : imS S = imS S2) (h8 : S.length ≤ 4) (hs : ∀ r ∈ S, r.L.length ≤ 8) : CallOk Try.prog W B Rs 6 [rsV a, rsV b] (hdB true) := by
  refine CallOk.enter Try.func6 (by kernel_rfl) rfl [a, b] [rowSs S, rowSs S2] [rsV 0, rsV 1] rfl (rows2 (.ro_ ha hA rfl rfl (fun _ _ => rfl)) (.ro_ hb hB rfl rfl (fun _ _ => rfl))) (fun r h => by cases h) rfl rfl ?_
  intro w blk hblk
  refine SG.walk tab_ok mx 400 [] [hdB true] ?_
  conv => whnf
  try dsimp only [rowL, rowN, growOk, hiN, fromL, tightN, maxOk]
  refine ⟨?_, ?_⟩
  · repeat' apply And.intro
    all_goals first
      | exact alike2Yes rfl (.of rfl rfl (fun _ _ => rfl)) rfl (.of rfl rfl (fun _ _ => rfl)) h h8 hs
      | trivial
      | rfl
      | omega
      | ((try dsimp only [rowL, rowN]); simp only [beq_iff_eq, beq_eq_false_iff_ne, bne_iff_ne, bne_eq_false_iff_eq, decide_eq_true_eq, decide_eq_false_iff_not, ne_eq, Bool.not_eq_true', Bool.not_eq_false', Bool.not_eq_eq_eq_not, Bool.not_true, Bool.not_false, Option.some.injEq, Option.getD_some, Option.getD_none]; omega)
      | (simp; done)
      | (simp; omega)
  refine SG.ret tab_ok Try.func6 rfl ?_
  intro ρ w' v hm hv
  exact Post.mk hm (.cv (.one (.lb true))) [] none [] hv rfl rows0 rfl (by simp)
set_option maxRecDepth 100000 in
theorem sameSNo {a b : Nat} {RA RB : Row} {S S2 : List RS} (ha : Rs[a]? = some (some RA)) (hA : RowLe RA (rowSs S)) (hb : Rs[b]? = some (some RB)) (hB : RowLe RB (rowSs S2)) (h : ¬ imS S = imS S2) (h8 : S.length ≤ 4) (hs : ∀ r ∈ S, r.L.length ≤ 8) : CallOk Try.prog W B Rs 6 [rsV a, rsV b] (hdB false) := by
  refine CallOk.enter Try.func6 (by kernel_rfl) rfl [a, b] [rowSs S, rowSs S2] [rsV 0, rsV 1] rfl (rows2 (.ro_ ha hA rfl rfl (fun _ _ => rfl)) (.ro_ hb hB rfl rfl (fun _ _ => rfl))) (fun r h => by cases h) rfl rfl ?_
  intro w blk hblk
  refine SG.walk tab_ok mx 400 [] [hdB false] ?_
  conv => whnf
  try dsimp only [rowL, rowN, growOk, hiN, fromL, tightN, maxOk]
  refine ⟨?_, ?_⟩
  · repeat' apply And.intro
    all_goals first
      | exact alike2No rfl (.of rfl rfl (fun _ _ => rfl)) rfl (.of rfl rfl (fun _ _ => rfl)) h h8 hs
      | trivial
      | rfl
      | omega
      | ((try dsimp only [rowL, rowN]); simp only [beq_iff_eq, beq_eq_false_iff_ne, bne_iff_ne, bne_eq_false_iff_eq, decide_eq_true_eq, decide_eq_false_iff_not, ne_eq, Bool.not_eq_true', Bool.not_eq_false', Bool.not_eq_eq_eq_not, Bool.not_true, Bool.not_false, Option.some.injEq, Option.getD_some, Option.getD_none]; omega)
      | (simp; done)
      | (simp; omega)
  refine SG.ret tab_ok Try.func6 rfl ?_
  intro ρ w' v hm hv
  exact Post.mk hm (.cv (.one (.lb false))) [] none [] hv rfl rows0 rfl (by simp)
end
end Go.Proofs.Ytmifdcanokpkiaa
