/- Processors: what the document says an instruction does. -/
import Derived.Test.YtcdoofjddhlodaaDoorCxB
namespace Go.Proofs.YtcdoofjddhlodaaDoor
open Go.Sx Go.RowKit
set_option linter.unusedVariables false
set_option linter.unusedSimpArgs false
set_option linter.unusedSectionVars false
theorem wrapU (n : Int) : IntKind.u32.wrap n = n % 4294967296 := IntKind.wrap_u32 n
section
variable {x y i : Int} (x0 : 0 ≤ x) (x1 : x < 4294967296) (y0 : 0 ≤ y) (y1 : y < 4294967296)
include x0 x1 y0 y1
theorem v1 : recN 1 x y i = IntKind.u32.wrap i := by simp [recN, wrapU]
theorem v2 : recN 2 x y i = IntKind.u32.wrap (IntKind.u32.wrap i * 65536) := by simp [recN, wrapU]
theorem v3 : recN 3 x y i = y := by simp [recN]
theorem v4 : recN 4 x y i = IntKind.u32.wrap (x + y) := by simp [recN, wrapU]
theorem v5 : recN 5 x y i = IntKind.u32.wrap (x - y) := by simp only [recN, wrapU]; simp; omega
theorem v6 : recN 6 x y i = IntKind.u32.wrap (x * y) := by simp [recN, wrapU]
theorem v7a (h : y = 0) : recN 7 x y i = 4294967295 := by simp [recN, quoN, h]
theorem v7b (h : ¬ y = 0) : recN 7 x y i = IntKind.u32.wrap (x.tdiv y) := by
  have h1 : x.tdiv y = x / y := Int.tdiv_eq_ediv_of_nonneg x0
  have h2 := Int.ediv_nonneg x0 y0
  have h3 := Int.ediv_le_self y x0
  simp only [recN, quoN, wrapU, h1]
  simp [h]
  omega
theorem v8 : recN 8 x y i = IntKind.u32.wrap (BitVec.ofInt 32 x &&& BitVec.ofInt 32 y).toNat := rfl
theorem v9 : recN 9 x y i = IntKind.u32.wrap (BitVec.ofInt 32 x ||| BitVec.ofInt 32 y).toNat := rfl
theorem v10 : recN 10 x y i = IntKind.u32.wrap (BitVec.ofInt 32 x ^^^ BitVec.ofInt 32 y).toNat := rfl
theorem v11 : recN 11 x y i = IntKind.u32.wrap (x * 2 ^ (y.tmod 32).toNat) := by
  have h1 : y.tmod 32 = y % 32 := Int.tmod_eq_emod_of_nonneg y0
  simp [recN, wrapU, h1]
theorem v12 : recN 12 x y i = IntKind.u32.wrap (x.tdiv (2 ^ (y.tmod 32).toNat)) := by
  have h1 : y.tmod 32 = y % 32 := Int.tmod_eq_emod_of_nonneg y0
  have h2 : x.tdiv (2 ^ (y % 32).toNat) = x / 2 ^ (y % 32).toNat := Int.tdiv_eq_ediv_of_nonneg x0
  have hp : (0 : Int) ≤ 2 ^ (y % 32).toNat := Int.le_of_lt (Int.pow_pos (by decide))
  have h3 := Int.ediv_nonneg x0 hp
  have h4 := Int.ediv_le_self (2 ^ (y % 32).toNat) x0
  simp only [recN, wrapU, h1, h2]
  simp
  omega
theorem v13 : recN 13 x y i = IntKind.u32.wrap (x + IntKind.u32.wrap i) := by simp [recN, wrapU]
end
theorem pow_lt {n : Int} (h0 : 0 ≤ n) (h1 : n ≤ 31) : 1 ≤ (2 : Int) ^ n.toNat ∧ (2 : Int) ^ n.toNat ≤ 2147483648 := by
  obtain ⟨k, rfl⟩ := Int.eq_ofNat_of_zero_le h0
  rw [Int.toNat_natCast]
  have hk : k ≤ 31 := by omega
  have h2 : 2 ^ k ≤ 2 ^ 31 := Nat.pow_le_pow_right (by decide) hk
  have h3 : 1 ≤ 2 ^ k := Nat.one_le_two_pow
  have e : ((2 : Int) ^ k) = ((2 ^ k : Nat) : Int) := by simp
  rw [e]
  have : (2 : Nat) ^ 31 = 2147483648 := by decide
  omega
section
variable {W : Base} {B : List (Option (List At))} {Rs : List (Option Row)}
set_option maxHeartbeats 4000000 in
set_option maxRecDepth 100000 in
theorem signedC {x : Int} (h0 : 0 ≤ x) (h1 : x < 4294967296) : CallOk Tryd.prog W B Rs 25 [u32V x] (mkHd (intV (IntKind.i32.wrap x)) []) := by
  have hw : IntKind.i64.wrap x = x := wI (by omega) (by omega)
  have hw2 : IntKind.i64.wrap (x - 4294967296) = x - 4294967296 := wI (by omega) (by omega)
  have h32 : IntKind.i32.wrap x = if x ≥ 2147483648 then x - 4294967296 else x := by
    rw [IntKind.wrap_i32]; split <;> omega
  rw [h32]
  by_cases g : x ≥ 2147483648
  · rw [if_pos g]
    refine CallOk.enter Tryd.func25 (by kernel_rfl) rfl [] [] [u32V x] rfl rows0 (fun r h => by cases h) rfl rfl ?_
    intro w blk hblk
    refine SG.walk tab_ok mx 400 [true] [] ?_
    conv => whnf
    try dsimp only [rowL, rowN, growOk, hiN, fromL, tightN, maxOk]
    refine ⟨?_, ?_⟩
    · simp only [hw]
      repeat' apply And.intro
      all_goals first
        | trivial
        | rfl
        | omega
        | ((try dsimp only [rowL, rowN]); simp only [beq_iff_eq, beq_eq_false_iff_ne, bne_iff_ne, bne_eq_false_iff_eq, decide_eq_true_eq, decide_eq_false_iff_not, ne_eq, Bool.not_eq_true', Bool.not_eq_false', Bool.not_eq_eq_eq_not, Bool.not_true, Bool.not_false, Option.some.injEq, Option.getD_some, Option.getD_none]; omega)
        | (simp; done)
        | (simp; omega)
    simp only [hw, hw2]
    refine SG.ret tab_ok Tryd.func25 rfl ?_
    intro ρ w' v hm hv
    exact Post.mk hm (intV (x - 4294967296)) [] none [] hv rfl rows0 rfl (by simp)
  · rw [if_neg g]
    refine CallOk.enter Tryd.func25 (by kernel_rfl) rfl [] [] [u32V x] rfl rows0 (fun r h => by cases h) rfl rfl ?_
    intro w blk hblk
    refine SG.walk tab_ok mx 400 [false] [] ?_
    conv => whnf
    try dsimp only [rowL, rowN, growOk, hiN, fromL, tightN, maxOk]
    refine ⟨?_, ?_⟩
    · simp only [hw]
      repeat' apply And.intro
      all_goals first
        | trivial
        | rfl
        | omega
        | ((try dsimp only [rowL, rowN]); simp only [beq_iff_eq, beq_eq_false_iff_ne, bne_iff_ne, bne_eq_false_iff_eq, decide_eq_true_eq, decide_eq_false_iff_not, ne_eq, Bool.not_eq_true', Bool.not_eq_false', Bool.not_eq_eq_eq_not, Bool.not_true, Bool.not_false, Option.some.injEq, Option.getD_some, Option.getD_none]; omega)
        | (simp; done)
        | (simp; omega)
    simp only [hw]
    refine SG.ret tab_ok Tryd.func25 rfl ?_
    intro ρ w' v hm hv
    exact Post.mk hm (intV x) [] none [] hv rfl rows0 rfl (by simp)
set_option maxHeartbeats 4000000 in
set_option maxRecDepth 100000 in
theorem powerC {n : Int} (h0 : 0 ≤ n) (h1 : n ≤ 31) : CallOk Tryd.prog W B Rs 24 [u32V n] (hdU (2 ^ n.toNat)) := by
  obtain ⟨N, rfl⟩ := Int.eq_ofNat_of_zero_le h0
  rw [Int.toNat_natCast]
  refine CallOk.enter Tryd.func24 (by kernel_rfl) rfl [] [] [u32V N] rfl rows0 (fun r h => by cases h) rfl rfl ?_
  intro w blk hblk
  refine SG.walk tab_ok mx 400 [] [] ?_
  conv => whnf
  try dsimp only [rowL, rowN, growOk, hiN, fromL, tightN, maxOk]
  refine ⟨?_, ?_⟩
  · trivial
  refine SG.loop (fun kv : Nat × Int => ⟨puts (List.replicate (Tryd.f24).ntmps .any) [(0, u32V kv.1), (3, u32V kv.2)], [], [], []⟩) (fun kv => kv.1 ≤ N ∧ kv.2 = 2 ^ (N - kv.1)) (fun kv => kv.1) ((N, 1)) (⟨Nat.le_refl _, by simp⟩) (fun h => SG.sub [] [] ⟨?_, ?_, ?_, by decide, rfl, rfl, rfl, ?_⟩ h) ?_
  · repeat' (first | exact trivial | exact rfl | refine And.intro ?_ ?_)
  · repeat' (first | exact trivial | exact rfl | refine And.intro ?_ ?_)
  · repeat' (first | exact trivial | refine ⟨⟨_, rfl, ⟨rfl, rfl, .inl rfl, (fun h => by first | exact h | cases h), (fun h => by first | exact h | cases h), fun _ _ => rfl⟩, fun _ _ => rfl⟩, ?_⟩ | refine ⟨⟨_, rfl, ⟨rfl, rfl, .inr rfl, (fun h => by first | exact h | cases h), (fun h => by first | exact h | cases h), fun _ _ => rfl⟩, fun _ _ => rfl⟩, ?_⟩ | refine ⟨⟨_, rfl, ⟨rfl, rfl, .inr rfl, (fun h => by first | exact h | cases h), (fun h => by first | exact h | cases h), fun i hi => absurd hi (Nat.not_lt_zero i)⟩, fun i hi => absurd hi (Nat.not_lt_zero i)⟩, ?_⟩ | refine ⟨⟨_, rfl, ⟨rfl, rfl, .inl rfl, (fun h => by first | exact h | cases h), (fun h => by first | exact h | cases h), fun i hi => ren_closed (hQc i hi)⟩, fun i hi => inn_closed (hQc i hi)⟩, ?_⟩)
  · repeat' (first | exact trivial | exact rfl | refine And.intro ?_ ?_)
  rintro ⟨k, y⟩ ⟨hk, hv⟩ next
  dsimp only at hk hv next ⊢
  have hb := pow_lt (n := ((N - k : Nat) : Int)) (by omega) (by omega)
  rw [Int.toNat_natCast] at hb
  by_cases g : 0 < k
  · have e : y + y = 2 ^ (N - (k - 1)) := by
      rw [show N - (k - 1) = (N - k) + 1 by omega, Int.pow_succ, ← hv]; omega
    have hb2 := pow_lt (n := ((N - (k - 1) : Nat) : Int)) (by omega) (by omega)
    rw [Int.toNat_natCast, ← e] at hb2
    have hw : IntKind.u32.wrap (y + y) = y + y := wU32 (by omega) (by omega)
    have hw2 : IntKind.u32.wrap ((k : Int) - 1) = ((k - 1 : Nat) : Int) := by rw [wU32 (by omega) (by omega)]; omega
    refine SG.walk tab_ok mx 400 [true] [] ?_
    conv => whnf
    try dsimp only [rowL, rowN, growOk, hiN, fromL, tightN, maxOk]
    refine ⟨?_, ?_⟩
    · repeat' apply And.intro
      all_goals first
        | trivial
        | rfl
        | omega
        | ((try dsimp only [rowL, rowN]); simp only [beq_iff_eq, beq_eq_false_iff_ne, bne_iff_ne, bne_eq_false_iff_eq, decide_eq_true_eq, decide_eq_false_iff_not, ne_eq, Bool.not_eq_true', Bool.not_eq_false', Bool.not_eq_eq_eq_not, Bool.not_true, Bool.not_false, Option.some.injEq, Option.getD_some, Option.getD_none]; omega)
        | (simp; done)
        | (simp; omega)
    simp only [hw, hw2]
    refine SG.sub [] [] ⟨?_, ?_, ?_, by decide, rfl, rfl, rfl, ?_⟩ (next (k - 1, y + y) ⟨by dsimp only; omega, e⟩ (by dsimp only; omega))
    · repeat' (first | exact trivial | exact rfl | refine And.intro ?_ ?_)
    · repeat' (first | exact trivial | exact rfl | refine And.intro ?_ ?_)
    · repeat' (first | exact trivial | refine ⟨⟨_, rfl, ⟨rfl, rfl, .inl rfl, (fun h => by first | exact h | cases h), (fun h => by first | exact h | cases h), fun _ _ => rfl⟩, fun _ _ => rfl⟩, ?_⟩ | refine ⟨⟨_, rfl, ⟨rfl, rfl, .inr rfl, (fun h => by first | exact h | cases h), (fun h => by first | exact h | cases h), fun _ _ => rfl⟩, fun _ _ => rfl⟩, ?_⟩ | refine ⟨⟨_, rfl, ⟨rfl, rfl, .inr rfl, (fun h => by first | exact h | cases h), (fun h => by first | exact h | cases h), fun i hi => absurd hi (Nat.not_lt_zero i)⟩, fun i hi => absurd hi (Nat.not_lt_zero i)⟩, ?_⟩ | refine ⟨⟨_, rfl, ⟨rfl, rfl, .inl rfl, (fun h => by first | exact h | cases h), (fun h => by first | exact h | cases h), fun i hi => ren_closed (hQc i hi)⟩, fun i hi => inn_closed (hQc i hi)⟩, ?_⟩)
    · repeat' (first | exact trivial | exact rfl | refine And.intro ?_ ?_)
  · have hk0 : k = 0 := by omega
    subst hk0
    rw [Nat.sub_zero] at hv
    refine SG.walk tab_ok mx 400 [false] [] ?_
    conv => whnf
    try dsimp only [rowL, rowN, growOk, hiN, fromL, tightN, maxOk]
    refine ⟨?_, ?_⟩
    · repeat' apply And.intro
      all_goals first
        | trivial
        | rfl
        | omega
        | ((try dsimp only [rowL, rowN]); simp only [beq_iff_eq, beq_eq_false_iff_ne, bne_iff_ne, bne_eq_false_iff_eq, decide_eq_true_eq, decide_eq_false_iff_not, ne_eq, Bool.not_eq_true', Bool.not_eq_false', Bool.not_eq_eq_eq_not, Bool.not_true, Bool.not_false, Option.some.injEq, Option.getD_some, Option.getD_none]; omega)
        | (simp; done)
        | (simp; omega)
    rw [← hv]
    refine SG.ret tab_ok Tryd.func24 rfl ?_
    intro ρ w' v hm hv
    exact Post.mk hm (u32V y) [] none [] hv rfl rows0 rfl (by simp)
set_option maxHeartbeats 4000000 in
set_option maxRecDepth 100000 in
theorem rDoesNo {R : Nat → Int} {p o a b i : Int} (h : rMay o a b i = false ∨ (14 ≤ o ∧ o ≤ 17) ∨ o = 24) : CallOk Tryd.prog W B Rs 14 [cpuS R p, insS o a b i] (hdT [.agg (cpuC R p), .one (.lb false)]) := by
  by_cases hm : rMay o a b i = false
  · refine CallOk.enter Tryd.func14 (by kernel_rfl) rfl [] [] [cpuS R p, insS o a b i] rfl rows0 (fun r h => by cases h) rfl rfl ?_
    intro w blk hblk
    refine SG.walk tab_ok mx 400 [] [hdB false] ?_
    conv => whnf
    try dsimp only [rowL, rowN, growOk, hiN, fromL, tightN, maxOk]
    refine ⟨?_, ?_⟩
    · exact hm ▸ rMayC
    refine SG.ret tab_ok Tryd.func14 rfl ?_
    intro ρ w' v hm hv
    exact Post.mk hm (.tup [.agg (cpuC R p), .one (.lb false)]) [] none [] hv rfl rows0 rfl (by simp)
  have hm' : rMay o a b i = true := Bool.not_eq_false _ ▸ hm
  by_cases h14 : 14 ≤ o ∧ o ≤ 17
  · refine CallOk.enter Tryd.func14 (by kernel_rfl) rfl [] [] [cpuS R p, insS o a b i] rfl rows0 (fun r h => by cases h) rfl rfl ?_
    intro w blk hblk
    refine SG.walk tab_ok mx 400 [true, true] [hdB true] ?_
    conv => whnf
    try dsimp only [rowL, rowN, growOk, hiN, fromL, tightN, maxOk]
    refine ⟨?_, ?_⟩
    · repeat' apply And.intro
      all_goals first
        | exact hm' ▸ rMayC
        | trivial
        | rfl
        | omega
        | ((try dsimp only [rowL, rowN]); simp only [beq_iff_eq, beq_eq_false_iff_ne, bne_iff_ne, bne_eq_false_iff_eq, decide_eq_true_eq, decide_eq_false_iff_not, ne_eq, Bool.not_eq_true', Bool.not_eq_false', Bool.not_eq_eq_eq_not, Bool.not_true, Bool.not_false, Option.some.injEq, Option.getD_some, Option.getD_none]; omega)
        | (simp; done)
        | (simp; omega)
    refine SG.ret tab_ok Tryd.func14 rfl ?_
    intro ρ w' v hm hv
    exact Post.mk hm (.tup [.agg (cpuC R p), .one (.lb false)]) [] none [] hv rfl rows0 rfl (by simp)
  · have h24 : o = 24 := by rcases h with h | h | h; exact absurd h hm; exact absurd h h14; exact h
    refine CallOk.enter Tryd.func14 (by kernel_rfl) rfl [] [] [cpuS R p, insS o a b i] rfl rows0 (fun r h => by cases h) rfl rfl ?_
    intro w blk hblk
    refine SG.walk tab_ok mx 400 [true, false, true] [hdB true] ?_
    conv => whnf
    try dsimp only [rowL, rowN, growOk, hiN, fromL, tightN, maxOk]
    refine ⟨?_, ?_⟩
    · repeat' apply And.intro
      all_goals first
        | exact hm' ▸ rMayC
        | trivial
        | rfl
        | omega
        | ((try dsimp only [rowL, rowN]); simp only [beq_iff_eq, beq_eq_false_iff_ne, bne_iff_ne, bne_eq_false_iff_eq, decide_eq_true_eq, decide_eq_false_iff_not, ne_eq, Bool.not_eq_true', Bool.not_eq_false', Bool.not_eq_eq_eq_not, Bool.not_true, Bool.not_false, Option.some.injEq, Option.getD_some, Option.getD_none]; omega)
        | (simp; done)
        | (simp; omega)
    refine SG.ret tab_ok Tryd.func14 rfl ?_
    intro ρ w' v hm hv
    exact Post.mk hm (.tup [.agg (cpuC R p), .one (.lb false)]) [] none [] hv rfl rows0 rfl (by simp)
set_option maxHeartbeats 4000000 in
set_option maxRecDepth 100000 in
theorem rAlu1 {R : Nat → Int} {p a b i : Int} (hR : regs R) (hm : rMay 1 a b i = true) : CallOk Tryd.prog W B Rs 14 [cpuS R p, insS 1 a b i] (hdT [.agg (cpuC (updR R a.toNat (recN 1 (R a.toNat) (R b.toNat) i)) (IntKind.u32.wrap (p + 4))), .one (.lb true)]) := by
  obtain ⟨_, _, a0, a7, b0, b7, _, _⟩ := may_range hm
  obtain ⟨x0, x1⟩ := hR a.toNat (by omega)
  obtain ⟨y0, y1⟩ := hR b.toNat (by omega)
  rw [v1 x0 x1 y0 y1]
  refine CallOk.enter Tryd.func14 (by kernel_rfl) rfl [] [] [cpuS R p, insS 1 a b i] rfl rows0 (fun r h => by cases h) rfl rfl ?_
  intro w blk hblk
  refine SG.walk tab_ok mx 400 [false, false, true, false, false, false, false, false, false, false, false, false, false, false, false, false, false, false, false, false, false] [hdB true] ?_
  conv => whnf
  try dsimp only [rowL, rowN, growOk, hiN, fromL, tightN, maxOk]
  refine ⟨?_, ?_⟩
  · try simp only [pick8 a0 a7, pick8 b0 b7]
    repeat' apply And.intro
    all_goals first
      | exact hm ▸ rMayC
      | trivial
      | rfl
      | omega
      | ((try dsimp only [rowL, rowN]); simp only [beq_iff_eq, beq_eq_false_iff_ne, bne_iff_ne, bne_eq_false_iff_eq, decide_eq_true_eq, decide_eq_false_iff_not, ne_eq, Bool.not_eq_true', Bool.not_eq_false', Bool.not_eq_eq_eq_not, Bool.not_true, Bool.not_false, Option.some.injEq, Option.getD_some, Option.getD_none]; omega)
      | (simp; done)
      | (simp; omega)
  try simp only [pick8 a0 a7, pick8 b0 b7]
  refine SG.ret tab_ok Tryd.func14 rfl ?_
  intro ρ w' v hm hv
  exact Post.mk hm (.tup [.agg (cpuC (updR R a.toNat (IntKind.u32.wrap i)) (IntKind.u32.wrap (p + 4))), .one (.lb true)]) [] none [] hv rfl rows0 rfl (by simp)
set_option maxHeartbeats 4000000 in
set_option maxRecDepth 100000 in
theorem rAlu2 {R : Nat → Int} {p a b i : Int} (hR : regs R) (hm : rMay 2 a b i = true) : CallOk Tryd.prog W B Rs 14 [cpuS R p, insS 2 a b i] (hdT [.agg (cpuC (updR R a.toNat (recN 2 (R a.toNat) (R b.toNat) i)) (IntKind.u32.wrap (p + 4))), .one (.lb true)]) := by
  obtain ⟨_, _, a0, a7, b0, b7, _, _⟩ := may_range hm
  obtain ⟨x0, x1⟩ := hR a.toNat (by omega)
  obtain ⟨y0, y1⟩ := hR b.toNat (by omega)
  rw [v2 x0 x1 y0 y1]
  refine CallOk.enter Tryd.func14 (by kernel_rfl) rfl [] [] [cpuS R p, insS 2 a b i] rfl rows0 (fun r h => by cases h) rfl rfl ?_
  intro w blk hblk
  refine SG.walk tab_ok mx 400 [false, false, false, true, false, false, false, false, false, false, false, false, false, false, false, false, false, false, false, false, false] [hdB true] ?_
  conv => whnf
  try dsimp only [rowL, rowN, growOk, hiN, fromL, tightN, maxOk]
  refine ⟨?_, ?_⟩
  · try simp only [pick8 a0 a7, pick8 b0 b7]
    repeat' apply And.intro
    all_goals first
      | exact hm ▸ rMayC
      | trivial
      | rfl
      | omega
      | ((try dsimp only [rowL, rowN]); simp only [beq_iff_eq, beq_eq_false_iff_ne, bne_iff_ne, bne_eq_false_iff_eq, decide_eq_true_eq, decide_eq_false_iff_not, ne_eq, Bool.not_eq_true', Bool.not_eq_false', Bool.not_eq_eq_eq_not, Bool.not_true, Bool.not_false, Option.some.injEq, Option.getD_some, Option.getD_none]; omega)
      | (simp; done)
      | (simp; omega)
  try simp only [pick8 a0 a7, pick8 b0 b7]
  refine SG.ret tab_ok Tryd.func14 rfl ?_
  intro ρ w' v hm hv
  exact Post.mk hm (.tup [.agg (cpuC (updR R a.toNat (IntKind.u32.wrap (IntKind.u32.wrap i * 65536))) (IntKind.u32.wrap (p + 4))), .one (.lb true)]) [] none [] hv rfl rows0 rfl (by simp)
set_option maxHeartbeats 4000000 in
set_option maxRecDepth 100000 in
theorem rAlu3 {R : Nat → Int} {p a b i : Int} (hR : regs R) (hm : rMay 3 a b i = true) : CallOk Tryd.prog W B Rs 14 [cpuS R p, insS 3 a b i] (hdT [.agg (cpuC (updR R a.toNat (recN 3 (R a.toNat) (R b.toNat) i)) (IntKind.u32.wrap (p + 4))), .one (.lb true)]) := by
  obtain ⟨_, _, a0, a7, b0, b7, _, _⟩ := may_range hm
  obtain ⟨x0, x1⟩ := hR a.toNat (by omega)
  obtain ⟨y0, y1⟩ := hR b.toNat (by omega)
  rw [v3 x0 x1 y0 y1]
  refine CallOk.enter Tryd.func14 (by kernel_rfl) rfl [] [] [cpuS R p, insS 3 a b i] rfl rows0 (fun r h => by cases h) rfl rfl ?_
  intro w blk hblk
  refine SG.walk tab_ok mx 400 [false, false, false, false, true, false, false, false, false, false, false, false, false, false, false, false, false, false, false, false, false] [hdB true] ?_
  conv => whnf
  try dsimp only [rowL, rowN, growOk, hiN, fromL, tightN, maxOk]
  refine ⟨?_, ?_⟩
  · try simp only [pick8 a0 a7, pick8 b0 b7]
    repeat' apply And.intro
    all_goals first
      | exact hm ▸ rMayC
      | trivial
      | rfl
      | omega
      | ((try dsimp only [rowL, rowN]); simp only [beq_iff_eq, beq_eq_false_iff_ne, bne_iff_ne, bne_eq_false_iff_eq, decide_eq_true_eq, decide_eq_false_iff_not, ne_eq, Bool.not_eq_true', Bool.not_eq_false', Bool.not_eq_eq_eq_not, Bool.not_true, Bool.not_false, Option.some.injEq, Option.getD_some, Option.getD_none]; omega)
      | (simp; done)
      | (simp; omega)
  try simp only [pick8 a0 a7, pick8 b0 b7]
  refine SG.ret tab_ok Tryd.func14 rfl ?_
  intro ρ w' v hm hv
  exact Post.mk hm (.tup [.agg (cpuC (updR R a.toNat ((R b.toNat))) (IntKind.u32.wrap (p + 4))), .one (.lb true)]) [] none [] hv rfl rows0 rfl (by simp)
set_option maxHeartbeats 4000000 in
set_option maxRecDepth 100000 in
theorem rAlu4 {R : Nat → Int} {p a b i : Int} (hR : regs R) (hm : rMay 4 a b i = true) : CallOk Tryd.prog W B Rs 14 [cpuS R p, insS 4 a b i] (hdT [.agg (cpuC (updR R a.toNat (recN 4 (R a.toNat) (R b.toNat) i)) (IntKind.u32.wrap (p + 4))), .one (.lb true)]) := by
  obtain ⟨_, _, a0, a7, b0, b7, _, _⟩ := may_range hm
  obtain ⟨x0, x1⟩ := hR a.toNat (by omega)
  obtain ⟨y0, y1⟩ := hR b.toNat (by omega)
  rw [v4 x0 x1 y0 y1]
  refine CallOk.enter Tryd.func14 (by kernel_rfl) rfl [] [] [cpuS R p, insS 4 a b i] rfl rows0 (fun r h => by cases h) rfl rfl ?_
  intro w blk hblk
  refine SG.walk tab_ok mx 400 [false, false, false, false, false, true, false, false, false, false, false, false, false, false, false, false, false, false, false, false, false] [hdB true] ?_
  conv => whnf
  try dsimp only [rowL, rowN, growOk, hiN, fromL, tightN, maxOk]
  refine ⟨?_, ?_⟩
  · try simp only [pick8 a0 a7, pick8 b0 b7]
    repeat' apply And.intro
    all_goals first
      | exact hm ▸ rMayC
      | trivial
      | rfl
      | omega
      | ((try dsimp only [rowL, rowN]); simp only [beq_iff_eq, beq_eq_false_iff_ne, bne_iff_ne, bne_eq_false_iff_eq, decide_eq_true_eq, decide_eq_false_iff_not, ne_eq, Bool.not_eq_true', Bool.not_eq_false', Bool.not_eq_eq_eq_not, Bool.not_true, Bool.not_false, Option.some.injEq, Option.getD_some, Option.getD_none]; omega)
      | (simp; done)
      | (simp; omega)
  try simp only [pick8 a0 a7, pick8 b0 b7]
  refine SG.ret tab_ok Tryd.func14 rfl ?_
  intro ρ w' v hm hv
  exact Post.mk hm (.tup [.agg (cpuC (updR R a.toNat (IntKind.u32.wrap ((R a.toNat) + (R b.toNat)))) (IntKind.u32.wrap (p + 4))), .one (.lb true)]) [] none [] hv rfl rows0 rfl (by simp)
set_option maxHeartbeats 4000000 in
set_option maxRecDepth 100000 in
theorem rAlu5 {R : Nat → Int} {p a b i : Int} (hR : regs R) (hm : rMay 5 a b i = true) : CallOk Tryd.prog W B Rs 14 [cpuS R p, insS 5 a b i] (hdT [.agg (cpuC (updR R a.toNat (recN 5 (R a.toNat) (R b.toNat) i)) (IntKind.u32.wrap (p + 4))), .one (.lb true)]) := by
  obtain ⟨_, _, a0, a7, b0, b7, _, _⟩ := may_range hm
  obtain ⟨x0, x1⟩ := hR a.toNat (by omega)
  obtain ⟨y0, y1⟩ := hR b.toNat (by omega)
  rw [v5 x0 x1 y0 y1]
  refine CallOk.enter Tryd.func14 (by kernel_rfl) rfl [] [] [cpuS R p, insS 5 a b i] rfl rows0 (fun r h => by cases h) rfl rfl ?_
  intro w blk hblk
  refine SG.walk tab_ok mx 400 [false, false, false, false, false, false, true, false, false, false, false, false, false, false, false, false, false, false, false, false, false] [hdB true] ?_
  conv => whnf
  try dsimp only [rowL, rowN, growOk, hiN, fromL, tightN, maxOk]
  refine ⟨?_, ?_⟩
  · try simp only [pick8 a0 a7, pick8 b0 b7]
    repeat' apply And.intro
    all_goals first
      | exact hm ▸ rMayC
      | trivial
      | rfl
      | omega
      | ((try dsimp only [rowL, rowN]); simp only [beq_iff_eq, beq_eq_false_iff_ne, bne_iff_ne, bne_eq_false_iff_eq, decide_eq_true_eq, decide_eq_false_iff_not, ne_eq, Bool.not_eq_true', Bool.not_eq_false', Bool.not_eq_eq_eq_not, Bool.not_true, Bool.not_false, Option.some.injEq, Option.getD_some, Option.getD_none]; omega)
      | (simp; done)
      | (simp; omega)
  try simp only [pick8 a0 a7, pick8 b0 b7]
  refine SG.ret tab_ok Tryd.func14 rfl ?_
  intro ρ w' v hm hv
  exact Post.mk hm (.tup [.agg (cpuC (updR R a.toNat (IntKind.u32.wrap ((R a.toNat) - (R b.toNat)))) (IntKind.u32.wrap (p + 4))), .one (.lb true)]) [] none [] hv rfl rows0 rfl (by simp)
set_option maxHeartbeats 4000000 in
set_option maxRecDepth 100000 in
theorem rAlu6 {R : Nat → Int} {p a b i : Int} (hR : regs R) (hm : rMay 6 a b i = true) : CallOk Tryd.prog W B Rs 14 [cpuS R p, insS 6 a b i] (hdT [.agg (cpuC (updR R a.toNat (recN 6 (R a.toNat) (R b.toNat) i)) (IntKind.u32.wrap (p + 4))), .one (.lb true)]) := by
  obtain ⟨_, _, a0, a7, b0, b7, _, _⟩ := may_range hm
  obtain ⟨x0, x1⟩ := hR a.toNat (by omega)
  obtain ⟨y0, y1⟩ := hR b.toNat (by omega)
  rw [v6 x0 x1 y0 y1]
  refine CallOk.enter Tryd.func14 (by kernel_rfl) rfl [] [] [cpuS R p, insS 6 a b i] rfl rows0 (fun r h => by cases h) rfl rfl ?_
  intro w blk hblk
  refine SG.walk tab_ok mx 400 [false, false, false, false, false, false, false, true, false, false, false, false, false, false, false, false, false, false, false, false, false] [hdB true] ?_
  conv => whnf
  try dsimp only [rowL, rowN, growOk, hiN, fromL, tightN, maxOk]
  refine ⟨?_, ?_⟩
  · try simp only [pick8 a0 a7, pick8 b0 b7]
    repeat' apply And.intro
    all_goals first
      | exact hm ▸ rMayC
      | trivial
      | rfl
      | omega
      | ((try dsimp only [rowL, rowN]); simp only [beq_iff_eq, beq_eq_false_iff_ne, bne_iff_ne, bne_eq_false_iff_eq, decide_eq_true_eq, decide_eq_false_iff_not, ne_eq, Bool.not_eq_true', Bool.not_eq_false', Bool.not_eq_eq_eq_not, Bool.not_true, Bool.not_false, Option.some.injEq, Option.getD_some, Option.getD_none]; omega)
      | (simp; done)
      | (simp; omega)
  try simp only [pick8 a0 a7, pick8 b0 b7]
  refine SG.ret tab_ok Tryd.func14 rfl ?_
  intro ρ w' v hm hv
  exact Post.mk hm (.tup [.agg (cpuC (updR R a.toNat (IntKind.u32.wrap ((R a.toNat) * (R b.toNat)))) (IntKind.u32.wrap (p + 4))), .one (.lb true)]) [] none [] hv rfl rows0 rfl (by simp)
set_option maxHeartbeats 4000000 in
set_option maxRecDepth 100000 in
theorem rAlu7 {R : Nat → Int} {p a b i : Int} (hR : regs R) (hm : rMay 7 a b i = true) : CallOk Tryd.prog W B Rs 14 [cpuS R p, insS 7 a b i] (hdT [.agg (cpuC (updR R a.toNat (recN 7 (R a.toNat) (R b.toNat) i)) (IntKind.u32.wrap (p + 4))), .one (.lb true)]) := by
  obtain ⟨_, _, a0, a7, b0, b7, _, _⟩ := may_range hm
  obtain ⟨x0, x1⟩ := hR a.toNat (by omega)
  obtain ⟨y0, y1⟩ := hR b.toNat (by omega)
  by_cases g : R b.toNat = 0
  · rw [v7a x0 x1 y0 y1 g]
    refine CallOk.enter Tryd.func14 (by kernel_rfl) rfl [] [] [cpuS R p, insS 7 a b i] rfl rows0 (fun r h => by cases h) rfl rfl ?_
    intro w blk hblk
    refine SG.walk tab_ok mx 400 [false, false, false, false, false, false, false, false, true, true, false, false, false, false, false, false, false, false, false, false, false, false] [hdB true] ?_
    conv => whnf
    try dsimp only [rowL, rowN, growOk, hiN, fromL, tightN, maxOk]
    refine ⟨?_, ?_⟩
    · try simp only [pick8 a0 a7, pick8 b0 b7]
      repeat' apply And.intro
      all_goals first
        | exact hm ▸ rMayC
        | trivial
        | rfl
        | omega
        | ((try dsimp only [rowL, rowN]); simp only [beq_iff_eq, beq_eq_false_iff_ne, bne_iff_ne, bne_eq_false_iff_eq, decide_eq_true_eq, decide_eq_false_iff_not, ne_eq, Bool.not_eq_true', Bool.not_eq_false', Bool.not_eq_eq_eq_not, Bool.not_true, Bool.not_false, Option.some.injEq, Option.getD_some, Option.getD_none]; omega)
        | (simp; done)
        | (simp; omega)
    try simp only [pick8 a0 a7, pick8 b0 b7]
    refine SG.ret tab_ok Tryd.func14 rfl ?_
    intro ρ w' v hm hv
    exact Post.mk hm (.tup [.agg (cpuC (updR R a.toNat (4294967295)) (IntKind.u32.wrap (p + 4))), .one (.lb true)]) [] none [] hv rfl rows0 rfl (by simp)
  · rw [v7b x0 x1 y0 y1 g]
    refine CallOk.enter Tryd.func14 (by kernel_rfl) rfl [] [] [cpuS R p, insS 7 a b i] rfl rows0 (fun r h => by cases h) rfl rfl ?_
    intro w blk hblk
    refine SG.walk tab_ok mx 400 [false, false, false, false, false, false, false, false, true, false, false, false, false, false, false, false, false, false, false, false, false, false] [hdB true] ?_
    conv => whnf
    try dsimp only [rowL, rowN, growOk, hiN, fromL, tightN, maxOk]
    refine ⟨?_, ?_⟩
    · try simp only [pick8 a0 a7, pick8 b0 b7]
      repeat' apply And.intro
      all_goals first
        | exact hm ▸ rMayC
        | trivial
        | rfl
        | omega
        | ((try dsimp only [rowL, rowN]); simp only [beq_iff_eq, beq_eq_false_iff_ne, bne_iff_ne, bne_eq_false_iff_eq, decide_eq_true_eq, decide_eq_false_iff_not, ne_eq, Bool.not_eq_true', Bool.not_eq_false', Bool.not_eq_eq_eq_not, Bool.not_true, Bool.not_false, Option.some.injEq, Option.getD_some, Option.getD_none]; omega)
        | (simp; done)
        | (simp; omega)
    try simp only [pick8 a0 a7, pick8 b0 b7]
    refine SG.ret tab_ok Tryd.func14 rfl ?_
    intro ρ w' v hm hv
    exact Post.mk hm (.tup [.agg (cpuC (updR R a.toNat (IntKind.u32.wrap ((R a.toNat).tdiv (R b.toNat)))) (IntKind.u32.wrap (p + 4))), .one (.lb true)]) [] none [] hv rfl rows0 rfl (by simp)
set_option maxHeartbeats 4000000 in
set_option maxRecDepth 100000 in
theorem rAlu8 {R : Nat → Int} {p a b i : Int} (hR : regs R) (hm : rMay 8 a b i = true) : CallOk Tryd.prog W B Rs 14 [cpuS R p, insS 8 a b i] (hdT [.agg (cpuC (updR R a.toNat (recN 8 (R a.toNat) (R b.toNat) i)) (IntKind.u32.wrap (p + 4))), .one (.lb true)]) := by
  obtain ⟨_, _, a0, a7, b0, b7, _, _⟩ := may_range hm
  obtain ⟨x0, x1⟩ := hR a.toNat (by omega)
  obtain ⟨y0, y1⟩ := hR b.toNat (by omega)
  rw [v8 x0 x1 y0 y1]
  refine CallOk.enter Tryd.func14 (by kernel_rfl) rfl [] [] [cpuS R p, insS 8 a b i] rfl rows0 (fun r h => by cases h) rfl rfl ?_
  intro w blk hblk
  refine SG.walk tab_ok mx 400 [false, false, false, false, false, false, false, false, false, true, false, false, false, false, false, false, false, false, false, false, false] [hdB true] ?_
  conv => whnf
  try dsimp only [rowL, rowN, growOk, hiN, fromL, tightN, maxOk]
  refine ⟨?_, ?_⟩
  · try simp only [pick8 a0 a7, pick8 b0 b7]
    repeat' apply And.intro
    all_goals first
      | exact hm ▸ rMayC
      | trivial
      | rfl
      | omega
      | ((try dsimp only [rowL, rowN]); simp only [beq_iff_eq, beq_eq_false_iff_ne, bne_iff_ne, bne_eq_false_iff_eq, decide_eq_true_eq, decide_eq_false_iff_not, ne_eq, Bool.not_eq_true', Bool.not_eq_false', Bool.not_eq_eq_eq_not, Bool.not_true, Bool.not_false, Option.some.injEq, Option.getD_some, Option.getD_none]; omega)
      | (simp; done)
      | (simp; omega)
  try simp only [pick8 a0 a7, pick8 b0 b7]
  refine SG.ret tab_ok Tryd.func14 rfl ?_
  intro ρ w' v hm hv
  exact Post.mk hm (.tup [.agg (cpuC (updR R a.toNat (IntKind.u32.wrap (BitVec.ofInt 32 (R a.toNat) &&& BitVec.ofInt 32 (R b.toNat)).toNat)) (IntKind.u32.wrap (p + 4))), .one (.lb true)]) [] none [] hv rfl rows0 rfl (by simp)
set_option maxHeartbeats 4000000 in
set_option maxRecDepth 100000 in
theorem rAlu9 {R : Nat → Int} {p a b i : Int} (hR : regs R) (hm : rMay 9 a b i = true) : CallOk Tryd.prog W B Rs 14 [cpuS R p, insS 9 a b i] (hdT [.agg (cpuC (updR R a.toNat (recN 9 (R a.toNat) (R b.toNat) i)) (IntKind.u32.wrap (p + 4))), .one (.lb true)]) := by
  obtain ⟨_, _, a0, a7, b0, b7, _, _⟩ := may_range hm
  obtain ⟨x0, x1⟩ := hR a.toNat (by omega)
  obtain ⟨y0, y1⟩ := hR b.toNat (by omega)
  rw [v9 x0 x1 y0 y1]
  refine CallOk.enter Tryd.func14 (by kernel_rfl) rfl [] [] [cpuS R p, insS 9 a b i] rfl rows0 (fun r h => by cases h) rfl rfl ?_
  intro w blk hblk
  refine SG.walk tab_ok mx 400 [false, false, false, false, false, false, false, false, false, false, true, false, false, false, false, false, false, false, false, false, false] [hdB true] ?_
  conv => whnf
  try dsimp only [rowL, rowN, growOk, hiN, fromL, tightN, maxOk]
  refine ⟨?_, ?_⟩
  · try simp only [pick8 a0 a7, pick8 b0 b7]
    repeat' apply And.intro
    all_goals first
      | exact hm ▸ rMayC
      | trivial
      | rfl
      | omega
      | ((try dsimp only [rowL, rowN]); simp only [beq_iff_eq, beq_eq_false_iff_ne, bne_iff_ne, bne_eq_false_iff_eq, decide_eq_true_eq, decide_eq_false_iff_not, ne_eq, Bool.not_eq_true', Bool.not_eq_false', Bool.not_eq_eq_eq_not, Bool.not_true, Bool.not_false, Option.some.injEq, Option.getD_some, Option.getD_none]; omega)
      | (simp; done)
      | (simp; omega)
  try simp only [pick8 a0 a7, pick8 b0 b7]
  refine SG.ret tab_ok Tryd.func14 rfl ?_
  intro ρ w' v hm hv
  exact Post.mk hm (.tup [.agg (cpuC (updR R a.toNat (IntKind.u32.wrap (BitVec.ofInt 32 (R a.toNat) ||| BitVec.ofInt 32 (R b.toNat)).toNat)) (IntKind.u32.wrap (p + 4))), .one (.lb true)]) [] none [] hv rfl rows0 rfl (by simp)
set_option maxHeartbeats 4000000 in
set_option maxRecDepth 100000 in
theorem rAlu10 {R : Nat → Int} {p a b i : Int} (hR : regs R) (hm : rMay 10 a b i = true) : CallOk Tryd.prog W B Rs 14 [cpuS R p, insS 10 a b i] (hdT [.agg (cpuC (updR R a.toNat (recN 10 (R a.toNat) (R b.toNat) i)) (IntKind.u32.wrap (p + 4))), .one (.lb true)]) := by
  obtain ⟨_, _, a0, a7, b0, b7, _, _⟩ := may_range hm
  obtain ⟨x0, x1⟩ := hR a.toNat (by omega)
  obtain ⟨y0, y1⟩ := hR b.toNat (by omega)
  rw [v10 x0 x1 y0 y1]
  refine CallOk.enter Tryd.func14 (by kernel_rfl) rfl [] [] [cpuS R p, insS 10 a b i] rfl rows0 (fun r h => by cases h) rfl rfl ?_
  intro w blk hblk
  refine SG.walk tab_ok mx 400 [false, false, false, false, false, false, false, false, false, false, false, true, false, false, false, false, false, false, false, false, false] [hdB true] ?_
  conv => whnf
  try dsimp only [rowL, rowN, growOk, hiN, fromL, tightN, maxOk]
  refine ⟨?_, ?_⟩
  · try simp only [pick8 a0 a7, pick8 b0 b7]
    repeat' apply And.intro
    all_goals first
      | exact hm ▸ rMayC
      | trivial
      | rfl
      | omega
      | ((try dsimp only [rowL, rowN]); simp only [beq_iff_eq, beq_eq_false_iff_ne, bne_iff_ne, bne_eq_false_iff_eq, decide_eq_true_eq, decide_eq_false_iff_not, ne_eq, Bool.not_eq_true', Bool.not_eq_false', Bool.not_eq_eq_eq_not, Bool.not_true, Bool.not_false, Option.some.injEq, Option.getD_some, Option.getD_none]; omega)
      | (simp; done)
      | (simp; omega)
  try simp only [pick8 a0 a7, pick8 b0 b7]
  refine SG.ret tab_ok Tryd.func14 rfl ?_
  intro ρ w' v hm hv
  exact Post.mk hm (.tup [.agg (cpuC (updR R a.toNat (IntKind.u32.wrap (BitVec.ofInt 32 (R a.toNat) ^^^ BitVec.ofInt 32 (R b.toNat)).toNat)) (IntKind.u32.wrap (p + 4))), .one (.lb true)]) [] none [] hv rfl rows0 rfl (by simp)
set_option maxHeartbeats 4000000 in
set_option maxRecDepth 100000 in
theorem rAlu11 {R : Nat → Int} {p a b i : Int} (hR : regs R) (hm : rMay 11 a b i = true) : CallOk Tryd.prog W B Rs 14 [cpuS R p, insS 11 a b i] (hdT [.agg (cpuC (updR R a.toNat (recN 11 (R a.toNat) (R b.toNat) i)) (IntKind.u32.wrap (p + 4))), .one (.lb true)]) := by
  obtain ⟨_, _, a0, a7, b0, b7, _, _⟩ := may_range hm
  obtain ⟨x0, x1⟩ := hR a.toNat (by omega)
  obtain ⟨y0, y1⟩ := hR b.toNat (by omega)
  have hmod : (R b.toNat).tmod 32 = R b.toNat % 32 := Int.tmod_eq_emod_of_nonneg y0
  have hp0 : 0 ≤ (R b.toNat).tmod 32 ∧ (R b.toNat).tmod 32 ≤ 31 := by omega
  have hpw := pow_lt hp0.1 hp0.2
  have hpz : (2 : Int) ^ ((R b.toNat).tmod 32).toNat ≠ 0 := by omega
  rw [v11 x0 x1 y0 y1]
  refine CallOk.enter Tryd.func14 (by kernel_rfl) rfl [] [] [cpuS R p, insS 11 a b i] rfl rows0 (fun r h => by cases h) rfl rfl ?_
  intro w blk hblk
  refine SG.walk tab_ok mx 400 [false, false, false, false, false, false, false, false, false, false, false, false, true, false, false, false, false, false, false, false, false] [hdB true, hdU (2 ^ ((R b.toNat).tmod 32).toNat)] ?_
  conv => whnf
  try dsimp only [rowL, rowN, growOk, hiN, fromL, tightN, maxOk]
  refine ⟨?_, ?_⟩
  · try simp only [pick8 a0 a7, pick8 b0 b7]
    repeat' apply And.intro
    all_goals first
      | exact hm ▸ rMayC
      | exact powerC hp0.1 hp0.2
      | exact hpz
      | trivial
      | rfl
      | omega
      | ((try dsimp only [rowL, rowN]); simp only [beq_iff_eq, beq_eq_false_iff_ne, bne_iff_ne, bne_eq_false_iff_eq, decide_eq_true_eq, decide_eq_false_iff_not, ne_eq, Bool.not_eq_true', Bool.not_eq_false', Bool.not_eq_eq_eq_not, Bool.not_true, Bool.not_false, Option.some.injEq, Option.getD_some, Option.getD_none]; omega)
      | (simp; done)
      | (simp; omega)
  try simp only [pick8 a0 a7, pick8 b0 b7]
  refine SG.ret tab_ok Tryd.func14 rfl ?_
  intro ρ w' v hm hv
  exact Post.mk hm (.tup [.agg (cpuC (updR R a.toNat (IntKind.u32.wrap ((R a.toNat) * 2 ^ ((R b.toNat).tmod 32).toNat))) (IntKind.u32.wrap (p + 4))), .one (.lb true)]) [] none [] hv rfl rows0 rfl (by simp)
set_option maxHeartbeats 4000000 in
set_option maxRecDepth 100000 in
theorem rAlu12 {R : Nat → Int} {p a b i : Int} (hR : regs R) (hm : rMay 12 a b i = true) : CallOk Tryd.prog W B Rs 14 [cpuS R p, insS 12 a b i] (hdT [.agg (cpuC (updR R a.toNat (recN 12 (R a.toNat) (R b.toNat) i)) (IntKind.u32.wrap (p + 4))), .one (.lb true)]) := by
  obtain ⟨_, _, a0, a7, b0, b7, _, _⟩ := may_range hm
  obtain ⟨x0, x1⟩ := hR a.toNat (by omega)
  obtain ⟨y0, y1⟩ := hR b.toNat (by omega)
  have hmod : (R b.toNat).tmod 32 = R b.toNat % 32 := Int.tmod_eq_emod_of_nonneg y0
  have hp0 : 0 ≤ (R b.toNat).tmod 32 ∧ (R b.toNat).tmod 32 ≤ 31 := by omega
  have hpw := pow_lt hp0.1 hp0.2
  have hpz : (2 : Int) ^ ((R b.toNat).tmod 32).toNat ≠ 0 := by omega
  rw [v12 x0 x1 y0 y1]
  refine CallOk.enter Tryd.func14 (by kernel_rfl) rfl [] [] [cpuS R p, insS 12 a b i] rfl rows0 (fun r h => by cases h) rfl rfl ?_
  intro w blk hblk
  refine SG.walk tab_ok mx 400 [false, false, false, false, false, false, false, false, false, false, false, false, false, true, false, false, false, false, false, false, false] [hdB true, hdU (2 ^ ((R b.toNat).tmod 32).toNat)] ?_
  conv => whnf
  try dsimp only [rowL, rowN, growOk, hiN, fromL, tightN, maxOk]
  refine ⟨?_, ?_⟩
  · try simp only [pick8 a0 a7, pick8 b0 b7]
    repeat' apply And.intro
    all_goals first
      | exact hm ▸ rMayC
      | exact powerC hp0.1 hp0.2
      | exact hpz
      | trivial
      | rfl
      | omega
      | ((try dsimp only [rowL, rowN]); simp only [beq_iff_eq, beq_eq_false_iff_ne, bne_iff_ne, bne_eq_false_iff_eq, decide_eq_true_eq, decide_eq_false_iff_not, ne_eq, Bool.not_eq_true', Bool.not_eq_false', Bool.not_eq_eq_eq_not, Bool.not_true, Bool.not_false, Option.some.injEq, Option.getD_some, Option.getD_none]; omega)
      | (simp; done)
      | (simp; omega)
  try simp only [pick8 a0 a7, pick8 b0 b7]
  refine SG.ret tab_ok Tryd.func14 rfl ?_
  intro ρ w' v hm hv
  exact Post.mk hm (.tup [.agg (cpuC (updR R a.toNat (IntKind.u32.wrap ((R a.toNat).tdiv (2 ^ ((R b.toNat).tmod 32).toNat)))) (IntKind.u32.wrap (p + 4))), .one (.lb true)]) [] none [] hv rfl rows0 rfl (by simp)
set_option maxHeartbeats 4000000 in
set_option maxRecDepth 100000 in
theorem rAlu13 {R : Nat → Int} {p a b i : Int} (hR : regs R) (hm : rMay 13 a b i = true) : CallOk Tryd.prog W B Rs 14 [cpuS R p, insS 13 a b i] (hdT [.agg (cpuC (updR R a.toNat (recN 13 (R a.toNat) (R b.toNat) i)) (IntKind.u32.wrap (p + 4))), .one (.lb true)]) := by
  obtain ⟨_, _, a0, a7, b0, b7, _, _⟩ := may_range hm
  obtain ⟨x0, x1⟩ := hR a.toNat (by omega)
  obtain ⟨y0, y1⟩ := hR b.toNat (by omega)
  rw [v13 x0 x1 y0 y1]
  refine CallOk.enter Tryd.func14 (by kernel_rfl) rfl [] [] [cpuS R p, insS 13 a b i] rfl rows0 (fun r h => by cases h) rfl rfl ?_
  intro w blk hblk
  refine SG.walk tab_ok mx 400 [false, false, false, false, false, false, false, false, false, false, false, false, false, false, true, false, false, false, false, false, false] [hdB true] ?_
  conv => whnf
  try dsimp only [rowL, rowN, growOk, hiN, fromL, tightN, maxOk]
  refine ⟨?_, ?_⟩
  · try simp only [pick8 a0 a7, pick8 b0 b7]
    repeat' apply And.intro
    all_goals first
      | exact hm ▸ rMayC
      | trivial
      | rfl
      | omega
      | ((try dsimp only [rowL, rowN]); simp only [beq_iff_eq, beq_eq_false_iff_ne, bne_iff_ne, bne_eq_false_iff_eq, decide_eq_true_eq, decide_eq_false_iff_not, ne_eq, Bool.not_eq_true', Bool.not_eq_false', Bool.not_eq_eq_eq_not, Bool.not_true, Bool.not_false, Option.some.injEq, Option.getD_some, Option.getD_none]; omega)
      | (simp; done)
      | (simp; omega)
  try simp only [pick8 a0 a7, pick8 b0 b7]
  refine SG.ret tab_ok Tryd.func14 rfl ?_
  intro ρ w' v hm hv
  exact Post.mk hm (.tup [.agg (cpuC (updR R a.toNat (IntKind.u32.wrap ((R a.toNat) + IntKind.u32.wrap i))) (IntKind.u32.wrap (p + 4))), .one (.lb true)]) [] none [] hv rfl rows0 rfl (by simp)
set_option maxHeartbeats 4000000 in
set_option maxRecDepth 100000 in
theorem rDoesAlu {R : Nat → Int} {p o a b i : Int} (hR : regs R) (hm : rMay o a b i = true) (h : 1 ≤ o ∧ o ≤ 13) : CallOk Tryd.prog W B Rs 14 [cpuS R p, insS o a b i] (hdT [.agg (cpuC (updR R a.toNat (recN o (R a.toNat) (R b.toNat) i)) (IntKind.u32.wrap (p + 4))), .one (.lb true)]) := by
  have hc : o = 1 ∨ o = 2 ∨ o = 3 ∨ o = 4 ∨ o = 5 ∨ o = 6 ∨ o = 7 ∨ o = 8 ∨ o = 9 ∨ o = 10 ∨ o = 11 ∨ o = 12 ∨ o = 13 := by omega
  rcases hc with rfl | rfl | rfl | rfl | rfl | rfl | rfl | rfl | rfl | rfl | rfl | rfl | rfl
  · exact rAlu1 hR hm
  · exact rAlu2 hR hm
  · exact rAlu3 hR hm
  · exact rAlu4 hR hm
  · exact rAlu5 hR hm
  · exact rAlu6 hR hm
  · exact rAlu7 hR hm
  · exact rAlu8 hR hm
  · exact rAlu9 hR hm
  · exact rAlu10 hR hm
  · exact rAlu11 hR hm
  · exact rAlu12 hR hm
  · exact rAlu13 hR hm
end
end Go.Proofs.YtcdoofjddhlodaaDoor
