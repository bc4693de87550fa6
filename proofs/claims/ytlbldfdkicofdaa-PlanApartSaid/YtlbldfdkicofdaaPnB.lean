/- Plans as bytes. -/
import Derived.Test.YtlbldfdkicofdaaPnA
namespace Go.Proofs.Ytlbldfdkicofdaa
open Go.Sx Go.RowKit
set_option linter.unusedVariables false
set_option linter.unusedSimpArgs false
abbrev aS (x : ByteArray) : At := .v (.string x)
abbrev hdT (l : List Cv) : Hd := mkHd (.tup l) []
def mk2 : List UInt8 := [84, 80]
def byN (N : List Int) : List UInt8 := mk2 ++ N.flatMap enc2
theorem enc2_len (N : List Int) : (N.flatMap enc2).length = 2 * N.length := by
  induction N with
  | nil => rfl
  | cons x l ih => rw [List.flatMap_cons, List.length_append, ih]; simp [enc2]; omega
theorem byN_len (N : List Int) : (byN N).length = 2 + 2 * N.length := by rw [byN, List.length_append, enc2_len]; rfl
theorem byN_app (N L : List Int) : byN N ++ L.flatMap enc2 = byN (N ++ L) := by simp [byN]
def paN (x : Pa) : List Int := [x.m, x.a, x.b, x.c]
def wnN (x : Wn) : List Int := [x.p, x.f, x.l]
def chN (x : Ch) : List Int := [x.k, x.f, x.t, x.s, x.d]
def roN (L : List Wn) : List Int := (L.length : Int) :: L.flatMap wnN
def nums (P : List Pa) (F : Int) (S : List RW) (C : List Ch) : List Int := (P.length : Int) :: P.flatMap paN ++ [F, (S.length : Int)] ++ S.flatMap (fun r => roN r.L) ++ [(C.length : Int)] ++ C.flatMap chN
def pB (P : List Pa) (F : Int) (S : List RW) (C : List Ch) : ByteArray := ⟨(byN (nums P F S C)).toArray⟩
theorem lit1 {a : Int} {c : Nat → List At} {e : TypeId} (h0 : c 0 = iC a) : RowLe ⟨1, 1, c, some e, true, true⟩ (rowIs [a]) :=
  ⟨rfl, rfl, .inl rfl, (fun h => by cases h), (fun h => by cases h), fun i hi => by match i, hi with | 0, _ => exact h0.symm⟩
theorem lit2 {a b : Int} {c : Nat → List At} {e : TypeId} (h0 : c 0 = iC a) (h1 : c 1 = iC b) : RowLe ⟨1, 2, c, some e, true, true⟩ (rowIs [a, b]) :=
  ⟨rfl, rfl, .inl rfl, (fun h => by cases h), (fun h => by cases h), fun i hi => by match i, hi with | 0, _ => exact h0.symm | 1, _ => exact h1.symm⟩
theorem lit3 {a b d : Int} {c : Nat → List At} {e : TypeId} (h0 : c 0 = iC a) (h1 : c 1 = iC b) (h2 : c 2 = iC d) : RowLe ⟨1, 3, c, some e, true, true⟩ (rowIs [a, b, d]) :=
  ⟨rfl, rfl, .inl rfl, (fun h => by cases h), (fun h => by cases h), fun i hi => by match i, hi with | 0, _ => exact h0.symm | 1, _ => exact h1.symm | 2, _ => exact h2.symm⟩
theorem lit4 {a b d f : Int} {c : Nat → List At} {e : TypeId} (h0 : c 0 = iC a) (h1 : c 1 = iC b) (h2 : c 2 = iC d) (h3 : c 3 = iC f) : RowLe ⟨1, 4, c, some e, true, true⟩ (rowIs [a, b, d, f]) :=
  ⟨rfl, rfl, .inl rfl, (fun h => by cases h), (fun h => by cases h), fun i hi => by match i, hi with | 0, _ => exact h0.symm | 1, _ => exact h1.symm | 2, _ => exact h2.symm | 3, _ => exact h3.symm⟩
theorem lit5 {a b d f g : Int} {c : Nat → List At} {e : TypeId} (h0 : c 0 = iC a) (h1 : c 1 = iC b) (h2 : c 2 = iC d) (h3 : c 3 = iC f) (h4 : c 4 = iC g) : RowLe ⟨1, 5, c, some e, true, true⟩ (rowIs [a, b, d, f, g]) :=
  ⟨rfl, rfl, .inl rfl, (fun h => by cases h), (fun h => by cases h), fun i hi => by match i, hi with | 0, _ => exact h0.symm | 1, _ => exact h1.symm | 2, _ => exact h2.symm | 3, _ => exact h3.symm | 4, _ => exact h4.symm⟩
theorem litMk {c : Nat → List At} (h0 : c 0 = bC 84) (h1 : c 1 = bC 80) : RowLe ⟨1, 2, c, some 5, true, true⟩ (rowBy (byN [])) :=
  ⟨rfl, rfl, .inr rfl, (fun h => by cases h), (fun _ => rfl), fun i hi => by match i, hi with | 0, _ => exact h0.symm | 1, _ => exact h1.symm⟩
theorem flat_succ {α β : Type} {L : List α} {k : Nat} {d : α} {g : α → List β} (h : k < L.length) : (L.take (k + 1)).flatMap g = (L.take k).flatMap g ++ g (L.getD k d) := by
  rw [take_snoc (d := d) h]; simp [- List.getD_eq_getElem?_getD]
def nA (P : List Pa) (k : Nat) : List Int := (P.length : Int) :: (P.take k).flatMap paN
def nB (A : List Int) (S : List RW) (k : Nat) : List Int := A ++ (S.take k).flatMap (fun r => roN r.L)
def nR (A : List Int) (L : List Wn) (j : Nat) : List Int := (A ++ [(L.length : Int)]) ++ (L.take j).flatMap wnN
def nC (A : List Int) (C : List Ch) (k : Nat) : List Int := A ++ (C.take k).flatMap chN
theorem nA_succ {P : List Pa} {k : Nat} (h : k < P.length) : nA P k ++ [(P.getD k pa0).m, (P.getD k pa0).a, (P.getD k pa0).b, (P.getD k pa0).c] = nA P (k + 1) := by
  unfold nA; rw [flat_succ (d := pa0) h]; try rfl
theorem nR_succ {A : List Int} {L : List Wn} {j : Nat} (h : j < L.length) : nR A L j ++ [(L.getD j wn0).p, (L.getD j wn0).f, (L.getD j wn0).l] = nR A L (j + 1) := by
  unfold nR; rw [flat_succ (d := wn0) h]; simp [wnN, - List.getD_eq_getElem?_getD]
theorem nC_succ {A : List Int} {C : List Ch} {k : Nat} (h : k < C.length) : nC A C k ++ [(C.getD k ch0).k, (C.getD k ch0).f, (C.getD k ch0).t, (C.getD k ch0).s, (C.getD k ch0).d] = nC A C (k + 1) := by
  unfold nC; rw [flat_succ (d := ch0) h]; simp [chN, - List.getD_eq_getElem?_getD]
theorem nB_succ {A : List Int} {S : List RW} {k : Nat} (h : k < S.length) : nR (nB A S k) (S.getD k rw0).L (S.getD k rw0).L.length = nB A S (k + 1) := by
  unfold nR nB; rw [flat_succ (d := rw0) h, List.take_length]; simp [roN, - List.getD_eq_getElem?_getD]
theorem nA_len {P : List Pa} {k : Nat} (h : k < P.length) (hl : (nA P k).length = 1 + 4 * k) : (nA P (k + 1)).length = 1 + 4 * (k + 1) := by
  rw [← nA_succ h, List.length_append, hl]; simp; omega
theorem nums_eq (P : List Pa) (F : Int) (S : List RW) (C : List Ch) {k1 k2 k3 : Nat} (h1 : ¬ k1 < P.length) (h2 : ¬ k2 < S.length) (h3 : ¬ k3 < C.length) : nC (nB (nA P k1 ++ [F, (S.length : Int)]) S k2 ++ [(C.length : Int)]) C k3 = nums P F S C := by
  unfold nC nB nA nums
  rw [List.take_of_length_le (by omega), List.take_of_length_le (by omega), List.take_of_length_le (by omega)]
section
variable {W : Base} {B : List (Option (List At))} {Rs : List (Option Row)}
theorem numbersN {r q : Nat} {R Q : Row} {N L M : List Int} (hM : N ++ L = M) (hne : r ≠ q) (hr : Rs[r]? = some (some R)) (hR : RowLe R (rowBy (byN N))) (hq : Rs[q]? = some (some Q)) (hQ : RowLe Q (rowIs L)) (hl : N.length ≤ 10000) (hL : L.length ≤ 8) :
    CallOk Try.prog W B Rs 18 [rsV r, rsV q] (mkHd (rsV 0) [rowBy (byN M)] (some r)) := by
  subst hM
  rw [← byN_app]
  exact numbersC hne hr hR hq hQ (by rw [byN_len]; omega) hL
set_option maxRecDepth 100000 in
theorem bytesNo {a b c : Nat} {P : List Pa} {S : List RW} {C : List Ch} {F e : Int} (h : PlanAt Rs a b c P S C) (hS : okS S) (he : chk P F S C = e) (h0 : e ≠ 0) : CallOk Try.prog W B Rs 9 [planV a F b c] (hdT [.one (aS ⟨#[]⟩), .one (aI e)]) := by
  refine CallOk.enter Try.func9 (by kernel_rfl) rfl [a, b, c] [rowPa P, rowWs S, rowCh C] [planV 0 F 1 2] rfl h.rows (fun r h => by cases h) rfl rfl ?_
  intro w blk hblk
  refine SG.walk tab_ok mx 400 [true] [hdInt e] ?_
  conv => whnf
  try dsimp only [rowL, rowN, growOk, hiN, fromL, tightN, maxOk]
  refine ⟨?_, ?_⟩
  · repeat' apply And.intro
    all_goals first
      | exact ckX (thereP rfl rfl rfl) hS he
      | exact h0
      | trivial
      | rfl
      | omega
      | ((try dsimp only [rowL, rowN]); simp only [beq_iff_eq, beq_eq_false_iff_ne, bne_iff_ne, bne_eq_false_iff_eq, decide_eq_true_eq, decide_eq_false_iff_not, ne_eq, Bool.not_eq_true', Bool.not_eq_false', Bool.not_eq_eq_eq_not, Bool.not_true, Bool.not_false, Option.some.injEq, Option.getD_some, Option.getD_none]; omega)
      | (simp; done)
      | (simp; omega)
  refine SG.ret tab_ok Try.func9 rfl ?_
  intro ρ w' v hm hv
  exact Post.mk hm (.tup [.one (aS ⟨#[]⟩), .one (aI e)]) [] none [] hv rfl rows0 rfl (by simp)
set_option maxRecDepth 100000 in
theorem bytesYes {a b c : Nat} {P : List Pa} {S : List RW} {C : List Ch} {F : Int} (h : PlanAt Rs a b c P S C) (hS : okS S) (he : chk P F S C = 0) : CallOk Try.prog W B Rs 9 [planV a F b c] (hdT [.one (aS (pB P F S C)), .one (aI 0)]) := by
  have M := May.of he
  refine CallOk.enter Try.func9 (by kernel_rfl) rfl [a, b, c] [rowPa P, rowWs S, rowCh C] [planV 0 F 1 2] rfl h.rows (fun r h => by cases h) rfl rfl ?_
  intro w blk hblk
  refine SG.walk tab_ok mx 400 [false] [hdInt 0] ?_
  conv => whnf
  try dsimp only [rowL, rowN, growOk, hiN, fromL, tightN, maxOk]
  refine ⟨?_, ?_⟩
  · repeat' apply And.intro
    all_goals first
      | exact ckX (thereP rfl rfl rfl) hS he
      | trivial
      | rfl
      | omega
      | ((try dsimp only [rowL, rowN]); simp only [beq_iff_eq, beq_eq_false_iff_ne, bne_iff_ne, bne_eq_false_iff_eq, decide_eq_true_eq, decide_eq_false_iff_not, ne_eq, Bool.not_eq_true', Bool.not_eq_false', Bool.not_eq_eq_eq_not, Bool.not_true, Bool.not_false, Option.some.injEq, Option.getD_some, Option.getD_none]; omega)
      | (simp; done)
      | (simp; omega)
  refine SG.markBytes tab_ok (r := 3) rfl rfl rfl rfl rfl rfl rfl rfl rfl rfl (Nat.succ_pos _) ?_
  refine SG.norm ?_
  conv => whnf
  have hp1 := M.p1
  have hp4 := M.p4
  have hs1 := M.s1
  have hs3 := M.s3
  have hc6 := M.c6
  refine SG.walk tab_ok mx 400 [] [mkHd (rsV 0) [rowBy (byN (nA P 0))] (some 3)] ?_
  conv => whnf
  try dsimp only [rowL, rowN, growOk, hiN, fromL, tightN, maxOk]
  refine ⟨?_, ?_⟩
  · exact numbersN (N := []) (L := [(P.length : Int)]) rfl (by decide) rfl (litMk rfl rfl) rfl (lit1 rfl) (by decide) (Nat.le_of_ble_eq_true rfl)
  refine SG.loop (fun k : Nat => ⟨puts (List.replicate (Try.f9).ntmps .any) [(1, bpV 0), (5, rsV 3), (27, rsV 0), (28, intV P.length), (29, intV k)], [some [.rs 0, aI F, .rs 1, .rs 2]], [some (rowPa P), some (rowWs S), some (rowCh C), some (rowBy (byN (nA P k)))], []⟩) (fun k => k ≤ P.length ∧ (nA P k).length = 1 + 4 * k) (fun k => P.length - k) (0) (⟨Nat.zero_le _, rfl⟩) (fun h => SG.sub [0] [0, 1, 2, 5] ⟨?_, ?_, ?_, by decide, rfl, rfl, rfl, ?_⟩ h) ?_
  · repeat' (first | exact trivial | exact rfl | refine And.intro ?_ ?_)
  · repeat' (first | exact trivial | exact rfl | refine And.intro ?_ ?_)
  · repeat' (first | exact trivial | refine ⟨⟨_, rfl, ⟨rfl, rfl, .inl rfl, (fun h => by first | exact h | cases h), (fun h => by first | exact h | cases h), fun _ _ => rfl⟩, fun _ _ => rfl⟩, ?_⟩ | refine ⟨⟨_, rfl, ⟨rfl, rfl, .inr rfl, (fun h => by first | exact h | cases h), (fun h => by first | exact h | cases h), fun _ _ => rfl⟩, fun _ _ => rfl⟩, ?_⟩ | refine ⟨⟨_, rfl, ⟨rfl, rfl, .inr rfl, (fun h => by first | exact h | cases h), (fun h => by first | exact h | cases h), fun i hi => absurd hi (Nat.not_lt_zero i)⟩, fun i hi => absurd hi (Nat.not_lt_zero i)⟩, ?_⟩ | refine ⟨⟨_, rfl, ⟨rfl, rfl, .inl rfl, (fun h => by first | exact h | cases h), (fun h => by first | exact h | cases h), fun i hi => ren_closed (hQc i hi)⟩, fun i hi => inn_closed (hQc i hi)⟩, ?_⟩)
  · repeat' (first | exact trivial | exact rfl | refine And.intro ?_ ?_)
  rintro k1 ⟨hk1, hm1⟩ next1
  try dsimp only at hk1 hm1 next1 ⊢
  by_cases hlt1 : k1 < P.length
  · refine SG.walk tab_ok mx 400 [true] [mkHd (rsV 0) [rowBy (byN (nA P (k1 + 1)))] (some 3)] ?_
    conv => whnf
    try dsimp only [rowL, rowN, growOk, hiN, fromL, tightN, maxOk]
    refine ⟨?_, ?_⟩
    · repeat' apply And.intro
      all_goals first
        | exact numbersN (nA_succ hlt1) (by decide) rfl (.refl _) rfl (lit4 rfl rfl rfl rfl) (by omega) (Nat.le_of_ble_eq_true rfl)
        | trivial
        | rfl
        | omega
        | ((try dsimp only [rowL, rowN]); simp only [beq_iff_eq, beq_eq_false_iff_ne, bne_iff_ne, bne_eq_false_iff_eq, decide_eq_true_eq, decide_eq_false_iff_not, ne_eq, Bool.not_eq_true', Bool.not_eq_false', Bool.not_eq_eq_eq_not, Bool.not_true, Bool.not_false, Option.some.injEq, Option.getD_some, Option.getD_none]; omega)
        | (simp; done)
        | (simp; omega)
    rw [wI (x := (k1 : Int) + 1) (by omega) (by omega)]
    refine SG.sub [0] [0, 1, 2, 5] ⟨?_, ?_, ?_, by decide, rfl, rfl, rfl, ?_⟩ (next1 (k1 + 1) ⟨hlt1, nA_len hlt1 hm1⟩ (by omega))
    · repeat' (first | exact trivial | exact rfl | refine And.intro ?_ ?_)
    · repeat' (first | exact trivial | exact rfl | refine And.intro ?_ ?_)
    · repeat' (first | exact trivial | refine ⟨⟨_, rfl, ⟨rfl, rfl, .inl rfl, (fun h => by first | exact h | cases h), (fun h => by first | exact h | cases h), fun _ _ => rfl⟩, fun _ _ => rfl⟩, ?_⟩ | refine ⟨⟨_, rfl, ⟨rfl, rfl, .inr rfl, (fun h => by first | exact h | cases h), (fun h => by first | exact h | cases h), fun _ _ => rfl⟩, fun _ _ => rfl⟩, ?_⟩ | refine ⟨⟨_, rfl, ⟨rfl, rfl, .inr rfl, (fun h => by first | exact h | cases h), (fun h => by first | exact h | cases h), fun i hi => absurd hi (Nat.not_lt_zero i)⟩, fun i hi => absurd hi (Nat.not_lt_zero i)⟩, ?_⟩ | refine ⟨⟨_, rfl, ⟨rfl, rfl, .inl rfl, (fun h => by first | exact h | cases h), (fun h => by first | exact h | cases h), fun i hi => ren_closed (hQc i hi)⟩, fun i hi => inn_closed (hQc i hi)⟩, ?_⟩)
    · repeat' (first | exact trivial | exact rfl | refine And.intro ?_ ?_)
  · refine SG.walk tab_ok mx 400 [false] [mkHd (rsV 0) [rowBy (byN (nA P k1 ++ [F, (S.length : Int)]))] (some 3)] ?_
    conv => whnf
    try dsimp only [rowL, rowN, growOk, hiN, fromL, tightN, maxOk]
    refine ⟨?_, ?_⟩
    · repeat' apply And.intro
      all_goals first
        | exact numbersN rfl (by decide) rfl (.refl _) rfl (lit2 rfl rfl) (by omega) (Nat.le_of_ble_eq_true rfl)
        | trivial
        | rfl
        | omega
        | ((try dsimp only [rowL, rowN]); simp only [beq_iff_eq, beq_eq_false_iff_ne, bne_iff_ne, bne_eq_false_iff_eq, decide_eq_true_eq, decide_eq_false_iff_not, ne_eq, Bool.not_eq_true', Bool.not_eq_false', Bool.not_eq_eq_eq_not, Bool.not_true, Bool.not_false, Option.some.injEq, Option.getD_some, Option.getD_none]; omega)
        | (simp; done)
        | (simp; omega)
    have hA : (nA P k1 ++ [F, (S.length : Int)]).length ≤ 19 := by rw [List.length_append, hm1]; simp; omega
    have hAB : byN (nA P k1 ++ [F, (S.length : Int)]) = byN (nB (nA P k1 ++ [F, (S.length : Int)]) S 0) := by unfold nB; rw [List.take_zero, List.flatMap_nil, List.append_nil]
    have hA0 : (nB (nA P k1 ++ [F, (S.length : Int)]) S 0).length = (nA P k1 ++ [F, (S.length : Int)]).length := by unfold nB; rw [List.take_zero, List.flatMap_nil, List.append_nil]
    rw [hAB]
    have hend := fun k2 k3 h2 h3 => nums_eq P F S C (k1 := k1) (k2 := k2) (k3 := k3) hlt1 h2 h3
    generalize nA P k1 ++ [F, (S.length : Int)] = A at hA hA0 hend ⊢
    refine SG.loop (fun k : Nat => ⟨puts (List.replicate (Try.f9).ntmps .any) [(1, bpV 0), (5, rsV 3), (57, rsV 1), (58, intV S.length), (59, intV k)], [some [.rs 0, aI F, .rs 1, .rs 2]], [some (rowPa P), some (rowWs S), some (rowCh C), some (rowBy (byN (nB A S k)))], []⟩) (fun k => k ≤ S.length ∧ (nB A S k).length ≤ 19 + 25 * k) (fun k => S.length - k) (0) (⟨Nat.zero_le _, by omega⟩) (fun h => SG.sub [0] [0, 1, 2, 5] ⟨?_, ?_, ?_, by decide, rfl, rfl, rfl, ?_⟩ h) ?_
    · repeat' (first | exact trivial | exact rfl | refine And.intro ?_ ?_)
    · repeat' (first | exact trivial | exact rfl | refine And.intro ?_ ?_)
    · repeat' (first | exact trivial | refine ⟨⟨_, rfl, ⟨rfl, rfl, .inl rfl, (fun h => by first | exact h | cases h), (fun h => by first | exact h | cases h), fun _ _ => rfl⟩, fun _ _ => rfl⟩, ?_⟩ | refine ⟨⟨_, rfl, ⟨rfl, rfl, .inr rfl, (fun h => by first | exact h | cases h), (fun h => by first | exact h | cases h), fun _ _ => rfl⟩, fun _ _ => rfl⟩, ?_⟩ | refine ⟨⟨_, rfl, ⟨rfl, rfl, .inr rfl, (fun h => by first | exact h | cases h), (fun h => by first | exact h | cases h), fun i hi => absurd hi (Nat.not_lt_zero i)⟩, fun i hi => absurd hi (Nat.not_lt_zero i)⟩, ?_⟩ | refine ⟨⟨_, rfl, ⟨rfl, rfl, .inl rfl, (fun h => by first | exact h | cases h), (fun h => by first | exact h | cases h), fun i hi => ren_closed (hQc i hi)⟩, fun i hi => inn_closed (hQc i hi)⟩, ?_⟩)
    · repeat' (first | exact trivial | exact rfl | refine And.intro ?_ ?_)
    rintro k2 ⟨hk2, hm2⟩ next2
    try dsimp only at hk2 hm2 next2 ⊢
    by_cases hlt2 : k2 < S.length
    · have hl8 := M.l8 _ (getD_mem' (d := rw0) hlt2)
      refine SG.walk tab_ok mx 400 [true] [mkHd (rsV 0) [rowBy (byN (nR (nB A S k2) (S.getD k2 rw0).L 0))] (some 3)] ?_
      conv => whnf
      try dsimp only [rowL, rowN, growOk, hiN, fromL, tightN, maxOk]
      refine ⟨?_, ?_⟩
      · repeat' apply And.intro
        all_goals first
          | exact numbersN (L := [((S.getD k2 rw0).L.length : Int)]) (by simp [nR]) (by decide) rfl (.refl _) rfl (lit1 rfl) (by omega) (Nat.le_of_ble_eq_true rfl)
          | trivial
          | rfl
          | omega
          | ((try dsimp only [rowL, rowN]); simp only [beq_iff_eq, beq_eq_false_iff_ne, bne_iff_ne, bne_eq_false_iff_eq, decide_eq_true_eq, decide_eq_false_iff_not, ne_eq, Bool.not_eq_true', Bool.not_eq_false', Bool.not_eq_eq_eq_not, Bool.not_true, Bool.not_false, Option.some.injEq, Option.getD_some, Option.getD_none]; omega)
          | (simp; done)
          | (simp; omega)
      refine SG.loop (fun j : Nat => ⟨puts (List.replicate (Try.f9).ntmps .any) [(1, bpV 0), (5, rsV 3), (57, rsV 1), (58, intV S.length), (59, intV k2), (68, rwV (S.getD k2 rw0)), (69, intV (S.getD k2 rw0).L.length), (70, intV j)], [some [.rs 0, aI F, .rs 1, .rs 2]], [some (rowPa P), some (rowWs S), some (rowCh C), some (rowBy (byN (nR (nB A S k2) (S.getD k2 rw0).L j)))], []⟩) (fun j => j ≤ (S.getD k2 rw0).L.length ∧ (nR (nB A S k2) (S.getD k2 rw0).L j).length ≤ 20 + 25 * k2 + 3 * j) (fun j => (S.getD k2 rw0).L.length - j) (0) (⟨Nat.zero_le _, by simp [nR]; omega⟩) (fun h => SG.sub [0] [0, 1, 2, 5] ⟨?_, ?_, ?_, by decide, rfl, rfl, rfl, ?_⟩ h) ?_
      · repeat' (first | exact trivial | exact rfl | refine And.intro ?_ ?_)
      · repeat' (first | exact trivial | exact rfl | refine And.intro ?_ ?_)
      · repeat' (first | exact trivial | refine ⟨⟨_, rfl, ⟨rfl, rfl, .inl rfl, (fun h => by first | exact h | cases h), (fun h => by first | exact h | cases h), fun _ _ => rfl⟩, fun _ _ => rfl⟩, ?_⟩ | refine ⟨⟨_, rfl, ⟨rfl, rfl, .inr rfl, (fun h => by first | exact h | cases h), (fun h => by first | exact h | cases h), fun _ _ => rfl⟩, fun _ _ => rfl⟩, ?_⟩ | refine ⟨⟨_, rfl, ⟨rfl, rfl, .inr rfl, (fun h => by first | exact h | cases h), (fun h => by first | exact h | cases h), fun i hi => absurd hi (Nat.not_lt_zero i)⟩, fun i hi => absurd hi (Nat.not_lt_zero i)⟩, ?_⟩ | refine ⟨⟨_, rfl, ⟨rfl, rfl, .inl rfl, (fun h => by first | exact h | cases h), (fun h => by first | exact h | cases h), fun i hi => ren_closed (hQc i hi)⟩, fun i hi => inn_closed (hQc i hi)⟩, ?_⟩)
      · repeat' (first | exact trivial | exact rfl | refine And.intro ?_ ?_)
      rintro j ⟨hj, hmj⟩ nextj
      try dsimp only at hj hmj nextj ⊢
      by_cases hltj : j < (S.getD k2 rw0).L.length
      · refine SG.walk tab_ok mx 400 [true] [mkHd (rsV 0) [rowBy (byN (nR (nB A S k2) (S.getD k2 rw0).L (j + 1)))] (some 3)] ?_
        conv => whnf
        try dsimp only [rowL, rowN, growOk, hiN, fromL, tightN, maxOk]
        refine ⟨?_, ?_⟩
        · repeat' apply And.intro
          all_goals first
            | exact numbersN (nR_succ hltj) (by decide) rfl (.refl _) rfl (lit3 rfl rfl rfl) (by omega) (Nat.le_of_ble_eq_true rfl)
            | trivial
            | rfl
            | omega
            | ((try dsimp only [rowL, rowN]); simp only [beq_iff_eq, beq_eq_false_iff_ne, bne_iff_ne, bne_eq_false_iff_eq, decide_eq_true_eq, decide_eq_false_iff_not, ne_eq, Bool.not_eq_true', Bool.not_eq_false', Bool.not_eq_eq_eq_not, Bool.not_true, Bool.not_false, Option.some.injEq, Option.getD_some, Option.getD_none]; omega)
            | (simp; done)
            | (simp; omega)
        rw [wI (x := (j : Int) + 1) (by omega) (by omega)]
        refine SG.sub [0] [0, 1, 2, 5] ⟨?_, ?_, ?_, by decide, rfl, rfl, rfl, ?_⟩ (nextj (j + 1) ⟨hltj, by rw [← nR_succ hltj, List.length_append]; simp only [List.length_cons, List.length_nil]; omega⟩ (by omega))
        · repeat' (first | exact trivial | exact rfl | refine And.intro ?_ ?_)
        · repeat' (first | exact trivial | exact rfl | refine And.intro ?_ ?_)
        · repeat' (first | exact trivial | refine ⟨⟨_, rfl, ⟨rfl, rfl, .inl rfl, (fun h => by first | exact h | cases h), (fun h => by first | exact h | cases h), fun _ _ => rfl⟩, fun _ _ => rfl⟩, ?_⟩ | refine ⟨⟨_, rfl, ⟨rfl, rfl, .inr rfl, (fun h => by first | exact h | cases h), (fun h => by first | exact h | cases h), fun _ _ => rfl⟩, fun _ _ => rfl⟩, ?_⟩ | refine ⟨⟨_, rfl, ⟨rfl, rfl, .inr rfl, (fun h => by first | exact h | cases h), (fun h => by first | exact h | cases h), fun i hi => absurd hi (Nat.not_lt_zero i)⟩, fun i hi => absurd hi (Nat.not_lt_zero i)⟩, ?_⟩ | refine ⟨⟨_, rfl, ⟨rfl, rfl, .inl rfl, (fun h => by first | exact h | cases h), (fun h => by first | exact h | cases h), fun i hi => ren_closed (hQc i hi)⟩, fun i hi => inn_closed (hQc i hi)⟩, ?_⟩)
        · repeat' (first | exact trivial | exact rfl | refine And.intro ?_ ?_)
      · refine SG.walk tab_ok mx 400 [false] [] ?_
        conv => whnf
        try dsimp only [rowL, rowN, growOk, hiN, fromL, tightN, maxOk]
        refine ⟨?_, ?_⟩
        · repeat' apply And.intro
          all_goals first
            | trivial
            | rfl
            | omega
            | ((try dsimp only [rowL, rowN]); simp only [beq_iff_eq, beq_eq_false_iff_ne, bne_iff_ne, bne_eq_false_iff_eq, decide_eq_true_eq, decide_eq_false_iff_not, ne_eq, Bool.not_eq_true', Bool.not_eq_false', Bool.not_eq_eq_eq_not, Bool.not_true, Bool.not_false, Option.some.injEq, Option.getD_some, Option.getD_none]; omega)
            | (simp; done)
            | (simp; omega)
        rw [wI (x := (k2 : Int) + 1) (by omega) (by omega)]
        have hjl : j = (S.getD k2 rw0).L.length := by omega
        rw [hjl, nB_succ hlt2] at hmj ⊢
        refine SG.sub [0] [0, 1, 2, 3] ⟨?_, ?_, ?_, by decide, rfl, rfl, rfl, ?_⟩ (next2 (k2 + 1) ⟨hlt2, by omega⟩ (by omega))
        · repeat' (first | exact trivial | exact rfl | refine And.intro ?_ ?_)
        · repeat' (first | exact trivial | exact rfl | refine And.intro ?_ ?_)
        · repeat' (first | exact trivial | refine ⟨⟨_, rfl, ⟨rfl, rfl, .inl rfl, (fun h => by first | exact h | cases h), (fun h => by first | exact h | cases h), fun _ _ => rfl⟩, fun _ _ => rfl⟩, ?_⟩ | refine ⟨⟨_, rfl, ⟨rfl, rfl, .inr rfl, (fun h => by first | exact h | cases h), (fun h => by first | exact h | cases h), fun _ _ => rfl⟩, fun _ _ => rfl⟩, ?_⟩ | refine ⟨⟨_, rfl, ⟨rfl, rfl, .inr rfl, (fun h => by first | exact h | cases h), (fun h => by first | exact h | cases h), fun i hi => absurd hi (Nat.not_lt_zero i)⟩, fun i hi => absurd hi (Nat.not_lt_zero i)⟩, ?_⟩ | refine ⟨⟨_, rfl, ⟨rfl, rfl, .inl rfl, (fun h => by first | exact h | cases h), (fun h => by first | exact h | cases h), fun i hi => ren_closed (hQc i hi)⟩, fun i hi => inn_closed (hQc i hi)⟩, ?_⟩)
        · repeat' (first | exact trivial | exact rfl | refine And.intro ?_ ?_)
    · refine SG.walk tab_ok mx 400 [false] [mkHd (rsV 0) [rowBy (byN (nB A S k2 ++ [(C.length : Int)]))] (some 3)] ?_
      conv => whnf
      try dsimp only [rowL, rowN, growOk, hiN, fromL, tightN, maxOk]
      refine ⟨?_, ?_⟩
      · repeat' apply And.intro
        all_goals first
          | exact numbersN rfl (by decide) rfl (.refl _) rfl (lit1 rfl) (by omega) (Nat.le_of_ble_eq_true rfl)
          | trivial
          | rfl
          | omega
          | ((try dsimp only [rowL, rowN]); simp only [beq_iff_eq, beq_eq_false_iff_ne, bne_iff_ne, bne_eq_false_iff_eq, decide_eq_true_eq, decide_eq_false_iff_not, ne_eq, Bool.not_eq_true', Bool.not_eq_false', Bool.not_eq_eq_eq_not, Bool.not_true, Bool.not_false, Option.some.injEq, Option.getD_some, Option.getD_none]; omega)
          | (simp; done)
          | (simp; omega)
      have hB : (nB A S k2 ++ [(C.length : Int)]).length ≤ 100 := by rw [List.length_append]; simp; omega
      have hend2 := fun k3 h3 => hend k2 k3 hlt2 h3
      have hBC : byN (nB A S k2 ++ [(C.length : Int)]) = byN (nC (nB A S k2 ++ [(C.length : Int)]) C 0) := by unfold nC; rw [List.take_zero, List.flatMap_nil, List.append_nil]
      have hB0 : (nC (nB A S k2 ++ [(C.length : Int)]) C 0).length = (nB A S k2 ++ [(C.length : Int)]).length := by unfold nC; rw [List.take_zero, List.flatMap_nil, List.append_nil]
      rw [hBC]
      generalize nB A S k2 ++ [(C.length : Int)] = D at hB hB0 hend2 ⊢
      refine SG.loop (fun k : Nat => ⟨puts (List.replicate (Try.f9).ntmps .any) [(1, bpV 0), (5, rsV 3), (92, rsV 2), (93, intV C.length), (94, intV k)], [some [.rs 0, aI F, .rs 1, .rs 2]], [some (rowPa P), some (rowWs S), some (rowCh C), some (rowBy (byN (nC D C k)))], []⟩) (fun k => k ≤ C.length ∧ (nC D C k).length ≤ 100 + 5 * k) (fun k => C.length - k) (0) (⟨Nat.zero_le _, by omega⟩) (fun h => SG.sub [0] [0, 1, 2, 5] ⟨?_, ?_, ?_, by decide, rfl, rfl, rfl, ?_⟩ h) ?_
      · repeat' (first | exact trivial | exact rfl | refine And.intro ?_ ?_)
      · repeat' (first | exact trivial | exact rfl | refine And.intro ?_ ?_)
      · repeat' (first | exact trivial | refine ⟨⟨_, rfl, ⟨rfl, rfl, .inl rfl, (fun h => by first | exact h | cases h), (fun h => by first | exact h | cases h), fun _ _ => rfl⟩, fun _ _ => rfl⟩, ?_⟩ | refine ⟨⟨_, rfl, ⟨rfl, rfl, .inr rfl, (fun h => by first | exact h | cases h), (fun h => by first | exact h | cases h), fun _ _ => rfl⟩, fun _ _ => rfl⟩, ?_⟩ | refine ⟨⟨_, rfl, ⟨rfl, rfl, .inr rfl, (fun h => by first | exact h | cases h), (fun h => by first | exact h | cases h), fun i hi => absurd hi (Nat.not_lt_zero i)⟩, fun i hi => absurd hi (Nat.not_lt_zero i)⟩, ?_⟩ | refine ⟨⟨_, rfl, ⟨rfl, rfl, .inl rfl, (fun h => by first | exact h | cases h), (fun h => by first | exact h | cases h), fun i hi => ren_closed (hQc i hi)⟩, fun i hi => inn_closed (hQc i hi)⟩, ?_⟩)
      · repeat' (first | exact trivial | exact rfl | refine And.intro ?_ ?_)
      rintro k3 ⟨hk3, hm3⟩ next3
      try dsimp only at hk3 hm3 next3 ⊢
      by_cases hlt3 : k3 < C.length
      · refine SG.walk tab_ok mx 400 [true] [mkHd (rsV 0) [rowBy (byN (nC D C (k3 + 1)))] (some 3)] ?_
        conv => whnf
        try dsimp only [rowL, rowN, growOk, hiN, fromL, tightN, maxOk]
        refine ⟨?_, ?_⟩
        · repeat' apply And.intro
          all_goals first
            | exact numbersN (nC_succ hlt3) (by decide) rfl (.refl _) rfl (lit5 rfl rfl rfl rfl rfl) (by omega) (Nat.le_of_ble_eq_true rfl)
            | trivial
            | rfl
            | omega
            | ((try dsimp only [rowL, rowN]); simp only [beq_iff_eq, beq_eq_false_iff_ne, bne_iff_ne, bne_eq_false_iff_eq, decide_eq_true_eq, decide_eq_false_iff_not, ne_eq, Bool.not_eq_true', Bool.not_eq_false', Bool.not_eq_eq_eq_not, Bool.not_true, Bool.not_false, Option.some.injEq, Option.getD_some, Option.getD_none]; omega)
            | (simp; done)
            | (simp; omega)
        rw [wI (x := (k3 : Int) + 1) (by omega) (by omega)]
        refine SG.sub [0] [0, 1, 2, 5] ⟨?_, ?_, ?_, by decide, rfl, rfl, rfl, ?_⟩ (next3 (k3 + 1) ⟨hlt3, by rw [← nC_succ hlt3, List.length_append]; simp only [List.length_cons, List.length_nil]; omega⟩ (by omega))
        · repeat' (first | exact trivial | exact rfl | refine And.intro ?_ ?_)
        · repeat' (first | exact trivial | exact rfl | refine And.intro ?_ ?_)
        · repeat' (first | exact trivial | refine ⟨⟨_, rfl, ⟨rfl, rfl, .inl rfl, (fun h => by first | exact h | cases h), (fun h => by first | exact h | cases h), fun _ _ => rfl⟩, fun _ _ => rfl⟩, ?_⟩ | refine ⟨⟨_, rfl, ⟨rfl, rfl, .inr rfl, (fun h => by first | exact h | cases h), (fun h => by first | exact h | cases h), fun _ _ => rfl⟩, fun _ _ => rfl⟩, ?_⟩ | refine ⟨⟨_, rfl, ⟨rfl, rfl, .inr rfl, (fun h => by first | exact h | cases h), (fun h => by first | exact h | cases h), fun i hi => absurd hi (Nat.not_lt_zero i)⟩, fun i hi => absurd hi (Nat.not_lt_zero i)⟩, ?_⟩ | refine ⟨⟨_, rfl, ⟨rfl, rfl, .inl rfl, (fun h => by first | exact h | cases h), (fun h => by first | exact h | cases h), fun i hi => ren_closed (hQc i hi)⟩, fun i hi => inn_closed (hQc i hi)⟩, ?_⟩)
        · repeat' (first | exact trivial | exact rfl | refine And.intro ?_ ?_)
      · refine SG.walk tab_ok mx 400 [false] [] ?_
        conv => whnf
        try dsimp only [rowL, rowN, growOk, hiN, fromL, tightN, maxOk]
        refine ⟨?_, ?_⟩
        · repeat' apply And.intro
          all_goals first
            | trivial
            | rfl
            | omega
            | ((try dsimp only [rowL, rowN]); simp only [beq_iff_eq, beq_eq_false_iff_ne, bne_iff_ne, bne_eq_false_iff_eq, decide_eq_true_eq, decide_eq_false_iff_not, ne_eq, Bool.not_eq_true', Bool.not_eq_false', Bool.not_eq_eq_eq_not, Bool.not_true, Bool.not_false, Option.some.injEq, Option.getD_some, Option.getD_none]; omega)
            | (simp; done)
            | (simp; omega)
        rw [hend2 k3 hlt3]
        refine SG.convBytes tab_ok (byN (nums P F S C)) (r := 3) rfl rfl rfl rfl rfl rfl rfl rfl rfl rfl rfl rfl rfl (fun j hj => ?_) ?_
        · show bC _ = _
          rw [List.getD_eq_getElem?_getD, List.getElem?_eq_getElem hj]; rfl
        refine SG.norm ?_
        conv => whnf
        refine SG.walk tab_ok mx 400 [] [] ?_
        conv => whnf
        try dsimp only [rowL, rowN, growOk, hiN, fromL, tightN, maxOk]
        refine ⟨?_, ?_⟩
        · repeat' apply And.intro
          all_goals first
            | trivial
            | rfl
            | omega
            | ((try dsimp only [rowL, rowN]); simp only [beq_iff_eq, beq_eq_false_iff_ne, bne_iff_ne, bne_eq_false_iff_eq, decide_eq_true_eq, decide_eq_false_iff_not, ne_eq, Bool.not_eq_true', Bool.not_eq_false', Bool.not_eq_eq_eq_not, Bool.not_true, Bool.not_false, Option.some.injEq, Option.getD_some, Option.getD_none]; omega)
            | (simp; done)
            | (simp; omega)
        refine SG.ret tab_ok Try.func9 rfl ?_
        intro ρ w' v hm hv
        exact Post.mk hm (.tup [.one (aS (pB P F S C)), .one (aI 0)]) [] none [] hv rfl rows0 rfl (by simp)
end
end Go.Proofs.Ytlbldfdkicofdaa
