/- The law of those who come nearer: its walk. -/
import Derived.Test.YtanckelknhiaaaaTurB
import Derived.Test.YtanckelknhiaaaaSxR
namespace Go.Proofs.Ytanckelknhiaaaa
open Go.Sx Go.RowKit
set_option linter.unusedVariables false
set_option linter.unusedSimpArgs false
theorem getD_last {M : List Int} {x : Int} : (M ++ [x]).getD M.length 0 = x := by simp
theorem getD_fore {M : List Int} {x : Int} {k : Nat} (h : k < M.length) : (M ++ [x]).getD k 0 = (x :: M).getD (k + 1) 0 := by
  simp [List.getD_eq_getElem?_getD, List.getElem?_append_left h]
set_option maxRecDepth 100000 in
theorem nearer_walk (w : World) (c : Value) (L : List Int) (l : Int) (hrow : ∀ W ρ, RowOk W ρ w c (rowI L)) (hl : L.length ≤ 17592186044416) :
    Calls Try.prog 3 #[.agg #[c, .int .i64 l]] w fun e w' => e = .returned (.bool true) ∧ Below w.heap.size w w' := by
  obtain ⟨A, cap, rfl, _⟩ := (hrow ⟨w, none⟩ ⟨fun _ => none, fun _ => none⟩).form
  refine calls_top Try.func3 rfl [.slice A L.length cap] [rowI L] [turnV 0 l] (.cons hrow rfl .nil) ⟨rfl, trivial⟩ ?_
  match L, hl with
  | [], hl =>
    refine SG.walk tab_ok mx 400 [true] [mkHd (.cv (.one (.lb true))) [], mkHd (turnV 0 l) [newI []], mkHd (.cv (.one (.lb true))) []] ?_
    conv => whnf
    try dsimp only [rowL, rowN, growOk, hiN, fromL, tightN, maxOk]
    try simp (disch := omega) only [wI, wU64, wU32, wU8, Int.toNat_natCast, Int.reduceToNat, Option.getD_some, Option.getD_none, Nat.sub_zero, Nat.zero_add]
    refine ⟨?_, ?_⟩
    · exact ⟨sameT (r := 1) (q := 0) (L := []) (M := []) rfl (.of rfl rfl (fun _ _ => rfl)) rfl (.of rfl rfl (fun _ _ => rfl)) (by simp) (by simp), rfl, yield_nil rfl (.of rfl rfl (fun _ _ => rfl)), shown1⟩
    refine SG.ret tab_ok Try.func3 rfl ?_
    intro ρ w' v hm hv
    exact top_true hm hv rfl
  | x :: M, hl =>
    clear hrow
    have hk : (M ++ [x]).length = M.length + 1 := by simp
    have hlast := getD_last (M := M) (x := x)
    have hfore := @getD_fore M x
    have hyield : ∀ {W B Rs} {r : Nat} {R : Row} {l : Int} (hr : Rs[r]? = some (some R)) (hR : RowLe R (rowI (x :: M))), CallOk Try.prog W B Rs 10 [turnV r l] (mkHd (turnV 0 5) [newI (M ++ [x])]) := fun hr hR => yield_cons hr hR hl
    have hx0 : (x :: M).getD 0 0 = x := rfl
    have h0 : (x :: M).length = M.length + 1 := by simp
    generalize x :: M = L at *
    refine SG.walk tab_ok mx 400 [false, false, false, false] [mkHd (.cv (.one (.lb true))) [], mkHd (turnV 0 5) [newI (M ++ [x])]] ?_
    conv => whnf
    try dsimp only [rowL, rowN, growOk, hiN, fromL, tightN, maxOk]
    try simp (disch := omega) only [wI, wU64, wU32, wU8, Int.toNat_natCast, Int.reduceToNat, Option.getD_some, Option.getD_none, Nat.sub_zero, Nat.zero_add]
    refine ⟨?_, ?_⟩
    · refine ⟨rfl, ?_, ?_, ?_, by omega, by omega, ?_, ?_, hyield rfl (.of rfl rfl (fun _ _ => rfl)), shown1⟩
      · rw [show ((M ++ [x]).length - 1 : Int).toNat = M.length by omega, hlast, hx0]; simp
      · try simp only [beq_iff_eq, beq_eq_false_iff_ne, bne_iff_ne, bne_eq_false_iff_eq, decide_eq_true_eq, decide_eq_false_iff_not, ne_eq, Bool.not_eq_true', Bool.not_eq_false', Bool.not_eq_eq_eq_not, Bool.not_true, Bool.not_false]
        try omega
      · try simp only [beq_iff_eq, beq_eq_false_iff_ne, bne_iff_ne, bne_eq_false_iff_eq, decide_eq_true_eq, decide_eq_false_iff_not, ne_eq, Bool.not_eq_true', Bool.not_eq_false', Bool.not_eq_eq_eq_not, Bool.not_true, Bool.not_false]
        try omega
      · try simp only [beq_iff_eq, beq_eq_false_iff_ne, bne_iff_ne, bne_eq_false_iff_eq, decide_eq_true_eq, decide_eq_false_iff_not, ne_eq, Bool.not_eq_true', Bool.not_eq_false', Bool.not_eq_eq_eq_not, Bool.not_true, Bool.not_false]
        try omega
      · try simp only [beq_iff_eq, beq_eq_false_iff_ne, bne_iff_ne, bne_eq_false_iff_eq, decide_eq_true_eq, decide_eq_false_iff_not, ne_eq, Bool.not_eq_true', Bool.not_eq_false', Bool.not_eq_eq_eq_not, Bool.not_true, Bool.not_false]
        try omega
    refine SG.loop (fun k : Nat => ⟨puts (List.replicate (Try.f3).ntmps .any) [(1, bpV 0), (3, trueV), (4, bpV 1), (5, intV k)], [some [.rs 0, .v (.int .i64 l)], some [.rs 1, .v (.int .i64 5)]], [some (rowI L), some (newI (M ++ [x]))]⟩) (fun k => 1 ≤ k ∧ k ≤ L.length) (fun k => L.length - k) (1) (⟨Nat.le_refl _, by omega⟩) (fun h => SG.sub [0, 1] [0, 1] ⟨?_, ?_, ?_, by decide, rfl, rfl, rfl⟩ h) ?_
    · repeat' (first | exact trivial | exact rfl | refine And.intro ?_ ?_)
    · repeat' (first | exact trivial | exact rfl | refine And.intro ?_ ?_)
    · repeat' (first | exact trivial | refine ⟨⟨_, rfl, ⟨rfl, rfl, .inl rfl, (fun h => by first | exact h | cases h), (fun h => by first | exact h | cases h), fun _ _ => rfl⟩, fun _ _ => rfl⟩, ?_⟩ | refine ⟨⟨_, rfl, ⟨rfl, rfl, .inr rfl, (fun h => by first | exact h | cases h), (fun h => by first | exact h | cases h), fun _ _ => rfl⟩, fun _ _ => rfl⟩, ?_⟩)
    intro k hk next
    by_cases hlt : k < L.length
    · refine SG.walk tab_ok mx 400 [true, false] [] ?_
      conv => whnf
      try dsimp only [rowL, rowN, growOk, hiN, fromL, tightN, maxOk]
      try simp (disch := omega) only [wI, wU64, wU32, wU8, Int.toNat_natCast, Int.reduceToNat, Option.getD_some, Option.getD_none, Nat.sub_zero, Nat.zero_add]
      refine ⟨?_, ?_⟩
      · refine ⟨?_, by omega, by omega, by omega, by omega, by simpa using hlt⟩
        have := hfore (k := k - 1) (by omega)
        rw [show (k - 1 + 1 : Nat) = k by omega] at this
        rw [show (k - 1 : Int).toNat = k - 1 by omega, this]; simp
      refine SG.sub [0, 1] [0, 1] ⟨?_, ?_, ?_, by decide, rfl, rfl, rfl⟩ (next (k + 1) ⟨by omega, by omega⟩ (by omega))
      · repeat' (first | exact trivial | exact rfl | refine And.intro ?_ ?_)
      · repeat' (first | exact trivial | exact rfl | refine And.intro ?_ ?_)
      · repeat' (first | exact trivial | refine ⟨⟨_, rfl, ⟨rfl, rfl, .inl rfl, (fun h => by first | exact h | cases h), (fun h => by first | exact h | cases h), fun _ _ => rfl⟩, fun _ _ => rfl⟩, ?_⟩ | refine ⟨⟨_, rfl, ⟨rfl, rfl, .inr rfl, (fun h => by first | exact h | cases h), (fun h => by first | exact h | cases h), fun _ _ => rfl⟩, fun _ _ => rfl⟩, ?_⟩)
    · refine SG.walk tab_ok mx 400 [false] [] ?_
      conv => whnf
      try dsimp only [rowL, rowN, growOk, hiN, fromL, tightN, maxOk]
      try simp (disch := omega) only [wI, wU64, wU32, wU8, Int.toNat_natCast, Int.reduceToNat, Option.getD_some, Option.getD_none, Nat.sub_zero, Nat.zero_add]
      refine ⟨?_, ?_⟩
      · simp; omega
      refine SG.ret tab_ok Try.func3 rfl ?_
      intro ρ w' v hm hv
      exact top_true hm hv rfl
end Go.Proofs.Ytanckelknhiaaaa
