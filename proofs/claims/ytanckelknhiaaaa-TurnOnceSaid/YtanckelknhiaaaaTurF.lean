/- Who is gone, and who is there once: the walks. -/
import Derived.Test.YtanckelknhiaaaaTurE
import Derived.Test.YtanckelknhiaaaaTurC
namespace Go.Proofs.Ytanckelknhiaaaa
open Go.Sx Go.RowKit
set_option linter.unusedVariables false
set_option linter.unusedSimpArgs false
def fltN (p : Int) (L : List Int) (i : Nat) : Nat := ((L.take i).filter (· ≠ p)).length
theorem flt_skip {p : Int} {L : List Int} {i : Nat} (hi : i < L.length) (h : L.getD i 0 = p) : fltN p L (i + 1) = fltN p L i := by
  have e : L[i] = p := by simpa [List.getD_eq_getElem?_getD, hi] using h
  rw [fltN, List.take_succ_eq_append_getElem hi, List.filter_append, e]; simp [fltN]
theorem flt_next {p : Int} {L : List Int} {i : Nat} (hi : i < L.length) (h : L.getD i 0 ≠ p) : fltN p L (i + 1) = fltN p L i + 1 := by
  have e : L.getD i 0 = L[i] := by simp [List.getD_eq_getElem?_getD, hi]
  rw [e] at h
  rw [fltN, List.take_succ_eq_append_getElem hi, List.filter_append]; simp [fltN, h]
theorem flt_at {p : Int} {L : List Int} {i : Nat} (hi : i < L.length) (h : L.getD i 0 ≠ p) : fltN p L i < (L.filter (· ≠ p)).length ∧ (L.filter (· ≠ p)).getD (fltN p L i) 0 = L.getD i 0 := by
  have e : L.getD i 0 = L[i] := by simp [List.getD_eq_getElem?_getD, hi]
  have hs : L.filter (· ≠ p) = (L.take i).filter (· ≠ p) ++ L[i] :: (L.drop (i + 1)).filter (· ≠ p) := by
    conv => lhs; rw [← List.take_append_drop i L, List.drop_eq_getElem_cons hi, List.filter_append]
    rw [e] at h
    rw [List.filter_cons_of_pos (by simpa using h)]
  rw [hs, e]
  refine ⟨by simp [fltN], ?_⟩
  rw [fltN, List.getD_eq_getElem?_getD, List.getElem?_append_right (Nat.le_refl _)]
  simp
theorem flt_end {p : Int} {L : List Int} : fltN p L L.length = (L.filter (· ≠ p)).length := by rw [fltN, List.take_length]
set_option maxHeartbeats 800000 in
set_option maxRecDepth 100000 in
theorem gone_walk (w : World) (c : Value) (L : List Int) (l p : Int) (hrow : ∀ W ρ, RowOk W ρ w c (rowI L)) (hl : L.length + 1 ≤ 17592186044416) :
    Calls Try.prog 6 #[.agg #[c, .int .i64 l], .int .i64 p] w fun e w' => e = .returned (.bool true) ∧ Below w.heap.size w w' := by
  obtain ⟨A, cap, rfl, _⟩ := (hrow ⟨w, none⟩ ⟨fun _ => none, fun _ => none⟩).form
  refine calls_top Try.func6 rfl [.slice A L.length cap] [rowI L] [turnV 0 l, intV p] (.cons hrow rfl .nil) ⟨rfl, rfl, trivial⟩ ?_
  clear hrow
  obtain ⟨l1, hdrop⟩ : ∃ l1, ∀ {W : Base} {B : List (Option (List At))} {Rs : List (Option Row)} {r : Nat} {R : Row}, Rs[r]? = some (some R) → RowLe R (rowI L) → CallOk Try.prog W B Rs 15 [turnV r l, intV p] (mkHd (turnV 0 l1) [frI (L.filter (· ≠ p))]) :=
    ⟨_, fun hr hR => dropF hr hR (by omega)⟩
  obtain ⟨M, l2, hpM, hML, hadd⟩ : ∃ (M : List Int) (l2 : Int), p ∈ M ∧ M.length ≤ L.length + 1 ∧ ∀ {W : Base} {B : List (Option (List At))} {Rs : List (Option Row)} {r : Nat} {R : Row}, Rs[r]? = some (some R) → RowLe R (rowI L) → CallOk Try.prog W B Rs 14 [turnV r l, intV p] (mkHd (turnV 0 l2) [newI M]) := by
    by_cases hp : p ∈ L
    · exact ⟨L, l, hp, by omega, fun hr hR => add_old hr hR (by omega) hp⟩
    · exact ⟨L ++ [p], _, by simp, by simp, fun hr hR => add_new hr hR hl hp⟩
  refine SG.walk tab_ok mx 400 [] [mkHd trueV [], mkHd (turnV 0 l1) [frI (L.filter (· ≠ p))]] ?_
  conv => whnf
  try dsimp only [rowL, rowN, growOk, hiN, fromL, tightN, maxOk]
  try simp (disch := omega) only [wI, wU64, wU32, wU8, Int.toNat_natCast, Int.reduceToNat, Option.getD_some, Option.getD_none, Nat.sub_zero, Nat.zero_add]
  refine ⟨?_, ?_⟩
  · exact ⟨hdrop rfl (.of rfl rfl (fun _ _ => rfl)), shown1⟩
  refine SG.loop (fun x : Nat × Nat => ⟨puts (List.replicate (Try.f6).ntmps .any) [(1, intV p), (2, bpV 0), (5, trueV), (6, bpV 1), (7, intV x.2), (8, intV x.1)], [some [.rs 0, .v (.int .i64 l)], some [.rs 1, .v (.int .i64 l1)]], [some (rowI L), some (frI (L.filter (· ≠ p)))]⟩) (fun x => x.1 ≤ L.length ∧ x.2 = fltN p L x.1) (fun x => L.length - x.1) ((0, 0)) (⟨Nat.zero_le _, by simp [fltN]⟩) (fun h => SG.sub [0, 1] [0, 1] ⟨?_, ?_, ?_, by decide, rfl, rfl, rfl⟩ h) ?_
  · repeat' (first | exact trivial | exact rfl | refine And.intro ?_ ?_)
  · repeat' (first | exact trivial | exact rfl | refine And.intro ?_ ?_)
  · repeat' (first | exact trivial | refine ⟨⟨_, rfl, ⟨rfl, rfl, .inl rfl, (fun h => by first | exact h | cases h), (fun h => by first | exact h | cases h), fun _ _ => rfl⟩, fun _ _ => rfl⟩, ?_⟩ | refine ⟨⟨_, rfl, ⟨rfl, rfl, .inr rfl, (fun h => by first | exact h | cases h), (fun h => by first | exact h | cases h), fun _ _ => rfl⟩, fun _ _ => rfl⟩, ?_⟩)
  rintro ⟨i, z⟩ ⟨hi, hz⟩ next
  dsimp only at hi hz next ⊢
  by_cases hlt : i < L.length
  · by_cases hip : L.getD i 0 = p
    · refine SG.walk tab_ok mx 400 [true, true] [] ?_
      conv => whnf
      try dsimp only [rowL, rowN, growOk, hiN, fromL, tightN, maxOk]
      try simp (disch := omega) only [wI, wU64, wU32, wU8, Int.toNat_natCast, Int.reduceToNat, Option.getD_some, Option.getD_none, Nat.sub_zero, Nat.zero_add]
      refine ⟨?_, ?_⟩
      · exact ⟨by simpa using hip, by omega, by omega, by simpa using hlt⟩
      refine SG.sub [0, 1] [0, 1] ⟨?_, ?_, ?_, by decide, rfl, rfl, rfl⟩ (next (i + 1, z) ⟨hlt, by rw [hz]; exact (flt_skip hlt hip).symm⟩ (by simp; omega))
      · repeat' (first | exact trivial | exact rfl | refine And.intro ?_ ?_)
      · repeat' (first | exact trivial | exact rfl | refine And.intro ?_ ?_)
      · repeat' (first | exact trivial | refine ⟨⟨_, rfl, ⟨rfl, rfl, .inl rfl, (fun h => by first | exact h | cases h), (fun h => by first | exact h | cases h), fun _ _ => rfl⟩, fun _ _ => rfl⟩, ?_⟩ | refine ⟨⟨_, rfl, ⟨rfl, rfl, .inr rfl, (fun h => by first | exact h | cases h), (fun h => by first | exact h | cases h), fun _ _ => rfl⟩, fun _ _ => rfl⟩, ?_⟩)
    · obtain ⟨hz1, hz2⟩ := flt_at hlt hip
      have hFl : (L.filter (· ≠ p)).length ≤ L.length := List.length_filter_le _ _
      rw [← hz] at hz1 hz2
      refine SG.walk tab_ok mx 400 [true, false, false, false] [] ?_
      conv => whnf
      try dsimp only [rowL, rowN, growOk, hiN, fromL, tightN, maxOk]
      try simp (disch := omega) only [wI, wU64, wU32, wU8, Int.toNat_natCast, Int.reduceToNat, Option.getD_some, Option.getD_none, Nat.sub_zero, Nat.zero_add]
      refine ⟨?_, ?_⟩
      · exact ⟨by rw [hz2]; simp, by omega, by omega, by omega, by omega, by simp only [decide_eq_false_iff_not]; omega, by simpa using hip, by omega, by omega, by simpa using hlt⟩
      refine SG.sub [0, 1] [0, 1] ⟨?_, ?_, ?_, by decide, rfl, rfl, rfl⟩ (next (i + 1, z + 1) ⟨hlt, by rw [hz]; exact (flt_next hlt hip).symm⟩ (by simp; omega))
      · repeat' (first | exact trivial | exact rfl | refine And.intro ?_ ?_)
      · repeat' (first | exact trivial | exact rfl | refine And.intro ?_ ?_)
      · repeat' (first | exact trivial | refine ⟨⟨_, rfl, ⟨rfl, rfl, .inl rfl, (fun h => by first | exact h | cases h), (fun h => by first | exact h | cases h), fun _ _ => rfl⟩, fun _ _ => rfl⟩, ?_⟩ | refine ⟨⟨_, rfl, ⟨rfl, rfl, .inr rfl, (fun h => by first | exact h | cases h), (fun h => by first | exact h | cases h), fun _ _ => rfl⟩, fun _ _ => rfl⟩, ?_⟩)
  have hzF : z = (L.filter (· ≠ p)).length := by rw [hz, show i = L.length by omega, flt_end]
  refine SG.walk tab_ok mx 400 [false] [mkHd (turnV 0 l2) [newI M]] ?_
  conv => whnf
  try dsimp only [rowL, rowN, growOk, hiN, fromL, tightN, maxOk]
  try simp (disch := omega) only [wI, wU64, wU32, wU8, Int.toNat_natCast, Int.reduceToNat, Option.getD_some, Option.getD_none, Nat.sub_zero, Nat.zero_add]
  refine ⟨?_, ?_⟩
  · exact ⟨hadd rfl (.of rfl rfl (fun _ _ => rfl)), by simpa using hlt⟩
  refine SG.loop (fun x : Nat × Bool => ⟨puts (List.replicate (Try.f6).ntmps .any) [(1, intV p), (5, trueV), (6, bpV 0), (7, intV z), (9, bpV 1), (10, .cv (.one (.lb x.2))), (11, intV x.1)], [some [.rs 0, .v (.int .i64 l1)], some [.rs 1, .v (.int .i64 l2)]], [some (frI (L.filter (· ≠ p))), some (newI M)]⟩) (fun x => x.1 ≤ M.length ∧ x.2 = decide (p ∈ M.take x.1)) (fun x => M.length - x.1) ((0, false)) (⟨Nat.zero_le _, by simp⟩) (fun h => SG.sub [1, 2] [1, 2] ⟨?_, ?_, ?_, by decide, rfl, rfl, rfl⟩ h) ?_
  · repeat' (first | exact trivial | exact rfl | refine And.intro ?_ ?_)
  · repeat' (first | exact trivial | exact rfl | refine And.intro ?_ ?_)
  · repeat' (first | exact trivial | refine ⟨⟨_, rfl, ⟨rfl, rfl, .inl rfl, (fun h => by first | exact h | cases h), (fun h => by first | exact h | cases h), fun _ _ => rfl⟩, fun _ _ => rfl⟩, ?_⟩ | refine ⟨⟨_, rfl, ⟨rfl, rfl, .inr rfl, (fun h => by first | exact h | cases h), (fun h => by first | exact h | cases h), fun _ _ => rfl⟩, fun _ _ => rfl⟩, ?_⟩)
  rintro ⟨k, b⟩ ⟨hk, hb⟩ next2
  dsimp only at hk hb next2 ⊢
  have htake : ∀ (h : k < M.length), decide (p ∈ M.take (k + 1)) = (b || M.getD k 0 == p) := fun h => by
    rw [hb, List.take_succ_eq_append_getElem h]
    have e : M.getD k 0 = M[k] := by simp [List.getD_eq_getElem?_getD, h]
    rw [e, Bool.eq_iff_iff]
    simp only [decide_eq_true_eq, List.mem_append, List.mem_singleton, Bool.or_eq_true, beq_iff_eq]
    exact or_congr Iff.rfl ⟨Eq.symm, Eq.symm⟩
  by_cases hkl : k < M.length
  · cases b
    · refine SG.walk tab_ok mx 400 [true] [] ?_
      conv => whnf
      try dsimp only [rowL, rowN, growOk, hiN, fromL, tightN, maxOk]
      try simp (disch := omega) only [wI, wU64, wU32, wU8, Int.toNat_natCast, Int.reduceToNat, Option.getD_some, Option.getD_none, Nat.sub_zero, Nat.zero_add]
      refine ⟨?_, ?_⟩
      · exact ⟨by omega, by omega, by simpa using hkl⟩
      refine SG.lbSlot 10 (c := (M.getD k 0 == p)) rfl rfl ?_
      refine SG.sub [0, 1] [0, 1] ⟨?_, ?_, ?_, by decide, rfl, rfl, rfl⟩ (next2 (k + 1, (M.getD k 0 == p)) ⟨hkl, by rw [htake hkl]; rfl⟩ (by simp; omega))
      · repeat' (first | exact trivial | exact rfl | refine And.intro ?_ ?_)
      · repeat' (first | exact trivial | exact rfl | refine And.intro ?_ ?_)
      · repeat' (first | exact trivial | refine ⟨⟨_, rfl, ⟨rfl, rfl, .inl rfl, (fun h => by first | exact h | cases h), (fun h => by first | exact h | cases h), fun _ _ => rfl⟩, fun _ _ => rfl⟩, ?_⟩ | refine ⟨⟨_, rfl, ⟨rfl, rfl, .inr rfl, (fun h => by first | exact h | cases h), (fun h => by first | exact h | cases h), fun _ _ => rfl⟩, fun _ _ => rfl⟩, ?_⟩)
    · refine SG.walk tab_ok mx 400 [true] [] ?_
      conv => whnf
      try dsimp only [rowL, rowN, growOk, hiN, fromL, tightN, maxOk]
      try simp (disch := omega) only [wI, wU64, wU32, wU8, Int.toNat_natCast, Int.reduceToNat, Option.getD_some, Option.getD_none, Nat.sub_zero, Nat.zero_add]
      refine ⟨?_, ?_⟩
      · simpa using hkl
      refine SG.sub [0, 1] [0, 1] ⟨?_, ?_, ?_, by decide, rfl, rfl, rfl⟩ (next2 (k + 1, true) ⟨hkl, by rw [htake hkl]; rfl⟩ (by simp; omega))
      · repeat' (first | exact trivial | exact rfl | refine And.intro ?_ ?_)
      · repeat' (first | exact trivial | exact rfl | refine And.intro ?_ ?_)
      · repeat' (first | exact trivial | refine ⟨⟨_, rfl, ⟨rfl, rfl, .inl rfl, (fun h => by first | exact h | cases h), (fun h => by first | exact h | cases h), fun _ _ => rfl⟩, fun _ _ => rfl⟩, ?_⟩ | refine ⟨⟨_, rfl, ⟨rfl, rfl, .inr rfl, (fun h => by first | exact h | cases h), (fun h => by first | exact h | cases h), fun _ _ => rfl⟩, fun _ _ => rfl⟩, ?_⟩)
  · have hbt : b = true := by rw [hb, show k = M.length by omega, List.take_length]; simpa using hpM
    subst hbt
    refine SG.walk tab_ok mx 400 [false, true] [] ?_
    conv => whnf
    try dsimp only [rowL, rowN, growOk, hiN, fromL, tightN, maxOk]
    try simp (disch := omega) only [wI, wU64, wU32, wU8, Int.toNat_natCast, Int.reduceToNat, Option.getD_some, Option.getD_none, Nat.sub_zero, Nat.zero_add]
    refine ⟨?_, ?_⟩
    · exact ⟨by rw [hzF]; simp, by simpa using hkl⟩
    refine SG.ret tab_ok Try.func6 rfl ?_
    intro ρ w' v hm hv
    exact top_true hm hv rfl
end Go.Proofs.Ytanckelknhiaaaa
