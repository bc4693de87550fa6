/- Tables: statements, on: adoption. -/
import Derived.Test.YthdpigdbkljiiaaTbF
import Derived.Test.YthdpigdbkljiiaaTbD
namespace Go.Proofs.Ythdpigdbkljiiaa
open Go.Sx Go.RowKit
set_option linter.unusedVariables false
set_option linter.unusedSimpArgs false
set_option maxRecDepth 100000 in
theorem adopts_walk (w : World) (c : Value) (L : List E) (n to : Int) (hrow : ∀ W' ρ, RowOk W' ρ w c (rowE L)) (hl : L.length ≤ 837723144950) :
    Calls Try.prog 8 #[c, .int .i64 n, .int .i64 to] w fun e w' => e = .returned (.bool true) ∧ Below w.heap.size w w' := by
  obtain ⟨A, cap, rfl, _⟩ := (hrow ⟨w, none, [], []⟩ ⟨fun _ => none, fun _ => none⟩).form
  refine calls_top Try.func8 rfl [.slice A L.length cap] [rowE L] [rsV 0, intV n, intV to] (.cons hrow rfl .nil) ⟨rfl, rfl, rfl, trivial⟩ ?_
  clear hrow
  have hlen := adL_len n to L L.length
  refine SG.walk tab_ok mx 400 [false] [hdB true, hdE (adL n to L L.length)] ?_
  conv => whnf
  try dsimp only [rowL, rowN, growOk, hiN, fromL, tightN, maxOk]
  try simp (disch := omega) only [wI, wU64, wU32, wU8, Int.toNat_natCast, toNat_succ, toNat_pred, Int.reduceToNat, Option.getD_some, Option.getD_none, Nat.sub_zero, Nat.zero_add]
  refine ⟨?_, ?_⟩
  · exact ⟨by simp [hlen], adoptT (r := 0) rfl (.of rfl rfl (fun _ _ => rfl)) (by omega), shownE⟩
  refine SG.loop (fun k : Nat => ⟨puts (List.replicate (Try.f8).ntmps .any) [(0, rsV 0), (1, intV n), (2, intV to), (7, trueV), (8, rsV 1), (9, intV k)], [], [some (rowE L), some (newE (adL n to L L.length))], []⟩) (fun k => k ≤ L.length) (fun k => L.length - k) (0) (Nat.zero_le _) (fun h => SG.sub [] [0, 1] ⟨?_, ?_, ?_, by decide, rfl, rfl, rfl, ?_⟩ h) ?_
  · repeat' (first | exact trivial | exact rfl | refine And.intro ?_ ?_)
  · repeat' (first | exact trivial | exact rfl | refine And.intro ?_ ?_)
  · repeat' (first | exact trivial | refine ⟨⟨_, rfl, ⟨rfl, rfl, .inl rfl, (fun h => by first | exact h | cases h), (fun h => by first | exact h | cases h), fun _ _ => rfl⟩, fun _ _ => rfl⟩, ?_⟩ | refine ⟨⟨_, rfl, ⟨rfl, rfl, .inr rfl, (fun h => by first | exact h | cases h), (fun h => by first | exact h | cases h), fun _ _ => rfl⟩, fun _ _ => rfl⟩, ?_⟩ | refine ⟨⟨_, rfl, ⟨rfl, rfl, .inr rfl, (fun h => by first | exact h | cases h), (fun h => by first | exact h | cases h), fun i hi => absurd hi (Nat.not_lt_zero i)⟩, fun i hi => absurd hi (Nat.not_lt_zero i)⟩, ?_⟩ | refine ⟨⟨_, rfl, ⟨rfl, rfl, .inl rfl, (fun h => by first | exact h | cases h), (fun h => by first | exact h | cases h), fun i hi => ren_closed (hQc i hi)⟩, fun i hi => inn_closed (hQc i hi)⟩, ?_⟩)
  · repeat' (first | exact trivial | exact rfl | refine And.intro ?_ ?_)
  intro k hk next
  by_cases hlt : k < L.length
  · have hk1 : (adL n to L L.length).getD k e0 = adF n to (L.getD k e0) := by rw [adL_get hlt, if_pos hlt]
    by_cases hp : (L.getD k e0).par = n
    · have hk2 : (adL n to L L.length).getD k e0 = { L.getD k e0 with par := to } := by rw [hk1, adF, if_pos hp]
      refine SG.walk tab_ok mx 400 [true, true, false] [] ?_
      conv => whnf
      try dsimp only [rowL, rowN, growOk, hiN, fromL, tightN, maxOk]
      try simp (disch := omega) only [wI, wU64, wU32, wU8, Int.toNat_natCast, toNat_succ, toNat_pred, Int.reduceToNat, Option.getD_some, Option.getD_none, Nat.sub_zero, Nat.zero_add]
      refine ⟨?_, ?_⟩
      · simp only [hk2, hlen]
        refine ⟨by simp, ?_⟩
        try simp only [beq_iff_eq, beq_eq_false_iff_ne, bne_iff_ne, bne_eq_false_iff_eq, decide_eq_true_eq, decide_eq_false_iff_not, ne_eq, Bool.not_eq_true', Bool.not_eq_false', Bool.not_eq_eq_eq_not, Bool.not_true, Bool.not_false, true_and, and_true]
        try omega
      refine SG.sub [] [0, 1] ⟨?_, ?_, ?_, by decide, rfl, rfl, rfl, ?_⟩ (next (k + 1) hlt (by omega))
      · repeat' (first | exact trivial | exact rfl | refine And.intro ?_ ?_)
      · repeat' (first | exact trivial | exact rfl | refine And.intro ?_ ?_)
      · repeat' (first | exact trivial | refine ⟨⟨_, rfl, ⟨rfl, rfl, .inl rfl, (fun h => by first | exact h | cases h), (fun h => by first | exact h | cases h), fun _ _ => rfl⟩, fun _ _ => rfl⟩, ?_⟩ | refine ⟨⟨_, rfl, ⟨rfl, rfl, .inr rfl, (fun h => by first | exact h | cases h), (fun h => by first | exact h | cases h), fun _ _ => rfl⟩, fun _ _ => rfl⟩, ?_⟩ | refine ⟨⟨_, rfl, ⟨rfl, rfl, .inr rfl, (fun h => by first | exact h | cases h), (fun h => by first | exact h | cases h), fun i hi => absurd hi (Nat.not_lt_zero i)⟩, fun i hi => absurd hi (Nat.not_lt_zero i)⟩, ?_⟩ | refine ⟨⟨_, rfl, ⟨rfl, rfl, .inl rfl, (fun h => by first | exact h | cases h), (fun h => by first | exact h | cases h), fun i hi => ren_closed (hQc i hi)⟩, fun i hi => inn_closed (hQc i hi)⟩, ?_⟩)
      · repeat' (first | exact trivial | exact rfl | refine And.intro ?_ ?_)
    · have hk2 : (adL n to L L.length).getD k e0 = L.getD k e0 := by rw [hk1, adF, if_neg hp]
      refine SG.walk tab_ok mx 400 [true, false, false] [] ?_
      conv => whnf
      try dsimp only [rowL, rowN, growOk, hiN, fromL, tightN, maxOk]
      try simp (disch := omega) only [wI, wU64, wU32, wU8, Int.toNat_natCast, toNat_succ, toNat_pred, Int.reduceToNat, Option.getD_some, Option.getD_none, Nat.sub_zero, Nat.zero_add]
      refine ⟨?_, ?_⟩
      · simp only [hk2, hlen]
        refine ⟨by simp, ?_⟩
        try simp only [beq_iff_eq, beq_eq_false_iff_ne, bne_iff_ne, bne_eq_false_iff_eq, decide_eq_true_eq, decide_eq_false_iff_not, ne_eq, Bool.not_eq_true', Bool.not_eq_false', Bool.not_eq_eq_eq_not, Bool.not_true, Bool.not_false, true_and, and_true]
        try omega
      refine SG.sub [] [0, 1] ⟨?_, ?_, ?_, by decide, rfl, rfl, rfl, ?_⟩ (next (k + 1) hlt (by omega))
      · repeat' (first | exact trivial | exact rfl | refine And.intro ?_ ?_)
      · repeat' (first | exact trivial | exact rfl | refine And.intro ?_ ?_)
      · repeat' (first | exact trivial | refine ⟨⟨_, rfl, ⟨rfl, rfl, .inl rfl, (fun h => by first | exact h | cases h), (fun h => by first | exact h | cases h), fun _ _ => rfl⟩, fun _ _ => rfl⟩, ?_⟩ | refine ⟨⟨_, rfl, ⟨rfl, rfl, .inr rfl, (fun h => by first | exact h | cases h), (fun h => by first | exact h | cases h), fun _ _ => rfl⟩, fun _ _ => rfl⟩, ?_⟩ | refine ⟨⟨_, rfl, ⟨rfl, rfl, .inr rfl, (fun h => by first | exact h | cases h), (fun h => by first | exact h | cases h), fun i hi => absurd hi (Nat.not_lt_zero i)⟩, fun i hi => absurd hi (Nat.not_lt_zero i)⟩, ?_⟩ | refine ⟨⟨_, rfl, ⟨rfl, rfl, .inl rfl, (fun h => by first | exact h | cases h), (fun h => by first | exact h | cases h), fun i hi => ren_closed (hQc i hi)⟩, fun i hi => inn_closed (hQc i hi)⟩, ?_⟩)
      · repeat' (first | exact trivial | exact rfl | refine And.intro ?_ ?_)
  · by_cases hnt : n = to
    · refine SG.walk tab_ok mx 400 [false, true] [] ?_
      conv => whnf
      try dsimp only [rowL, rowN, growOk, hiN, fromL, tightN, maxOk]
      try simp (disch := omega) only [wI, wU64, wU32, wU8, Int.toNat_natCast, toNat_succ, toNat_pred, Int.reduceToNat, Option.getD_some, Option.getD_none, Nat.sub_zero, Nat.zero_add]
      refine ⟨?_, ?_⟩
      · try simp only [beq_iff_eq, beq_eq_false_iff_ne, bne_iff_ne, bne_eq_false_iff_eq, decide_eq_true_eq, decide_eq_false_iff_not, ne_eq, Bool.not_eq_true', Bool.not_eq_false', Bool.not_eq_eq_eq_not, Bool.not_true, Bool.not_false, true_and, and_true]
        try omega
      refine SG.ret tab_ok Try.func8 rfl ?_
      intro ρ w' v hm hv
      exact top_true hm hv rfl
    · have hkd := fun {W : Base} {B : List (Option (List At))} {Rs : List (Option Row)} {R : Row} (h1 : Rs[1]? = some (some R)) (h3 : RowLe R (rowE (adL n to L L.length))) => (ad_kids hnt L) ▸ @childrenT W B Rs 1 R (adL n to L L.length) n h1 h3 (by omega)
      refine SG.walk tab_ok mx 400 [false, false] [hdI []] ?_
      conv => whnf
      try dsimp only [rowL, rowN, growOk, hiN, fromL, tightN, maxOk]
      try simp (disch := omega) only [wI, wU64, wU32, wU8, Int.toNat_natCast, toNat_succ, toNat_pred, Int.reduceToNat, Option.getD_some, Option.getD_none, Nat.sub_zero, Nat.zero_add]
      refine ⟨?_, ?_⟩
      · exact ⟨hkd rfl (.of rfl rfl (fun _ _ => rfl)), by simpa using hnt, by simp; omega⟩
      refine SG.ret tab_ok Try.func8 rfl ?_
      intro ρ w' v hm hv
      exact top_v hm hv rfl
end Go.Proofs.Ythdpigdbkljiiaa
