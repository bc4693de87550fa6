/- Tables: statements. -/
import Derived.Test.YthdpigdbkljiiaaTbF
import Derived.Test.YthdpigdbkljiiaaTbM
namespace Go.Proofs.Ythdpigdbkljiiaa
open Go.Sx Go.RowKit
set_option linter.unusedVariables false
set_option linter.unusedSimpArgs false
section
variable {W : Base} {B : List (Option (List At))} {Rs : List (Option Row)} {r : Nat} {R : Row} {L : List E}
theorem findM {n : Int} {x : E} {b : Bool} (hr : Rs[r]? = some (some R)) (hR : RowLe R (rowE L)) (hl : L.length ≤ 837723144960) (hx : findE n L = x) (hb : hasE n L = b) : CallOk Try.prog W B Rs 12 [rsV r, intV n] (hdFind x b) := by subst hx hb; exact findT hr hR hl
end
set_option maxRecDepth 100000 in
theorem new_walk (w : World) (c : Value) (L : List E) (hb : ∀ i, i < L.length → (L.getD i e0).pid ≤ 9223372036854775807) (hrow : ∀ W' ρ, RowOk W' ρ w c (rowE L)) (hl : L.length ≤ 837723144950) :
    Calls Try.prog 7 #[c] w fun e w' => e = .returned (.bool true) ∧ Below w.heap.size w w' := by
  obtain ⟨A, cap, rfl, _⟩ := (hrow ⟨w, none, [], []⟩ ⟨fun _ => none, fun _ => none⟩).form
  refine calls_top Try.func7 rfl [.slice A L.length cap] [rowE L] [rsV 0] (.cons hrow rfl .nil) ⟨rfl, trivial⟩ ?_
  clear hrow
  refine SG.walk tab_ok mx 400 [] [hdB true, hdInt (IntKind.i64.wrap (most L L.length + 1))] ?_
  conv => whnf
  try dsimp only [rowL, rowN, growOk, hiN, fromL, tightN, maxOk]
  refine ⟨?_, ?_⟩
  · exact ⟨nextT (r := 0) rfl (.of rfl rfl (fun _ _ => rfl)) (by omega), shownE⟩
  obtain ⟨m0, mg⟩ := most_ge L L.length
  refine SG.loop (fun k : Nat => ⟨puts (List.replicate (Try.f7).ntmps .any) [(0, rsV 0), (3, trueV), (4, intV (IntKind.i64.wrap (most L L.length + 1))), (5, intV k)], [], [some (rowE L)], []⟩) (fun k => k ≤ L.length ∧ ∀ j, j < k → (L.getD j e0).pid ≠ 9223372036854775807) (fun k => L.length - k) (0) (⟨Nat.zero_le _, fun j hj => by omega⟩) (fun h => SG.sub [] [0] ⟨?_, ?_, ?_, by decide, rfl, rfl, rfl, ?_⟩ h) ?_
  · repeat' (first | exact trivial | exact rfl | refine And.intro ?_ ?_)
  · repeat' (first | exact trivial | exact rfl | refine And.intro ?_ ?_)
  · repeat' (first | exact trivial | refine ⟨⟨_, rfl, ⟨rfl, rfl, .inl rfl, (fun h => by first | exact h | cases h), (fun h => by first | exact h | cases h), fun _ _ => rfl⟩, fun _ _ => rfl⟩, ?_⟩ | refine ⟨⟨_, rfl, ⟨rfl, rfl, .inr rfl, (fun h => by first | exact h | cases h), (fun h => by first | exact h | cases h), fun _ _ => rfl⟩, fun _ _ => rfl⟩, ?_⟩ | refine ⟨⟨_, rfl, ⟨rfl, rfl, .inr rfl, (fun h => by first | exact h | cases h), (fun h => by first | exact h | cases h), fun i hi => absurd hi (Nat.not_lt_zero i)⟩, fun i hi => absurd hi (Nat.not_lt_zero i)⟩, ?_⟩ | refine ⟨⟨_, rfl, ⟨rfl, rfl, .inl rfl, (fun h => by first | exact h | cases h), (fun h => by first | exact h | cases h), fun i hi => ren_closed (hQc i hi)⟩, fun i hi => inn_closed (hQc i hi)⟩, ?_⟩)
  · repeat' (first | exact trivial | exact rfl | refine And.intro ?_ ?_)
  rintro k ⟨hk, hno⟩ next
  by_cases hlt : k < L.length
  · by_cases hp : (L.getD k e0).pid = 9223372036854775807
    · refine SG.walk tab_ok mx 400 [true, true] [] ?_
      conv => whnf
      try dsimp only [rowL, rowN, growOk, hiN, fromL, tightN, maxOk]
      try simp (disch := omega) only [wI, wU64, wU32, wU8, Int.toNat_natCast, toNat_succ, toNat_pred, Int.reduceToNat, Option.getD_some, Option.getD_none, Nat.sub_zero, Nat.zero_add]
      refine ⟨?_, ?_⟩
      · try simp only [beq_iff_eq, beq_eq_false_iff_ne, bne_iff_ne, bne_eq_false_iff_eq, decide_eq_true_eq, decide_eq_false_iff_not, ne_eq, Bool.not_eq_true', Bool.not_eq_false', Bool.not_eq_eq_eq_not, Bool.not_true, Bool.not_false, true_and, and_true]
        try omega
      refine SG.ret tab_ok Try.func7 rfl ?_
      intro ρ w' v hm hv
      exact top_true hm hv rfl
    · refine SG.walk tab_ok mx 400 [true, false] [] ?_
      conv => whnf
      try dsimp only [rowL, rowN, growOk, hiN, fromL, tightN, maxOk]
      try simp (disch := omega) only [wI, wU64, wU32, wU8, Int.toNat_natCast, toNat_succ, toNat_pred, Int.reduceToNat, Option.getD_some, Option.getD_none, Nat.sub_zero, Nat.zero_add]
      refine ⟨?_, ?_⟩
      · try simp only [beq_iff_eq, beq_eq_false_iff_ne, bne_iff_ne, bne_eq_false_iff_eq, decide_eq_true_eq, decide_eq_false_iff_not, ne_eq, Bool.not_eq_true', Bool.not_eq_false', Bool.not_eq_eq_eq_not, Bool.not_true, Bool.not_false, true_and, and_true]
        try omega
      refine SG.sub [] [0] ⟨?_, ?_, ?_, by decide, rfl, rfl, rfl, ?_⟩ (next (k + 1) ⟨hlt, upto_succ hno hp⟩ (by omega))
      · repeat' (first | exact trivial | exact rfl | refine And.intro ?_ ?_)
      · repeat' (first | exact trivial | exact rfl | refine And.intro ?_ ?_)
      · repeat' (first | exact trivial | refine ⟨⟨_, rfl, ⟨rfl, rfl, .inl rfl, (fun h => by first | exact h | cases h), (fun h => by first | exact h | cases h), fun _ _ => rfl⟩, fun _ _ => rfl⟩, ?_⟩ | refine ⟨⟨_, rfl, ⟨rfl, rfl, .inr rfl, (fun h => by first | exact h | cases h), (fun h => by first | exact h | cases h), fun _ _ => rfl⟩, fun _ _ => rfl⟩, ?_⟩ | refine ⟨⟨_, rfl, ⟨rfl, rfl, .inr rfl, (fun h => by first | exact h | cases h), (fun h => by first | exact h | cases h), fun i hi => absurd hi (Nat.not_lt_zero i)⟩, fun i hi => absurd hi (Nat.not_lt_zero i)⟩, ?_⟩ | refine ⟨⟨_, rfl, ⟨rfl, rfl, .inl rfl, (fun h => by first | exact h | cases h), (fun h => by first | exact h | cases h), fun i hi => ren_closed (hQc i hi)⟩, fun i hi => inn_closed (hQc i hi)⟩, ?_⟩)
      · repeat' (first | exact trivial | exact rfl | refine And.intro ?_ ?_)
  · have hw : most L L.length + 1 ≤ 9223372036854775807 := by
      rcases most_is (L := L) L.length with h | ⟨j, hj, h⟩
      · omega
      · have h1 := hno j (by omega)
        have h2 := hb j hj
        omega
    rw [wI' (by omega) hw]
    generalize most L L.length = mm at *
    refine SG.walk tab_ok mx 400 [false] [] ?_
    conv => whnf
    try dsimp only [rowL, rowN, growOk, hiN, fromL, tightN, maxOk]
    try simp (disch := omega) only [wI, wU64, wU32, wU8, Int.toNat_natCast, toNat_succ, toNat_pred, Int.reduceToNat, Option.getD_some, Option.getD_none, Nat.sub_zero, Nat.zero_add]
    refine ⟨?_, ?_⟩
    · try simp only [beq_iff_eq, beq_eq_false_iff_ne, bne_iff_ne, bne_eq_false_iff_eq, decide_eq_true_eq, decide_eq_false_iff_not, ne_eq, Bool.not_eq_true', Bool.not_eq_false', Bool.not_eq_eq_eq_not, Bool.not_true, Bool.not_false, true_and, and_true]
      try omega
    refine SG.loop (fun k : Nat => ⟨puts (List.replicate (Try.f7).ntmps .any) [(0, rsV 0), (3, trueV), (4, intV (mm + 1)), (6, intV k)], [], [some (rowE L)], []⟩) (fun k => k ≤ L.length) (fun k => L.length - k) (0) (Nat.zero_le _) (fun h => SG.sub [] [0] ⟨?_, ?_, ?_, by decide, rfl, rfl, rfl, ?_⟩ h) ?_
    · repeat' (first | exact trivial | exact rfl | refine And.intro ?_ ?_)
    · repeat' (first | exact trivial | exact rfl | refine And.intro ?_ ?_)
    · repeat' (first | exact trivial | refine ⟨⟨_, rfl, ⟨rfl, rfl, .inl rfl, (fun h => by first | exact h | cases h), (fun h => by first | exact h | cases h), fun _ _ => rfl⟩, fun _ _ => rfl⟩, ?_⟩ | refine ⟨⟨_, rfl, ⟨rfl, rfl, .inr rfl, (fun h => by first | exact h | cases h), (fun h => by first | exact h | cases h), fun _ _ => rfl⟩, fun _ _ => rfl⟩, ?_⟩ | refine ⟨⟨_, rfl, ⟨rfl, rfl, .inr rfl, (fun h => by first | exact h | cases h), (fun h => by first | exact h | cases h), fun i hi => absurd hi (Nat.not_lt_zero i)⟩, fun i hi => absurd hi (Nat.not_lt_zero i)⟩, ?_⟩ | refine ⟨⟨_, rfl, ⟨rfl, rfl, .inl rfl, (fun h => by first | exact h | cases h), (fun h => by first | exact h | cases h), fun i hi => ren_closed (hQc i hi)⟩, fun i hi => inn_closed (hQc i hi)⟩, ?_⟩)
    · repeat' (first | exact trivial | exact rfl | refine And.intro ?_ ?_)
    intro k hk next
    by_cases hlt : k < L.length
    · have := mg k hlt
      refine SG.walk tab_ok mx 400 [true, false] [] ?_
      conv => whnf
      try dsimp only [rowL, rowN, growOk, hiN, fromL, tightN, maxOk]
      try simp (disch := omega) only [wI, wU64, wU32, wU8, Int.toNat_natCast, toNat_succ, toNat_pred, Int.reduceToNat, Option.getD_some, Option.getD_none, Nat.sub_zero, Nat.zero_add]
      refine ⟨?_, ?_⟩
      · try simp only [beq_iff_eq, beq_eq_false_iff_ne, bne_iff_ne, bne_eq_false_iff_eq, decide_eq_true_eq, decide_eq_false_iff_not, ne_eq, Bool.not_eq_true', Bool.not_eq_false', Bool.not_eq_eq_eq_not, Bool.not_true, Bool.not_false, true_and, and_true]
        try omega
      refine SG.sub [] [0] ⟨?_, ?_, ?_, by decide, rfl, rfl, rfl, ?_⟩ (next (k + 1) hlt (by omega))
      · repeat' (first | exact trivial | exact rfl | refine And.intro ?_ ?_)
      · repeat' (first | exact trivial | exact rfl | refine And.intro ?_ ?_)
      · repeat' (first | exact trivial | refine ⟨⟨_, rfl, ⟨rfl, rfl, .inl rfl, (fun h => by first | exact h | cases h), (fun h => by first | exact h | cases h), fun _ _ => rfl⟩, fun _ _ => rfl⟩, ?_⟩ | refine ⟨⟨_, rfl, ⟨rfl, rfl, .inr rfl, (fun h => by first | exact h | cases h), (fun h => by first | exact h | cases h), fun _ _ => rfl⟩, fun _ _ => rfl⟩, ?_⟩ | refine ⟨⟨_, rfl, ⟨rfl, rfl, .inr rfl, (fun h => by first | exact h | cases h), (fun h => by first | exact h | cases h), fun i hi => absurd hi (Nat.not_lt_zero i)⟩, fun i hi => absurd hi (Nat.not_lt_zero i)⟩, ?_⟩ | refine ⟨⟨_, rfl, ⟨rfl, rfl, .inl rfl, (fun h => by first | exact h | cases h), (fun h => by first | exact h | cases h), fun i hi => ren_closed (hQc i hi)⟩, fun i hi => inn_closed (hQc i hi)⟩, ?_⟩)
      · repeat' (first | exact trivial | exact rfl | refine And.intro ?_ ?_)
    · obtain ⟨z, hz⟩ : ∃ z, findE (mm + 1) L = z := ⟨_, rfl⟩
      have hn : hasE (mm + 1) L = false := by
        rw [hasE_eq]
        have : L.find? (isP (mm + 1)) = none := by
          rw [List.find?_eq_none]
          intro x hx
          obtain ⟨j, hj, rfl⟩ := List.getElem_of_mem hx
          have := mg j hj
          rw [getD_mem hj] at this
          simp only [isP, beq_iff_eq]; omega
        rw [this]; rfl
      refine SG.walk tab_ok mx 400 [false, true] [hdFind z false] ?_
      conv => whnf
      try dsimp only [rowL, rowN, growOk, hiN, fromL, tightN, maxOk]
      try simp (disch := omega) only [wI, wU64, wU32, wU8, Int.toNat_natCast, toNat_succ, toNat_pred, Int.reduceToNat, Option.getD_some, Option.getD_none, Nat.sub_zero, Nat.zero_add]
      refine ⟨?_, ?_⟩
      · exact ⟨by simp; omega, findM (r := 0) rfl (.of rfl rfl (fun _ _ => rfl)) (by omega) hz hn, by simp; omega⟩
      refine SG.ret tab_ok Try.func7 rfl ?_
      intro ρ w' v hm hv
      exact top_true hm hv rfl
set_option maxRecDepth 100000 in
theorem gone_walk (w : World) (c : Value) (L : List E) (pid other : Int) (hrow : ∀ W' ρ, RowOk W' ρ w c (rowE L)) (hl : L.length ≤ 837723144950) :
    Calls Try.prog 6 #[c, .int .i64 pid, .int .i64 other] w fun e w' => e = .returned (.bool true) ∧ Below w.heap.size w w' := by
  obtain ⟨A, cap, rfl, _⟩ := (hrow ⟨w, none, [], []⟩ ⟨fun _ => none, fun _ => none⟩).form
  refine calls_top Try.func6 rfl [.slice A L.length cap] [rowE L] [rsV 0, intV pid, intV other] (.cons hrow rfl .nil) ⟨rfl, rfl, rfl, trivial⟩ ?_
  clear hrow
  have hgl : (L.filter (fun x => !isP pid x)).length ≤ L.length := List.length_filter_le _ _
  have h1 : hasE pid (L.filter (fun x => !isP pid x)) = false := by rw [hasE_eq, gone_not]; rfl
  generalize hK : L.filter (fun x => !isP pid x) = K at *
  obtain ⟨z, hz⟩ : ∃ z, findE pid K = z := ⟨_, rfl⟩
  obtain ⟨x, hx⟩ : ∃ x, findE other L = x := ⟨_, rfl⟩
  obtain ⟨b, hb⟩ : ∃ b, hasE other L = b := ⟨_, rfl⟩
  obtain ⟨y, hy⟩ : ∃ x, findE other K = x := ⟨_, rfl⟩
  obtain ⟨d, hd⟩ : ∃ b, hasE other K = b := ⟨_, rfl⟩
  have hrm := fun {W : Base} {B : List (Option (List At))} {Rs : List (Option Row)} {R : Row} (h1 : Rs[0]? = some (some R)) (h2 : RowLe R (rowE L)) => hK ▸ @removeT W B Rs 0 R L pid h1 h2 (by omega)
  by_cases ho : other = pid
  · refine SG.walk tab_ok mx 400 [true] [hdB true, hdF K, hdFind z false, hdFind x b, hdFind y d] ?_
    conv => whnf
    try dsimp only [rowL, rowN, growOk, hiN, fromL, tightN, maxOk]
    try simp (disch := omega) only [wI, wU64, wU32, wU8, Int.toNat_natCast, toNat_succ, toNat_pred, Int.reduceToNat, Option.getD_some, Option.getD_none, Nat.sub_zero, Nat.zero_add]
    refine ⟨?_, ?_⟩
    · exact ⟨by simpa using ho, findM (r := 1) rfl (.of rfl rfl (fun _ _ => rfl)) (by omega) hy hd, findM (r := 0) rfl (.of rfl rfl (fun _ _ => rfl)) (by omega) hx hb, findM (r := 1) rfl (.of rfl rfl (fun _ _ => rfl)) (by omega) hz h1, hrm rfl (.of rfl rfl (fun _ _ => rfl)), shownE⟩
    refine SG.ret tab_ok Try.func6 rfl ?_
    intro ρ w' v hm hv
    exact top_true hm hv rfl
  · have e1 : y = x := by rw [← hy, ← hx, ← hK, findE_eq, findE_eq, gone_find ho]
    have e2 : d = b := by rw [← hd, ← hb, ← hK, hasE_eq, hasE_eq, gone_find ho]
    subst e1 e2
    cases d with
    | false =>
      refine SG.walk tab_ok mx 400 [false, true] [hdB true, hdF K, hdFind z false, hdFind y false, hdFind y false] ?_
      conv => whnf
      try dsimp only [rowL, rowN, growOk, hiN, fromL, tightN, maxOk]
      try simp (disch := omega) only [wI, wU64, wU32, wU8, Int.toNat_natCast, toNat_succ, toNat_pred, Int.reduceToNat, Option.getD_some, Option.getD_none, Nat.sub_zero, Nat.zero_add]
      refine ⟨?_, ?_⟩
      · exact ⟨by simp, by simpa using ho, findM (r := 1) rfl (.of rfl rfl (fun _ _ => rfl)) (by omega) hy hd, findM (r := 0) rfl (.of rfl rfl (fun _ _ => rfl)) (by omega) hx hb, findM (r := 1) rfl (.of rfl rfl (fun _ _ => rfl)) (by omega) hz h1, hrm rfl (.of rfl rfl (fun _ _ => rfl)), shownE⟩
      refine SG.ret tab_ok Try.func6 rfl ?_
      intro ρ w' v hm hv
      exact top_v hm hv rfl
    | true =>
      refine SG.walk tab_ok mx 400 [false, true] [hdB true, hdF K, hdFind z false, hdFind y true, hdFind y true] ?_
      conv => whnf
      try dsimp only [rowL, rowN, growOk, hiN, fromL, tightN, maxOk]
      try simp (disch := omega) only [wI, wU64, wU32, wU8, Int.toNat_natCast, toNat_succ, toNat_pred, Int.reduceToNat, Option.getD_some, Option.getD_none, Nat.sub_zero, Nat.zero_add]
      refine ⟨?_, ?_⟩
      · exact ⟨by simp, by simpa using ho, findM (r := 1) rfl (.of rfl rfl (fun _ _ => rfl)) (by omega) hy hd, findM (r := 0) rfl (.of rfl rfl (fun _ _ => rfl)) (by omega) hx hb, findM (r := 1) rfl (.of rfl rfl (fun _ _ => rfl)) (by omega) hz h1, hrm rfl (.of rfl rfl (fun _ _ => rfl)), shownE⟩
      refine SG.ret tab_ok Try.func6 rfl ?_
      intro ρ w' v hm hv
      exact top_v hm hv rfl
set_option maxRecDepth 100000 in
theorem finds_walk (w : World) (c : Value) (L : List E) (p : E) (other : Int) (hrow : ∀ W' ρ, RowOk W' ρ w c (rowE L)) (hl : L.length ≤ 837723144950) :
    Calls Try.prog 5 #[c, .agg (eG p).toArray, .int .i64 other] w fun e w' => e = .returned (.bool true) ∧ Below w.heap.size w w' := by
  obtain ⟨A, cap, rfl, _⟩ := (hrow ⟨w, none, [], []⟩ ⟨fun _ => none, fun _ => none⟩).form
  refine calls_top Try.func5 rfl [.slice A L.length cap] [rowE L] [rsV 0, eV p, intV other] (.cons hrow rfl .nil) ⟨rfl, rfl, rfl, trivial⟩ ?_
  clear hrow
  have hkl := put_len p L
  have hq : findE p.pid (putE p L) = p := by rw [findE_eq, put_find]; rfl
  have hq2 : hasE p.pid (putE p L) = true := by rw [hasE_eq, put_find]; rfl
  have hpt := fun {W : Base} {B : List (Option (List At))} {Rs : List (Option Row)} {R : Row} (h1 : Rs[0]? = some (some R)) (h2 : RowLe R (rowE L)) => @putT W B Rs 0 R L p h1 h2 (by omega)
  have hoth : other ≠ p.pid → findE other (putE p L) = findE other L ∧ hasE other (putE p L) = hasE other L := fun ho => by
    rw [findE_eq, findE_eq, hasE_eq, hasE_eq, put_other ho]; exact ⟨rfl, rfl⟩
  generalize putE p L = K at *
  obtain ⟨x, hx⟩ : ∃ x, findE other L = x := ⟨_, rfl⟩
  obtain ⟨b, hb⟩ : ∃ b, hasE other L = b := ⟨_, rfl⟩
  obtain ⟨y, hy⟩ : ∃ x, findE other K = x := ⟨_, rfl⟩
  obtain ⟨d, hd⟩ : ∃ b, hasE other K = b := ⟨_, rfl⟩
  by_cases ho : other = p.pid
  · refine SG.walk tab_ok mx 400 [true, true, true] [hdB true, hdE K, hdFind p true, hdFind x b, hdFind y d] ?_
    conv => whnf
    try dsimp only [rowL, rowN, growOk, hiN, fromL, tightN, maxOk]
    try simp (disch := omega) only [wI, wU64, wU32, wU8, Int.toNat_natCast, toNat_succ, toNat_pred, Int.reduceToNat, Option.getD_some, Option.getD_none, Nat.sub_zero, Nat.zero_add]
    refine ⟨?_, ?_⟩
    · exact ⟨by simp; omega, by simpa using ho, by simp, findM (r := 1) rfl (.of rfl rfl (fun _ _ => rfl)) (by omega) hy hd, findM (r := 0) rfl (.of rfl rfl (fun _ _ => rfl)) (by omega) hx hb, findM (r := 1) rfl (.of rfl rfl (fun _ _ => rfl)) (by omega) hq hq2, hpt rfl (.of rfl rfl (fun _ _ => rfl)), shownE⟩
    refine SG.ret tab_ok Try.func5 rfl ?_
    intro ρ w' v hm hv
    exact top_v hm hv (by simp; omega)
  · have e1 : y = x := by rw [← hy, ← hx]; exact (hoth ho).1
    have e2 : d = b := by rw [← hd, ← hb]; exact (hoth ho).2
    subst e1 e2
    cases d with
    | false =>
      refine SG.walk tab_ok mx 400 [true, false, true, true, true] [hdB true, hdE K, hdFind p true, hdFind y false, hdFind y false] ?_
      conv => whnf
      try dsimp only [rowL, rowN, growOk, hiN, fromL, tightN, maxOk]
      try simp (disch := omega) only [wI, wU64, wU32, wU8, Int.toNat_natCast, toNat_succ, toNat_pred, Int.reduceToNat, Option.getD_some, Option.getD_none, Nat.sub_zero, Nat.zero_add]
      refine ⟨?_, ?_⟩
      · exact ⟨by simp; omega, by decide, by simp, by simpa using ho, by simp, findM (r := 1) rfl (.of rfl rfl (fun _ _ => rfl)) (by omega) hy hd, findM (r := 0) rfl (.of rfl rfl (fun _ _ => rfl)) (by omega) hx hb, findM (r := 1) rfl (.of rfl rfl (fun _ _ => rfl)) (by omega) hq hq2, hpt rfl (.of rfl rfl (fun _ _ => rfl)), shownE⟩
      refine SG.ret tab_ok Try.func5 rfl ?_
      intro ρ w' v hm hv
      exact top_v hm hv (by simp; omega)
    | true =>
      refine SG.walk tab_ok mx 400 [true, false, true, true, true] [hdB true, hdE K, hdFind p true, hdFind y true, hdFind y true] ?_
      conv => whnf
      try dsimp only [rowL, rowN, growOk, hiN, fromL, tightN, maxOk]
      try simp (disch := omega) only [wI, wU64, wU32, wU8, Int.toNat_natCast, toNat_succ, toNat_pred, Int.reduceToNat, Option.getD_some, Option.getD_none, Nat.sub_zero, Nat.zero_add]
      refine ⟨?_, ?_⟩
      · exact ⟨by simp; omega, by decide, by simp, by simpa using ho, by simp, findM (r := 1) rfl (.of rfl rfl (fun _ _ => rfl)) (by omega) hy hd, findM (r := 0) rfl (.of rfl rfl (fun _ _ => rfl)) (by omega) hx hb, findM (r := 1) rfl (.of rfl rfl (fun _ _ => rfl)) (by omega) hq hq2, hpt rfl (.of rfl rfl (fun _ _ => rfl)), shownE⟩
      refine SG.ret tab_ok Try.func5 rfl ?_
      intro ρ w' v hm hv
      exact top_v hm hv (by simp; omega)
end Go.Proofs.Ythdpigdbkljiiaa
