/- Tables: statements, on. -/
import Derived.Test.YthdpigdbkljiiaaTbF
import Derived.Test.YthdpigdbkljiiaaTbC
namespace Go.Proofs.Ythdpigdbkljiiaa
open Go.Sx Go.RowKit
set_option linter.unusedVariables false
set_option linter.unusedSimpArgs false
theorem filt_split {p : E → Bool} {L : List E} {k : Nat} (hk : k < L.length) (hp : p (L.getD k e0) = true) : L.filter p = ((L.take k).filter p ++ [L.getD k e0]) ++ (L.drop (k + 1)).filter p := by
  rw [← filt_take_yes (d := e0) hk hp, ← List.filter_append, List.take_append_drop]
theorem kids_get {n : Int} {L : List E} {k : Nat} (hk : k < L.length) (hp : parP n (L.getD k e0) = true) : (kidsL n L).getD (kidsL n (L.take k)).length 0 = (L.getD k e0).pid ∧ (kidsL n (L.take k)).length < (kidsL n L).length := by
  unfold kidsL
  rw [filt_split hk hp, List.map_append, List.map_append]
  generalize ((L.take k).filter (parP n)).map (·.pid) = A
  refine ⟨?_, by simp only [List.length_append, List.length_map, List.length_cons, List.length_nil, List.map_cons, List.map_nil]; omega⟩
  simp only [List.getD_eq_getElem?_getD]
  rw [List.getElem?_append_left (by simp), List.getElem?_append_right (Nat.le_refl _), Nat.sub_self]
  rfl
theorem dead_step {n : Int} {L : List E} {k : Nat} (hk : k < L.length) : (L.take (k + 1)).find? (deadP n) = ((L.take k).find? (deadP n)).or (if deadP n (L.getD k e0) = true then some (L.getD k e0) else none) := by
  rw [take_snoc (d := e0) hk, List.find?_append]
  congr 1
  simp only [List.find?_cons, List.find?_nil]
  cases deadP n (L.getD k e0) <;> rfl
def dv (o : Option E) : Int := (o.map (·.pid)).getD 0
set_option maxRecDepth 100000 in
theorem kids_walk (w : World) (c : Value) (L : List E) (pid : Int) (hrow : ∀ W' ρ, RowOk W' ρ w c (rowE L)) (hl : L.length ≤ 837723144950) :
    Calls Try.prog 9 #[c, .int .i64 pid] w fun e w' => e = .returned (.bool true) ∧ Below w.heap.size w w' := by
  obtain ⟨A, cap, rfl, _⟩ := (hrow ⟨w, none, [], []⟩ ⟨fun _ => none, fun _ => none⟩).form
  refine calls_top Try.func9 rfl [.slice A L.length cap] [rowE L] [rsV 0, intV pid] (.cons hrow rfl .nil) ⟨rfl, rfl, trivial⟩ ?_
  clear hrow
  refine SG.walk tab_ok mx 400 [] [hdB true, hdI (kidsL pid L)] ?_
  conv => whnf
  try dsimp only [rowL, rowN, growOk, hiN, fromL, tightN, maxOk]
  try simp (disch := omega) only [wI, wU64, wU32, wU8, Int.toNat_natCast, toNat_succ, toNat_pred, Int.reduceToNat, Option.getD_some, Option.getD_none, Nat.sub_zero, Nat.zero_add]
  refine ⟨?_, ?_⟩
  · exact ⟨childrenT (r := 0) rfl (.of rfl rfl (fun _ _ => rfl)) (by omega), shownE⟩
  refine SG.loop (fun x : Nat × Bool => ⟨puts (List.replicate (Try.f9).ntmps .any) [(0, rsV 0), (1, intV pid), (5, trueV), (6, rsV 1), (7, intV (kidsL pid (L.take x.1)).length), (8, intV (dv ((L.take x.1).find? (deadP pid)))), (9, .cv (.one (.lb x.2))), (10, intV x.1)], [], [some (rowE L), some (newI (kidsL pid L))], []⟩) (fun x => x.1 ≤ L.length ∧ ((L.take x.1).find? (deadP pid)).isSome = x.2) (fun x => L.length - x.1) ((0, false)) (⟨Nat.zero_le _, rfl⟩) (fun h => SG.sub [] [0, 1] ⟨?_, ?_, ?_, by decide, rfl, rfl, rfl, ?_⟩ h) ?_
  · repeat' (first | exact trivial | exact rfl | refine And.intro ?_ ?_)
  · repeat' (first | exact trivial | exact rfl | refine And.intro ?_ ?_)
  · repeat' (first | exact trivial | refine ⟨⟨_, rfl, ⟨rfl, rfl, .inl rfl, (fun h => by first | exact h | cases h), (fun h => by first | exact h | cases h), fun _ _ => rfl⟩, fun _ _ => rfl⟩, ?_⟩ | refine ⟨⟨_, rfl, ⟨rfl, rfl, .inr rfl, (fun h => by first | exact h | cases h), (fun h => by first | exact h | cases h), fun _ _ => rfl⟩, fun _ _ => rfl⟩, ?_⟩ | refine ⟨⟨_, rfl, ⟨rfl, rfl, .inr rfl, (fun h => by first | exact h | cases h), (fun h => by first | exact h | cases h), fun i hi => absurd hi (Nat.not_lt_zero i)⟩, fun i hi => absurd hi (Nat.not_lt_zero i)⟩, ?_⟩ | refine ⟨⟨_, rfl, ⟨rfl, rfl, .inl rfl, (fun h => by first | exact h | cases h), (fun h => by first | exact h | cases h), fun i hi => ren_closed (hQc i hi)⟩, fun i hi => inn_closed (hQc i hi)⟩, ?_⟩)
  · repeat' (first | exact trivial | exact rfl | refine And.intro ?_ ?_)
  rintro ⟨k, b⟩ ⟨hk, hb⟩ next
  dsimp only at hk hb next ⊢
  have hln : (kidsL pid (L.take k)).length ≤ k := by
    rw [List.length_map]; exact Nat.le_trans (List.length_filter_le _ _) (by simp; omega)
  by_cases hlt : k < L.length
  · have hst := dead_step (n := pid) hlt
    by_cases hp : (L.getD k e0).par = pid
    · obtain ⟨g1, g2⟩ := kids_get (n := pid) hlt (by simp [parP, hp, - List.getD_eq_getElem?_getD])
      have e : (kidsL pid (L.take (k + 1))).length = (kidsL pid (L.take k)).length + 1 := by
        unfold kidsL
        rw [filt_take_yes (d := e0) hlt (by simp [parP, hp, - List.getD_eq_getElem?_getD])]; simp
      by_cases hs : (L.getD k e0).st = 4
      · have hd : deadP pid (L.getD k e0) = true := by simp [deadP, hp, hs, - List.getD_eq_getElem?_getD]
        rw [if_pos hd] at hst
        cases b with
        | true =>
          obtain ⟨d, hD⟩ := Option.isSome_iff_exists.1 hb
          have e2 : (L.take (k + 1)).find? (deadP pid) = some d := by rw [hst, hD]; rfl
          rw [hD]
          refine SG.walk tab_ok mx 400 [true, false, false, false, true] [] ?_
          conv => whnf
          try dsimp only [rowL, rowN, growOk, hiN, fromL, tightN, maxOk]
          try simp (disch := omega) only [wI, wU64, wU32, wU8, Int.toNat_natCast, toNat_succ, toNat_pred, Int.reduceToNat, Option.getD_some, Option.getD_none, Nat.sub_zero, Nat.zero_add]
          refine ⟨?_, ?_⟩
          · rw [g1]
            try simp only [beq_iff_eq, beq_eq_false_iff_ne, bne_iff_ne, bne_eq_false_iff_eq, decide_eq_true_eq, decide_eq_false_iff_not, ne_eq, Bool.not_eq_true', Bool.not_eq_false', Bool.not_eq_eq_eq_not, Bool.not_true, Bool.not_false, true_and, and_true]
            try omega
          refine SG.sub [] [0, 1] ⟨?_, ?_, ?_, by decide, rfl, rfl, rfl, ?_⟩ (by have := next (k + 1, true) ⟨hlt, by rw [e2]; rfl⟩ (by dsimp only; omega); dsimp only at this; rw [e, e2] at this; exact this)
          · repeat' (first | exact trivial | exact rfl | refine And.intro ?_ ?_)
          · repeat' (first | exact trivial | exact rfl | refine And.intro ?_ ?_)
          · repeat' (first | exact trivial | refine ⟨⟨_, rfl, ⟨rfl, rfl, .inl rfl, (fun h => by first | exact h | cases h), (fun h => by first | exact h | cases h), fun _ _ => rfl⟩, fun _ _ => rfl⟩, ?_⟩ | refine ⟨⟨_, rfl, ⟨rfl, rfl, .inr rfl, (fun h => by first | exact h | cases h), (fun h => by first | exact h | cases h), fun _ _ => rfl⟩, fun _ _ => rfl⟩, ?_⟩ | refine ⟨⟨_, rfl, ⟨rfl, rfl, .inr rfl, (fun h => by first | exact h | cases h), (fun h => by first | exact h | cases h), fun i hi => absurd hi (Nat.not_lt_zero i)⟩, fun i hi => absurd hi (Nat.not_lt_zero i)⟩, ?_⟩ | refine ⟨⟨_, rfl, ⟨rfl, rfl, .inl rfl, (fun h => by first | exact h | cases h), (fun h => by first | exact h | cases h), fun i hi => ren_closed (hQc i hi)⟩, fun i hi => inn_closed (hQc i hi)⟩, ?_⟩)
          · repeat' (first | exact trivial | exact rfl | refine And.intro ?_ ?_)
        | false =>
          have hD : (L.take k).find? (deadP pid) = none := by simpa using hb
          have e2 : (L.take (k + 1)).find? (deadP pid) = some (L.getD k e0) := by rw [hst, hD]; rfl
          refine SG.walk tab_ok mx 400 [true, false, false, false, true] [] ?_
          conv => whnf
          try dsimp only [rowL, rowN, growOk, hiN, fromL, tightN, maxOk]
          try simp (disch := omega) only [wI, wU64, wU32, wU8, Int.toNat_natCast, toNat_succ, toNat_pred, Int.reduceToNat, Option.getD_some, Option.getD_none, Nat.sub_zero, Nat.zero_add]
          refine ⟨?_, ?_⟩
          · rw [g1]
            try simp only [beq_iff_eq, beq_eq_false_iff_ne, bne_iff_ne, bne_eq_false_iff_eq, decide_eq_true_eq, decide_eq_false_iff_not, ne_eq, Bool.not_eq_true', Bool.not_eq_false', Bool.not_eq_eq_eq_not, Bool.not_true, Bool.not_false, true_and, and_true]
            try omega
          refine SG.sub [] [0, 1] ⟨?_, ?_, ?_, by decide, rfl, rfl, rfl, ?_⟩ (by have := next (k + 1, true) ⟨hlt, by rw [e2]; rfl⟩ (by dsimp only; omega); dsimp only at this; rw [e, e2] at this; exact this)
          · repeat' (first | exact trivial | exact rfl | refine And.intro ?_ ?_)
          · repeat' (first | exact trivial | exact rfl | refine And.intro ?_ ?_)
          · repeat' (first | exact trivial | refine ⟨⟨_, rfl, ⟨rfl, rfl, .inl rfl, (fun h => by first | exact h | cases h), (fun h => by first | exact h | cases h), fun _ _ => rfl⟩, fun _ _ => rfl⟩, ?_⟩ | refine ⟨⟨_, rfl, ⟨rfl, rfl, .inr rfl, (fun h => by first | exact h | cases h), (fun h => by first | exact h | cases h), fun _ _ => rfl⟩, fun _ _ => rfl⟩, ?_⟩ | refine ⟨⟨_, rfl, ⟨rfl, rfl, .inr rfl, (fun h => by first | exact h | cases h), (fun h => by first | exact h | cases h), fun i hi => absurd hi (Nat.not_lt_zero i)⟩, fun i hi => absurd hi (Nat.not_lt_zero i)⟩, ?_⟩ | refine ⟨⟨_, rfl, ⟨rfl, rfl, .inl rfl, (fun h => by first | exact h | cases h), (fun h => by first | exact h | cases h), fun i hi => ren_closed (hQc i hi)⟩, fun i hi => inn_closed (hQc i hi)⟩, ?_⟩)
          · repeat' (first | exact trivial | exact rfl | refine And.intro ?_ ?_)
      · have hd : ¬ deadP pid (L.getD k e0) = true := by simp [deadP, hs, - List.getD_eq_getElem?_getD]
        rw [if_neg hd, Option.or_none] at hst
        refine SG.walk tab_ok mx 400 [true, false, false, false, false] [] ?_
        conv => whnf
        try dsimp only [rowL, rowN, growOk, hiN, fromL, tightN, maxOk]
        try simp (disch := omega) only [wI, wU64, wU32, wU8, Int.toNat_natCast, toNat_succ, toNat_pred, Int.reduceToNat, Option.getD_some, Option.getD_none, Nat.sub_zero, Nat.zero_add]
        refine ⟨?_, ?_⟩
        · rw [g1]
          try simp only [beq_iff_eq, beq_eq_false_iff_ne, bne_iff_ne, bne_eq_false_iff_eq, decide_eq_true_eq, decide_eq_false_iff_not, ne_eq, Bool.not_eq_true', Bool.not_eq_false', Bool.not_eq_eq_eq_not, Bool.not_true, Bool.not_false, true_and, and_true]
          try omega
        refine SG.sub [] [0, 1] ⟨?_, ?_, ?_, by decide, rfl, rfl, rfl, ?_⟩ (by have := next (k + 1, b) ⟨hlt, by rw [hst]; exact hb⟩ (by dsimp only; omega); dsimp only at this; rw [e, hst] at this; exact this)
        · repeat' (first | exact trivial | exact rfl | refine And.intro ?_ ?_)
        · repeat' (first | exact trivial | exact rfl | refine And.intro ?_ ?_)
        · repeat' (first | exact trivial | refine ⟨⟨_, rfl, ⟨rfl, rfl, .inl rfl, (fun h => by first | exact h | cases h), (fun h => by first | exact h | cases h), fun _ _ => rfl⟩, fun _ _ => rfl⟩, ?_⟩ | refine ⟨⟨_, rfl, ⟨rfl, rfl, .inr rfl, (fun h => by first | exact h | cases h), (fun h => by first | exact h | cases h), fun _ _ => rfl⟩, fun _ _ => rfl⟩, ?_⟩ | refine ⟨⟨_, rfl, ⟨rfl, rfl, .inr rfl, (fun h => by first | exact h | cases h), (fun h => by first | exact h | cases h), fun i hi => absurd hi (Nat.not_lt_zero i)⟩, fun i hi => absurd hi (Nat.not_lt_zero i)⟩, ?_⟩ | refine ⟨⟨_, rfl, ⟨rfl, rfl, .inl rfl, (fun h => by first | exact h | cases h), (fun h => by first | exact h | cases h), fun i hi => ren_closed (hQc i hi)⟩, fun i hi => inn_closed (hQc i hi)⟩, ?_⟩)
        · repeat' (first | exact trivial | exact rfl | refine And.intro ?_ ?_)
    · have hd : ¬ deadP pid (L.getD k e0) = true := by simp [deadP, hp, - List.getD_eq_getElem?_getD]
      rw [if_neg hd, Option.or_none] at hst
      have e : kidsL pid (L.take (k + 1)) = kidsL pid (L.take k) := by
        unfold kidsL
        rw [filt_take_no (d := e0) hlt (by simp [parP, hp, - List.getD_eq_getElem?_getD])]
      refine SG.walk tab_ok mx 400 [true, true] [] ?_
      conv => whnf
      try dsimp only [rowL, rowN, growOk, hiN, fromL, tightN, maxOk]
      try simp (disch := omega) only [wI, wU64, wU32, wU8, Int.toNat_natCast, toNat_succ, toNat_pred, Int.reduceToNat, Option.getD_some, Option.getD_none, Nat.sub_zero, Nat.zero_add]
      refine ⟨?_, ?_⟩
      · try simp only [beq_iff_eq, beq_eq_false_iff_ne, bne_iff_ne, bne_eq_false_iff_eq, decide_eq_true_eq, decide_eq_false_iff_not, ne_eq, Bool.not_eq_true', Bool.not_eq_false', Bool.not_eq_eq_eq_not, Bool.not_true, Bool.not_false, true_and, and_true]
        try omega
      refine SG.sub [] [0, 1] ⟨?_, ?_, ?_, by decide, rfl, rfl, rfl, ?_⟩ (by have := next (k + 1, b) ⟨hlt, by rw [hst]; exact hb⟩ (by dsimp only; omega); dsimp only at this; rw [e, hst] at this; exact this)
      · repeat' (first | exact trivial | exact rfl | refine And.intro ?_ ?_)
      · repeat' (first | exact trivial | exact rfl | refine And.intro ?_ ?_)
      · repeat' (first | exact trivial | refine ⟨⟨_, rfl, ⟨rfl, rfl, .inl rfl, (fun h => by first | exact h | cases h), (fun h => by first | exact h | cases h), fun _ _ => rfl⟩, fun _ _ => rfl⟩, ?_⟩ | refine ⟨⟨_, rfl, ⟨rfl, rfl, .inr rfl, (fun h => by first | exact h | cases h), (fun h => by first | exact h | cases h), fun _ _ => rfl⟩, fun _ _ => rfl⟩, ?_⟩ | refine ⟨⟨_, rfl, ⟨rfl, rfl, .inr rfl, (fun h => by first | exact h | cases h), (fun h => by first | exact h | cases h), fun i hi => absurd hi (Nat.not_lt_zero i)⟩, fun i hi => absurd hi (Nat.not_lt_zero i)⟩, ?_⟩ | refine ⟨⟨_, rfl, ⟨rfl, rfl, .inl rfl, (fun h => by first | exact h | cases h), (fun h => by first | exact h | cases h), fun i hi => ren_closed (hQc i hi)⟩, fun i hi => inn_closed (hQc i hi)⟩, ?_⟩)
      · repeat' (first | exact trivial | exact rfl | refine And.intro ?_ ?_)
  · rw [List.take_of_length_le (by omega)] at hb ⊢
    have hdt := fun {W : Base} {B : List (Option (List At))} {Rs : List (Option Row)} {R : Row} (h1 : Rs[0]? = some (some R)) (h2 : RowLe R (rowE L)) => hb ▸ @deadT W B Rs 0 R L pid h1 h2 (by omega)
    refine SG.walk tab_ok mx 400 [false, true, true] [mkHd (.tup [.one (.v (.int .i64 (dv (L.find? (deadP pid))))), .one (.lb b)]) []] ?_
    conv => whnf
    try dsimp only [rowL, rowN, growOk, hiN, fromL, tightN, maxOk]
    try simp (disch := omega) only [wI, wU64, wU32, wU8, Int.toNat_natCast, toNat_succ, toNat_pred, Int.reduceToNat, Option.getD_some, Option.getD_none, Nat.sub_zero, Nat.zero_add]
    refine ⟨?_, ?_⟩
    · exact ⟨by simp, by simp, hdt rfl (.of rfl rfl (fun _ _ => rfl)), by simp; omega⟩
    refine SG.ret tab_ok Try.func9 rfl ?_
    intro ρ w' v hm hv
    exact top_v hm hv (by simp)
end Go.Proofs.Ythdpigdbkljiiaa
