/- Alarms: the example; statements. -/
import Derived.Test.YtjelflknbhklnaaSlG
import Derived.Test.YtjelflknbhklnaaSxR
namespace Go.Proofs.Ytjelflknbhklnaa
open Go.Sx Go.RowKit
set_option linter.unusedVariables false
set_option linter.unusedSimpArgs false
abbrev hdDue (n : Int) (L : List E) : Hd := mkHd (.tup [.one (.rs 0), .one (.rs 1)]) [newI (dueI n L), newE (restE n L)]
abbrev hdE (L : List E) : Hd := mkHd (rsV 0) [newE L]
abbrev hdF (L : List E) : Hd := mkHd (rsV 0) [frE L]
abbrev hdB (b : Bool) : Hd := mkHd (.cv (.one (.lb b))) []
theorem nil_row {x : SV} {ρ ρ3 : Env} {vs : List Value} (h : reps ρ [.cv (.one (.v (.slice none 0 0))), x] vs) (h3 : ρ3.σ 0 = some (.slice none 0 0)) (hx : ∀ ρ ρ' v, x.rep ρ v → x.rep ρ' v) : reps ρ3 [rsV 0, x] vs := by
  match vs, h with
  | [v, u], ⟨h1, h2, _⟩ =>
    refine ⟨?_, hx _ _ _ h2, trivial⟩
    simp only [SV.rep, Cv.den, At.den, h3] at h1 ⊢
    exact h1
section
variable {W : Base} {B : List (Option (List At))} {Rs : List (Option Row)} {r : Nat} {R : Row} {L : List E}
theorem addM {a : E} {M : List E} (hr : Rs[r]? = some (some R)) (hR : RowLe R (rowE L)) (hl : L.length ≤ 8796093022100) (hM : insE a L = M) : CallOk Try.prog W B Rs 13 [rsV r, eV a] (hdE M) := by subst hM; exact addE hr hR hl
theorem rAddM {a : E} {M : List E} (hr : Rs[r]? = some (some R)) (hR : RowLe R (rowE L)) (hl : L.length ≤ 8796093022100) (hM : insE a L = M) : CallOk Try.prog W B Rs 14 [rsV r, eV a] (hdE M) := by subst hM; exact rAddE hr hR hl
theorem dropM {n : Int} {M : List E} (hr : Rs[r]? = some (some R)) (hR : RowLe R (rowE L)) (hl : L.length ≤ 8796093022100) (hM : goneE n L = M) : CallOk Try.prog W B Rs 15 [rsV r, intV n] (hdF M) := by subst hM; exact dropE hr hR hl
theorem rDropM {n : Int} {M : List E} (hr : Rs[r]? = some (some R)) (hR : RowLe R (rowE L)) (hl : L.length ≤ 8796093022100) (hM : goneE n L = M) : CallOk Try.prog W B Rs 16 [rsV r, intV n] (hdE M) := by subst hM; exact rDropE hr hR hl
theorem dueM {n : Int} {I : List Int} {M : List E} (hr : Rs[r]? = some (some R)) (hR : RowLe R (rowE L)) (hl : L.length ≤ 8796093022100) (hI : dueI n L = I) (hM : restE n L = M) : CallOk Try.prog W B Rs 10 [rsV r, .cv (.one (.v (.int .u64 n)))] (mkHd (.tup [.one (.rs 0), .one (.rs 1)]) [newI I, newE M]) := by subst hI hM; exact dueE hr hR hl
theorem rDueM {n : Int} {I : List Int} {M : List E} (hr : Rs[r]? = some (some R)) (hR : RowLe R (rowE L)) (hl : L.length ≤ 8796093022100) (hI : dueI n L = I) (hM : restE n L = M) : CallOk Try.prog W B Rs 11 [rsV r, .cv (.one (.v (.int .u64 n)))] (mkHd (.tup [.one (.rs 0), .one (.rs 1)]) [newI I, newE M]) := by subst hI hM; exact rDueE hr hR hl
set_option maxRecDepth 100000 in
theorem shownE : CallOk Try.prog W B Rs 9 [] (hdB true) := by
  refine CallOk.enter Try.func9 (by kernel_rfl) rfl [] [] [] rfl rows0 (fun r h => by cases h) rfl rfl ?_
  intro w blk hblk
  refine SG.walk tab_ok mx 400 [true, true, true, true, true] [hdE [(5, 1)], hdE [(3, 2), (5, 1)], mkHd (.tup [.one (.rs 0), .one (.rs 1)]) [newI [2], newE [(5, 1)]], mkHd (.tup [.one (.rs 0), .one (.rs 1)]) [newI [2, 1], newE []]] ?_
  conv => whnf
  try dsimp only [rowL, rowN, growOk, hiN, fromL, tightN, maxOk]
  try simp (disch := omega) only [wI, wU64, wU32, wU8, Int.toNat_natCast, toNat_succ, toNat_pred, Int.reduceToNat, Option.getD_some, Option.getD_none, Nat.sub_zero, Nat.zero_add]
  refine ⟨?_, ?_⟩
  · exact ⟨by decide, by decide, by decide, by decide, by decide, by decide, by decide, by decide, by decide, by decide,
      dueM (r := 1) (L := [(3, 2), (5, 1)]) (n := 5) (I := [2, 1]) (M := []) rfl (.of rfl rfl (fun _ _ => rfl)) (by decide) (by decide) (by decide),
      dueM (r := 1) (L := [(3, 2), (5, 1)]) (n := 3) (I := [2]) (M := [(5, 1)]) rfl (.of rfl rfl (fun _ _ => rfl)) (by decide) (by decide) (by decide),
      addM (r := 0) (L := [(5, 1)]) (a := (3, 2)) rfl (.of rfl rfl (fun _ _ => rfl)) (by decide) (show insE (3, 2) [(5, 1)] = [(3, 2), (5, 1)] by decide),
      CallOk.of_nil 2 [rsV 0, eV (5, 1)] (addM (r := 0) (L := []) (a := (5, 1)) (M := [(5, 1)]) rfl (.of rfl rfl (fun _ h => by cases h)) (by decide) (by decide)) (fun ρ ρ3 vs h h3 => nil_row h h3 (fun _ _ _ h => h)) rfl (by simp [closedRow, rowN, At.isV])⟩
  refine SG.ret tab_ok Try.func9 rfl ?_
  intro ρ w' v hm hv
  exact Post.mk hm (.cv (.one (.lb true))) [] none [] hv rfl rows0 rfl (by simp)
end
set_option maxRecDepth 100000 in
theorem time_walk (w : World) (now n : Int) (h1 : 0 ≤ now) (h2 : now ≤ 18446744073709551615) (h3 : 0 ≤ n) (h4 : n ≤ 4294967295) :
    Calls Try.prog 7 #[.int .u64 now, .int .u32 n] w fun e w' => e = .returned (.bool true) ∧ Below w.heap.size w w' := by
  refine calls_top Try.func7 rfl [] [] [.cv (.one (.v (.int .u64 now))), .cv (.one (.v (.int .u32 n)))] .nil ⟨rfl, rfl, trivial⟩ ?_
  by_cases h : now + n > 18446744073709551615
  · have e : untilN now n = 18446744073709551615 := if_pos h
    by_cases hq : 18446744073709551615 - now = n
    · refine SG.walk tab_ok mx 400 [true, true] [hdB true, mkHd (.cv (.one (.v (.int .u64 (untilN now n))))) []] ?_
      conv => whnf
      try dsimp only [rowL, rowN, growOk, hiN, fromL, tightN, maxOk]
      try simp (disch := omega) only [wI, wU64, wU32, wU8, Int.toNat_natCast, toNat_succ, toNat_pred, Int.reduceToNat, Option.getD_some, Option.getD_none, Nat.sub_zero, Nat.zero_add]
      refine ⟨?_, ?_⟩
      · exact ⟨by rw [e]; (first | (simp only [decide_eq_true_eq, ge_iff_le, beq_iff_eq, beq_eq_false_iff_ne, ne_eq]; omega) | omega), by rw [e]; (first | (simp only [decide_eq_true_eq, ge_iff_le, beq_iff_eq, beq_eq_false_iff_ne, ne_eq]; omega) | omega), untilE h1 h2 h3 h4, shownE⟩
      refine SG.ret tab_ok Try.func7 rfl ?_
      intro ρ w' v hm hv
      exact top_true hm hv rfl
    · refine SG.walk tab_ok mx 400 [true, false] [hdB true, mkHd (.cv (.one (.v (.int .u64 (untilN now n))))) []] ?_
      conv => whnf
      try dsimp only [rowL, rowN, growOk, hiN, fromL, tightN, maxOk]
      try simp (disch := omega) only [wI, wU64, wU32, wU8, Int.toNat_natCast, toNat_succ, toNat_pred, Int.reduceToNat, Option.getD_some, Option.getD_none, Nat.sub_zero, Nat.zero_add]
      refine ⟨?_, ?_⟩
      · exact ⟨by rw [e]; (first | (simp only [decide_eq_true_eq, ge_iff_le, beq_iff_eq, beq_eq_false_iff_ne, ne_eq]; omega) | omega), by rw [e]; (first | (simp only [decide_eq_true_eq, ge_iff_le, beq_iff_eq, beq_eq_false_iff_ne, ne_eq]; omega) | omega), untilE h1 h2 h3 h4, shownE⟩
      refine SG.ret tab_ok Try.func7 rfl ?_
      intro ρ w' v hm hv
      exact top_v hm hv (by rw [e]; rfl)
  · have e : untilN now n = now + n := if_neg h
    refine SG.walk tab_ok mx 400 [true, true] [hdB true, mkHd (.cv (.one (.v (.int .u64 (untilN now n))))) []] ?_
    conv => whnf
    try dsimp only [rowL, rowN, growOk, hiN, fromL, tightN, maxOk]
    try simp (disch := omega) only [wI, wU64, wU32, wU8, Int.toNat_natCast, toNat_succ, toNat_pred, Int.reduceToNat, Option.getD_some, Option.getD_none, Nat.sub_zero, Nat.zero_add]
    refine ⟨?_, ?_⟩
    · exact ⟨by rw [e]; (first | (simp only [decide_eq_true_eq, ge_iff_le, beq_iff_eq, beq_eq_false_iff_ne, ne_eq]; omega) | omega), by rw [e]; (first | (simp only [decide_eq_true_eq, ge_iff_le, beq_iff_eq, beq_eq_false_iff_ne, ne_eq]; omega) | omega), untilE h1 h2 h3 h4, shownE⟩
    refine SG.ret tab_ok Try.func7 rfl ?_
    intro ρ w' v hm hv
    exact top_true hm hv rfl
set_option maxRecDepth 100000 in
theorem gone_walk (w : World) (c : Value) (L : List E) (a : E) (hrow : ∀ W' ρ, RowOk W' ρ w c (rowE L)) (hl : L.length ≤ 8796093022000) :
    Calls Try.prog 6 #[c, .agg #[.int .u64 a.1, .int .i64 a.2]] w fun e w' => e = .returned (.bool true) ∧ Below w.heap.size w w' := by
  obtain ⟨A, cap, rfl, _⟩ := (hrow ⟨w, none, []⟩ ⟨fun _ => none, fun _ => none⟩).form
  refine calls_top Try.func6 rfl [.slice A L.length cap] [rowE L] [rsV 0, eV a] (.cons hrow rfl .nil) ⟨rfl, rfl, trivial⟩ ?_
  clear hrow
  have hil := ins_len a L
  have hgl : (goneE a.2 (insE a L)).length ≤ L.length + 1 := by rw [← hil]; exact List.length_filter_le _ _
  refine SG.walk tab_ok mx 400 [] [hdB true, hdE (insE a L), hdF (goneE a.2 (insE a L))] ?_
  conv => whnf
  try dsimp only [rowL, rowN, growOk, hiN, fromL, tightN, maxOk]
  try simp (disch := omega) only [wI, wU64, wU32, wU8, Int.toNat_natCast, toNat_succ, toNat_pred, Int.reduceToNat, Option.getD_some, Option.getD_none, Nat.sub_zero, Nat.zero_add]
  refine ⟨?_, ?_⟩
  · exact ⟨dropM (r := 1) rfl (.of rfl rfl (fun _ _ => rfl)) (by omega) rfl, addM (r := 0) rfl (.of rfl rfl (fun _ _ => rfl)) (by omega) rfl, shownE⟩
  refine SG.loop (fun k : Nat => ⟨puts (List.replicate (Try.f6).ntmps .any) [(0, rsV 0), (3, bpV 0), (5, trueV), (6, rsV 1), (7, rsV 2), (8, intV (((insE a L).take k).count a)), (9, intV k)], [some (eC a)], [some (rowE L), some (newE (insE a L)), some (frE (goneE a.2 (insE a L)))], []⟩) (fun k => k ≤ (insE a L).length) (fun k => (insE a L).length - k) (0) (Nat.zero_le _) (fun h => SG.sub [0] [0, 1, 2] ⟨?_, ?_, ?_, by decide, rfl, rfl, rfl, ?_⟩ h) ?_
  · repeat' (first | exact trivial | exact rfl | refine And.intro ?_ ?_)
  · repeat' (first | exact trivial | exact rfl | refine And.intro ?_ ?_)
  · repeat' (first | exact trivial | refine ⟨⟨_, rfl, ⟨rfl, rfl, .inl rfl, (fun h => by first | exact h | cases h), (fun h => by first | exact h | cases h), fun _ _ => rfl⟩, fun _ _ => rfl⟩, ?_⟩ | refine ⟨⟨_, rfl, ⟨rfl, rfl, .inr rfl, (fun h => by first | exact h | cases h), (fun h => by first | exact h | cases h), fun _ _ => rfl⟩, fun _ _ => rfl⟩, ?_⟩ | refine ⟨⟨_, rfl, ⟨rfl, rfl, .inr rfl, (fun h => by first | exact h | cases h), (fun h => by first | exact h | cases h), fun i hi => absurd hi (Nat.not_lt_zero i)⟩, fun i hi => absurd hi (Nat.not_lt_zero i)⟩, ?_⟩ | refine ⟨⟨_, rfl, ⟨rfl, rfl, .inl rfl, (fun h => by first | exact h | cases h), (fun h => by first | exact h | cases h), fun i hi => ren_closed (hQc i hi)⟩, fun i hi => inn_closed (hQc i hi)⟩, ?_⟩)
  · repeat' (first | exact trivial | exact rfl | refine And.intro ?_ ?_)
  intro k hk next
  by_cases hlt : k < (insE a L).length
  · have hct : ((insE a L).take k).count a ≤ L.length + 1 := Nat.le_trans List.count_le_length (by simp; omega)
    by_cases hp : (insE a L).getD k e0 = a
    · have hc : ((insE a L).take (k + 1)).count a = ((insE a L).take k).count a + 1 := by rw [take_snoc (d := e0) hlt, List.count_append, hp]; simp
      refine SG.walk tab_ok mx 400 [true, true] [] ?_
      conv => whnf
      try dsimp only [rowL, rowN, growOk, hiN, fromL, tightN, maxOk]
      try simp (disch := omega) only [wI, wU64, wU32, wU8, Int.toNat_natCast, toNat_succ, toNat_pred, Int.reduceToNat, Option.getD_some, Option.getD_none, Nat.sub_zero, Nat.zero_add]
      refine ⟨?_, ?_⟩
      · simp only [e_eq]
        refine ⟨by simpa using hp, by omega, by omega, by simpa using hlt⟩
      refine SG.sub [0] [0, 1, 2] ⟨?_, ?_, ?_, by decide, rfl, rfl, rfl, ?_⟩ (by have := next (k + 1) hlt (by omega); rw [hc] at this; exact this)
      · repeat' (first | exact trivial | exact rfl | refine And.intro ?_ ?_)
      · repeat' (first | exact trivial | exact rfl | refine And.intro ?_ ?_)
      · repeat' (first | exact trivial | refine ⟨⟨_, rfl, ⟨rfl, rfl, .inl rfl, (fun h => by first | exact h | cases h), (fun h => by first | exact h | cases h), fun _ _ => rfl⟩, fun _ _ => rfl⟩, ?_⟩ | refine ⟨⟨_, rfl, ⟨rfl, rfl, .inr rfl, (fun h => by first | exact h | cases h), (fun h => by first | exact h | cases h), fun _ _ => rfl⟩, fun _ _ => rfl⟩, ?_⟩ | refine ⟨⟨_, rfl, ⟨rfl, rfl, .inr rfl, (fun h => by first | exact h | cases h), (fun h => by first | exact h | cases h), fun i hi => absurd hi (Nat.not_lt_zero i)⟩, fun i hi => absurd hi (Nat.not_lt_zero i)⟩, ?_⟩ | refine ⟨⟨_, rfl, ⟨rfl, rfl, .inl rfl, (fun h => by first | exact h | cases h), (fun h => by first | exact h | cases h), fun i hi => ren_closed (hQc i hi)⟩, fun i hi => inn_closed (hQc i hi)⟩, ?_⟩)
      · repeat' (first | exact trivial | exact rfl | refine And.intro ?_ ?_)
    · have hc : ((insE a L).take (k + 1)).count a = ((insE a L).take k).count a := by rw [take_snoc (d := e0) hlt, List.count_append]; simp [List.count_cons, hp, - List.getD_eq_getElem?_getD]
      refine SG.walk tab_ok mx 400 [true, false] [] ?_
      conv => whnf
      try dsimp only [rowL, rowN, growOk, hiN, fromL, tightN, maxOk]
      try simp (disch := omega) only [wI, wU64, wU32, wU8, Int.toNat_natCast, toNat_succ, toNat_pred, Int.reduceToNat, Option.getD_some, Option.getD_none, Nat.sub_zero, Nat.zero_add]
      refine ⟨?_, ?_⟩
      · simp only [e_eq]
        refine ⟨by simpa using hp, by omega, by omega, by simpa using hlt⟩
      refine SG.sub [0] [0, 1, 2] ⟨?_, ?_, ?_, by decide, rfl, rfl, rfl, ?_⟩ (by have := next (k + 1) hlt (by omega); rw [hc] at this; exact this)
      · repeat' (first | exact trivial | exact rfl | refine And.intro ?_ ?_)
      · repeat' (first | exact trivial | exact rfl | refine And.intro ?_ ?_)
      · repeat' (first | exact trivial | refine ⟨⟨_, rfl, ⟨rfl, rfl, .inl rfl, (fun h => by first | exact h | cases h), (fun h => by first | exact h | cases h), fun _ _ => rfl⟩, fun _ _ => rfl⟩, ?_⟩ | refine ⟨⟨_, rfl, ⟨rfl, rfl, .inr rfl, (fun h => by first | exact h | cases h), (fun h => by first | exact h | cases h), fun _ _ => rfl⟩, fun _ _ => rfl⟩, ?_⟩ | refine ⟨⟨_, rfl, ⟨rfl, rfl, .inr rfl, (fun h => by first | exact h | cases h), (fun h => by first | exact h | cases h), fun i hi => absurd hi (Nat.not_lt_zero i)⟩, fun i hi => absurd hi (Nat.not_lt_zero i)⟩, ?_⟩ | refine ⟨⟨_, rfl, ⟨rfl, rfl, .inl rfl, (fun h => by first | exact h | cases h), (fun h => by first | exact h | cases h), fun i hi => ren_closed (hQc i hi)⟩, fun i hi => inn_closed (hQc i hi)⟩, ?_⟩)
      · repeat' (first | exact trivial | exact rfl | refine And.intro ?_ ?_)
  · have hc : 1 ≤ ((insE a L).take k).count a := by
      rw [List.take_of_length_le (by omega)]
      exact List.count_pos_iff.2 (ins_mem a L)
    generalize ((insE a L).take k).count a = cnt at *
    refine SG.walk tab_ok mx 400 [false] [] ?_
    conv => whnf
    try dsimp only [rowL, rowN, growOk, hiN, fromL, tightN, maxOk]
    try simp (disch := omega) only [wI, wU64, wU32, wU8, Int.toNat_natCast, toNat_succ, toNat_pred, Int.reduceToNat, Option.getD_some, Option.getD_none, Nat.sub_zero, Nat.zero_add]
    refine ⟨?_, ?_⟩
    · simpa using hlt
    refine SG.loop (fun k : Nat => ⟨puts (List.replicate (Try.f6).ntmps .any) [(0, rsV 0), (3, bpV 0), (5, trueV), (6, rsV 1), (7, rsV 2), (8, intV cnt), (10, intV k)], [some (eC a)], [some (rowE L), some (newE (insE a L)), some (frE (goneE a.2 (insE a L)))], []⟩) (fun k => k ≤ (goneE a.2 (insE a L)).length) (fun k => (goneE a.2 (insE a L)).length - k) (0) (Nat.zero_le _) (fun h => SG.sub [0] [0, 1, 2] ⟨?_, ?_, ?_, by decide, rfl, rfl, rfl, ?_⟩ h) ?_
    · repeat' (first | exact trivial | exact rfl | refine And.intro ?_ ?_)
    · repeat' (first | exact trivial | exact rfl | refine And.intro ?_ ?_)
    · repeat' (first | exact trivial | refine ⟨⟨_, rfl, ⟨rfl, rfl, .inl rfl, (fun h => by first | exact h | cases h), (fun h => by first | exact h | cases h), fun _ _ => rfl⟩, fun _ _ => rfl⟩, ?_⟩ | refine ⟨⟨_, rfl, ⟨rfl, rfl, .inr rfl, (fun h => by first | exact h | cases h), (fun h => by first | exact h | cases h), fun _ _ => rfl⟩, fun _ _ => rfl⟩, ?_⟩ | refine ⟨⟨_, rfl, ⟨rfl, rfl, .inr rfl, (fun h => by first | exact h | cases h), (fun h => by first | exact h | cases h), fun i hi => absurd hi (Nat.not_lt_zero i)⟩, fun i hi => absurd hi (Nat.not_lt_zero i)⟩, ?_⟩ | refine ⟨⟨_, rfl, ⟨rfl, rfl, .inl rfl, (fun h => by first | exact h | cases h), (fun h => by first | exact h | cases h), fun i hi => ren_closed (hQc i hi)⟩, fun i hi => inn_closed (hQc i hi)⟩, ?_⟩)
    · repeat' (first | exact trivial | exact rfl | refine And.intro ?_ ?_)
    intro k hk next
    by_cases hlt : k < (goneE a.2 (insE a L)).length
    · have hne := gone_get hlt
      refine SG.walk tab_ok mx 400 [true, false] [] ?_
      conv => whnf
      try dsimp only [rowL, rowN, growOk, hiN, fromL, tightN, maxOk]
      try simp (disch := omega) only [wI, wU64, wU32, wU8, Int.toNat_natCast, toNat_succ, toNat_pred, Int.reduceToNat, Option.getD_some, Option.getD_none, Nat.sub_zero, Nat.zero_add]
      refine ⟨?_, ?_⟩
      · try simp only [beq_iff_eq, beq_eq_false_iff_ne, bne_iff_ne, bne_eq_false_iff_eq, decide_eq_true_eq, decide_eq_false_iff_not, ne_eq, Bool.not_eq_true', Bool.not_eq_false', Bool.not_eq_eq_eq_not, Bool.not_true, Bool.not_false]
        try omega
      refine SG.sub [0] [0, 1, 2] ⟨?_, ?_, ?_, by decide, rfl, rfl, rfl, ?_⟩ (next (k + 1) hlt (by omega))
      · repeat' (first | exact trivial | exact rfl | refine And.intro ?_ ?_)
      · repeat' (first | exact trivial | exact rfl | refine And.intro ?_ ?_)
      · repeat' (first | exact trivial | refine ⟨⟨_, rfl, ⟨rfl, rfl, .inl rfl, (fun h => by first | exact h | cases h), (fun h => by first | exact h | cases h), fun _ _ => rfl⟩, fun _ _ => rfl⟩, ?_⟩ | refine ⟨⟨_, rfl, ⟨rfl, rfl, .inr rfl, (fun h => by first | exact h | cases h), (fun h => by first | exact h | cases h), fun _ _ => rfl⟩, fun _ _ => rfl⟩, ?_⟩ | refine ⟨⟨_, rfl, ⟨rfl, rfl, .inr rfl, (fun h => by first | exact h | cases h), (fun h => by first | exact h | cases h), fun i hi => absurd hi (Nat.not_lt_zero i)⟩, fun i hi => absurd hi (Nat.not_lt_zero i)⟩, ?_⟩ | refine ⟨⟨_, rfl, ⟨rfl, rfl, .inl rfl, (fun h => by first | exact h | cases h), (fun h => by first | exact h | cases h), fun i hi => ren_closed (hQc i hi)⟩, fun i hi => inn_closed (hQc i hi)⟩, ?_⟩)
      · repeat' (first | exact trivial | exact rfl | refine And.intro ?_ ?_)
    · refine SG.walk tab_ok mx 400 [false, true, true] [hdF (goneE a.2 L), hdB true] ?_
      conv => whnf
      try dsimp only [rowL, rowN, growOk, hiN, fromL, tightN, maxOk]
      try simp (disch := omega) only [wI, wU64, wU32, wU8, Int.toNat_natCast, toNat_succ, toNat_pred, Int.reduceToNat, Option.getD_some, Option.getD_none, Nat.sub_zero, Nat.zero_add]
      refine ⟨?_, ?_⟩
      · refine ⟨sameE (r := 2) (q := 3) rfl (.of rfl rfl (fun _ _ => rfl)) rfl (.of rfl rfl (fun _ _ => rfl)) (by omega) (by rw [gone_ins]; simp), dropM (r := 0) rfl (.of rfl rfl (fun _ _ => rfl)) (by omega) rfl, ?_⟩
        try simp only [beq_iff_eq, beq_eq_false_iff_ne, bne_iff_ne, bne_eq_false_iff_eq, decide_eq_true_eq, decide_eq_false_iff_not, ne_eq, Bool.not_eq_true', Bool.not_eq_false', Bool.not_eq_eq_eq_not, Bool.not_true, Bool.not_false]
        try omega
      refine SG.ret tab_ok Try.func6 rfl ?_
      intro ρ w' v hm hv
      exact top_true hm hv rfl
end Go.Proofs.Ytjelflknbhklnaa
