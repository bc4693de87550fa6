/- Tables: what is right for the document; statements, on: what stays. -/
import Derived.Test.YthdpigdbkljiiaaTbK
import Derived.Test.YthdpigdbkljiiaaTbF
namespace Go.Proofs.Ythdpigdbkljiiaa
open Go.Sx Go.RowKit
set_option linter.unusedVariables false
set_option linter.unusedSimpArgs false
theorem ahead_nn {L : List E} : ∀ {k : Nat}, (∀ j, j < k → ahead L j < (L.getD j e0).pid) → 0 ≤ ahead L k
  | 0, _ => Int.le_refl _
  | k + 1, h => by
    have h1 := ahead_nn (k := k) fun j hj => h j (by omega)
    have h2 := h k (by omega)
    simp only [ahead]; omega
section
variable {W : Base} {B : List (Option (List At))} {Rs : List (Option Row)}
set_option maxRecDepth 100000 in
theorem rRightT {r : Nat} {R : Row} {L : List E} (hr : Rs[r]? = some (some R)) (hR : RowLe R (rowE L)) (hl : L.length ≤ 837723144960) {b : Bool} (hb : b = true ↔ Asc L) :
    CallOk Try.prog W B Rs 29 [rsV r] (hdB b) := by
  refine CallOk.enter Try.func29 (by kernel_rfl) rfl [r] [rowE L] [rsV 0] rfl (rows1 (.ro_ hr hR rfl rfl (fun _ _ => rfl))) (fun r h => by cases h) rfl rfl ?_
  intro w blk hblk
  refine SG.walk tab_ok mx 400 [] [] ?_
  conv => whnf
  try dsimp only [rowL, rowN, growOk, hiN, fromL, tightN, maxOk]
  try simp (disch := omega) only [wI, wU64, wU32, wU8, Int.toNat_natCast, toNat_succ, toNat_pred, Int.reduceToNat, Option.getD_some, Option.getD_none, Nat.sub_zero, Nat.zero_add]
  refine ⟨?_, ?_⟩
  · trivial
  refine SG.loop (fun k : Nat => ⟨puts (List.replicate (Try.f29).ntmps .any) [(0, rsV 0), (3, intV k)], [], [some (rowE L)], []⟩) (fun k => k ≤ L.length ∧ ∀ j, j < k → ahead L j < (L.getD j e0).pid) (fun k => L.length - k) (0) (⟨Nat.zero_le _, fun j hj => by omega⟩) (fun h => SG.sub [] [0] ⟨?_, ?_, ?_, by decide, rfl, rfl, rfl, ?_⟩ h) ?_
  · repeat' (first | exact trivial | exact rfl | refine And.intro ?_ ?_)
  · repeat' (first | exact trivial | exact rfl | refine And.intro ?_ ?_)
  · repeat' (first | exact trivial | refine ⟨⟨_, rfl, ⟨rfl, rfl, .inl rfl, (fun h => by first | exact h | cases h), (fun h => by first | exact h | cases h), fun _ _ => rfl⟩, fun _ _ => rfl⟩, ?_⟩ | refine ⟨⟨_, rfl, ⟨rfl, rfl, .inr rfl, (fun h => by first | exact h | cases h), (fun h => by first | exact h | cases h), fun _ _ => rfl⟩, fun _ _ => rfl⟩, ?_⟩ | refine ⟨⟨_, rfl, ⟨rfl, rfl, .inr rfl, (fun h => by first | exact h | cases h), (fun h => by first | exact h | cases h), fun i hi => absurd hi (Nat.not_lt_zero i)⟩, fun i hi => absurd hi (Nat.not_lt_zero i)⟩, ?_⟩ | refine ⟨⟨_, rfl, ⟨rfl, rfl, .inl rfl, (fun h => by first | exact h | cases h), (fun h => by first | exact h | cases h), fun i hi => ren_closed (hQc i hi)⟩, fun i hi => inn_closed (hQc i hi)⟩, ?_⟩)
  · repeat' (first | exact trivial | exact rfl | refine And.intro ?_ ?_)
  intro k hk next
  have hnn := ahead_nn hk.2
  have hf : ∀ (hlt : k < L.length), ¬ ahead L k < (L.getD k e0).pid → b = false := fun hlt hp => by
    cases b
    · rfl
    · exact absurd (hb.1 rfl k hlt) hp
  by_cases hlt : k < L.length
  · by_cases h1 : (L.getD k e0).pid < 1
    · have := hf hlt (by omega)
      subst this
      refine SG.walk tab_ok mx 400 [true, true] [] ?_
      conv => whnf
      try dsimp only [rowL, rowN, growOk, hiN, fromL, tightN, maxOk]
      try simp (disch := omega) only [wI, wU64, wU32, wU8, Int.toNat_natCast, toNat_succ, toNat_pred, Int.reduceToNat, Option.getD_some, Option.getD_none, Nat.sub_zero, Nat.zero_add]
      refine ⟨?_, ?_⟩
      · try simp only [beq_iff_eq, beq_eq_false_iff_ne, bne_iff_ne, bne_eq_false_iff_eq, decide_eq_true_eq, decide_eq_false_iff_not, ne_eq, Bool.not_eq_true', Bool.not_eq_false', Bool.not_eq_eq_eq_not, Bool.not_true, Bool.not_false, true_and, and_true]
        try omega
      refine SG.ret tab_ok Try.func29 rfl ?_
      intro ρ w' v hm hv
      exact Post.mk hm (.cv (.one (.lb false))) [] none [] hv rfl rows0 rfl (by simp)
    · cases k with
      | zero =>
        refine SG.walk tab_ok mx 400 [true, false, false] [] ?_
        conv => whnf
        try dsimp only [rowL, rowN, growOk, hiN, fromL, tightN, maxOk]
        try simp (disch := omega) only [wI, wU64, wU32, wU8, Int.toNat_natCast, toNat_succ, toNat_pred, Int.reduceToNat, Option.getD_some, Option.getD_none, Nat.sub_zero, Nat.zero_add]
        refine ⟨?_, ?_⟩
        · try simp only [beq_iff_eq, beq_eq_false_iff_ne, bne_iff_ne, bne_eq_false_iff_eq, decide_eq_true_eq, decide_eq_false_iff_not, ne_eq, Bool.not_eq_true', Bool.not_eq_false', Bool.not_eq_eq_eq_not, Bool.not_true, Bool.not_false, true_and, and_true]
          try omega
        refine SG.sub [] [0] ⟨?_, ?_, ?_, by decide, rfl, rfl, rfl, ?_⟩ (next 1 ⟨hlt, upto_succ hk.2 (by simp only [ahead]; omega)⟩ (by omega))
        · repeat' (first | exact trivial | exact rfl | refine And.intro ?_ ?_)
        · repeat' (first | exact trivial | exact rfl | refine And.intro ?_ ?_)
        · repeat' (first | exact trivial | refine ⟨⟨_, rfl, ⟨rfl, rfl, .inl rfl, (fun h => by first | exact h | cases h), (fun h => by first | exact h | cases h), fun _ _ => rfl⟩, fun _ _ => rfl⟩, ?_⟩ | refine ⟨⟨_, rfl, ⟨rfl, rfl, .inr rfl, (fun h => by first | exact h | cases h), (fun h => by first | exact h | cases h), fun _ _ => rfl⟩, fun _ _ => rfl⟩, ?_⟩ | refine ⟨⟨_, rfl, ⟨rfl, rfl, .inr rfl, (fun h => by first | exact h | cases h), (fun h => by first | exact h | cases h), fun i hi => absurd hi (Nat.not_lt_zero i)⟩, fun i hi => absurd hi (Nat.not_lt_zero i)⟩, ?_⟩ | refine ⟨⟨_, rfl, ⟨rfl, rfl, .inl rfl, (fun h => by first | exact h | cases h), (fun h => by first | exact h | cases h), fun i hi => ren_closed (hQc i hi)⟩, fun i hi => inn_closed (hQc i hi)⟩, ?_⟩)
        · repeat' (first | exact trivial | exact rfl | refine And.intro ?_ ?_)
      | succ m =>
        by_cases hp : (L.getD m e0).pid ≥ (L.getD (m + 1) e0).pid
        · have := hf hlt (by simp only [ahead]; omega)
          subst this
          refine SG.walk tab_ok mx 400 [true, false, true, true] [] ?_
          conv => whnf
          try dsimp only [rowL, rowN, growOk, hiN, fromL, tightN, maxOk]
          try simp (disch := omega) only [wI, wU64, wU32, wU8, Int.toNat_natCast, toNat_succ, toNat_pred, Int.reduceToNat, Option.getD_some, Option.getD_none, Nat.sub_zero, Nat.zero_add]
          refine ⟨?_, ?_⟩
          · simp only [show (((m + 1 : Nat) : Int) - 1).toNat = m by omega]
            try simp only [beq_iff_eq, beq_eq_false_iff_ne, bne_iff_ne, bne_eq_false_iff_eq, decide_eq_true_eq, decide_eq_false_iff_not, ne_eq, Bool.not_eq_true', Bool.not_eq_false', Bool.not_eq_eq_eq_not, Bool.not_true, Bool.not_false, true_and, and_true]
            try omega
          refine SG.ret tab_ok Try.func29 rfl ?_
          intro ρ w' v hm hv
          exact Post.mk hm (.cv (.one (.lb false))) [] none [] hv rfl rows0 rfl (by simp)
        · refine SG.walk tab_ok mx 400 [true, false, true, false] [] ?_
          conv => whnf
          try dsimp only [rowL, rowN, growOk, hiN, fromL, tightN, maxOk]
          try simp (disch := omega) only [wI, wU64, wU32, wU8, Int.toNat_natCast, toNat_succ, toNat_pred, Int.reduceToNat, Option.getD_some, Option.getD_none, Nat.sub_zero, Nat.zero_add]
          refine ⟨?_, ?_⟩
          · simp only [show (((m + 1 : Nat) : Int) - 1).toNat = m by omega]
            try simp only [beq_iff_eq, beq_eq_false_iff_ne, bne_iff_ne, bne_eq_false_iff_eq, decide_eq_true_eq, decide_eq_false_iff_not, ne_eq, Bool.not_eq_true', Bool.not_eq_false', Bool.not_eq_eq_eq_not, Bool.not_true, Bool.not_false, true_and, and_true]
            try omega
          refine SG.sub [] [0] ⟨?_, ?_, ?_, by decide, rfl, rfl, rfl, ?_⟩ (next (m + 1 + 1) ⟨hlt, upto_succ hk.2 (by simp only [ahead]; omega)⟩ (by omega))
          · repeat' (first | exact trivial | exact rfl | refine And.intro ?_ ?_)
          · repeat' (first | exact trivial | exact rfl | refine And.intro ?_ ?_)
          · repeat' (first | exact trivial | refine ⟨⟨_, rfl, ⟨rfl, rfl, .inl rfl, (fun h => by first | exact h | cases h), (fun h => by first | exact h | cases h), fun _ _ => rfl⟩, fun _ _ => rfl⟩, ?_⟩ | refine ⟨⟨_, rfl, ⟨rfl, rfl, .inr rfl, (fun h => by first | exact h | cases h), (fun h => by first | exact h | cases h), fun _ _ => rfl⟩, fun _ _ => rfl⟩, ?_⟩ | refine ⟨⟨_, rfl, ⟨rfl, rfl, .inr rfl, (fun h => by first | exact h | cases h), (fun h => by first | exact h | cases h), fun i hi => absurd hi (Nat.not_lt_zero i)⟩, fun i hi => absurd hi (Nat.not_lt_zero i)⟩, ?_⟩ | refine ⟨⟨_, rfl, ⟨rfl, rfl, .inl rfl, (fun h => by first | exact h | cases h), (fun h => by first | exact h | cases h), fun i hi => ren_closed (hQc i hi)⟩, fun i hi => inn_closed (hQc i hi)⟩, ?_⟩)
          · repeat' (first | exact trivial | exact rfl | refine And.intro ?_ ?_)
  · have : b = true := hb.2 fun j hj => hk.2 j (by omega)
    subst this
    refine SG.walk tab_ok mx 400 [false] [] ?_
    conv => whnf
    try dsimp only [rowL, rowN, growOk, hiN, fromL, tightN, maxOk]
    try simp (disch := omega) only [wI, wU64, wU32, wU8, Int.toNat_natCast, toNat_succ, toNat_pred, Int.reduceToNat, Option.getD_some, Option.getD_none, Nat.sub_zero, Nat.zero_add]
    refine ⟨?_, ?_⟩
    · try simp only [beq_iff_eq, beq_eq_false_iff_ne, bne_iff_ne, bne_eq_false_iff_eq, decide_eq_true_eq, decide_eq_false_iff_not, ne_eq, Bool.not_eq_true', Bool.not_eq_false', Bool.not_eq_eq_eq_not, Bool.not_true, Bool.not_false, true_and, and_true]
      try omega
    refine SG.ret tab_ok Try.func29 rfl ?_
    intro ρ w' v hm hv
    exact Post.mk hm (.cv (.one (.lb true))) [] none [] hv rfl rows0 rfl (by simp)
end
set_option maxRecDepth 100000 in
theorem stays_walk (w : World) (c : Value) (L : List E) (p : E) (pid : Int) (hrow : ∀ W' ρ, RowOk W' ρ w c (rowE L)) (hl : L.length ≤ 837723144950) :
    Calls Try.prog 4 #[c, .agg (eG p).toArray, .int .i64 pid] w fun e w' => e = .returned (.bool true) ∧ Below w.heap.size w w' := by
  obtain ⟨A, cap, rfl, _⟩ := (hrow ⟨w, none, [], []⟩ ⟨fun _ => none, fun _ => none⟩).form
  refine calls_top Try.func4 rfl [.slice A L.length cap] [rowE L] [rsV 0, eV p, intV pid] (.cons hrow rfl .nil) ⟨rfl, rfl, rfl, trivial⟩ ?_
  clear hrow
  by_cases ha : Asc L
  · have hkl := put_len p L
    have hal := adL_len pid 1 L L.length
    have hfl : (L.filter (fun x => !isP pid x)).length ≤ L.length := List.length_filter_le _ _
    have hpa : 1 ≤ p.pid → Asc (putE p L) := asc_put ha
    have haa : Asc (adL pid 1 L L.length) := asc_ad ha
    have hfa : Asc (L.filter (fun x => !isP pid x)) := asc_filter ha
    have hpt := fun {W : Base} {B : List (Option (List At))} {Rs : List (Option Row)} {R : Row} (h1 : Rs[0]? = some (some R)) (h2 : RowLe R (rowE L)) => @putT W B Rs 0 R L p h1 h2 (by omega)
    have had := fun {W : Base} {B : List (Option (List At))} {Rs : List (Option Row)} {R : Row} (h1 : Rs[0]? = some (some R)) (h2 : RowLe R (rowE L)) => @adoptT W B Rs 0 R L pid 1 h1 h2 (by omega)
    have hrm := fun {W : Base} {B : List (Option (List At))} {Rs : List (Option Row)} {R : Row} (h1 : Rs[0]? = some (some R)) (h2 : RowLe R (rowE L)) => @removeT W B Rs 0 R L pid h1 h2 (by omega)
    generalize putE p L = K at *
    generalize adL pid 1 L L.length = M at *
    generalize L.filter (fun x => !isP pid x) = N at *
    by_cases hp : p.pid < 1
    · refine SG.walk tab_ok mx 400 [true] [hdB true, hdB true, hdF N, hdB true, hdE M, hdB true] ?_
      conv => whnf
      try dsimp only [rowL, rowN, growOk, hiN, fromL, tightN, maxOk]
      try simp (disch := omega) only [wI, wU64, wU32, wU8, Int.toNat_natCast, toNat_succ, toNat_pred, Int.reduceToNat, Option.getD_some, Option.getD_none, Nat.sub_zero, Nat.zero_add]
      refine ⟨?_, ?_⟩
      · exact ⟨rRightT (r := 2) (L := M) rfl (.of rfl rfl (fun _ _ => rfl)) (by omega) (by simp [haa]), had rfl (.of rfl rfl (fun _ _ => rfl)), rRightT (r := 1) (L := N) rfl (.of rfl rfl (fun _ _ => rfl)) (by omega) (by simp [hfa]), hrm rfl (.of rfl rfl (fun _ _ => rfl)), by simpa using hp, rRightT (r := 0) rfl (.of rfl rfl (fun _ _ => rfl)) (by omega) (by simp [ha]), shownE⟩
      refine SG.ret tab_ok Try.func4 rfl ?_
      intro ρ w' v hm hv
      exact top_true hm hv rfl
    · have hkk : Asc K := hpa (by omega)
      refine SG.walk tab_ok mx 400 [false] [hdB true, hdB true, hdE K, hdB true, hdF N, hdB true, hdE M, hdB true] ?_
      conv => whnf
      try dsimp only [rowL, rowN, growOk, hiN, fromL, tightN, maxOk]
      try simp (disch := omega) only [wI, wU64, wU32, wU8, Int.toNat_natCast, toNat_succ, toNat_pred, Int.reduceToNat, Option.getD_some, Option.getD_none, Nat.sub_zero, Nat.zero_add]
      refine ⟨?_, ?_⟩
      · exact ⟨rRightT (r := 3) (L := M) rfl (.of rfl rfl (fun _ _ => rfl)) (by omega) (by simp [haa]), had rfl (.of rfl rfl (fun _ _ => rfl)), rRightT (r := 2) (L := N) rfl (.of rfl rfl (fun _ _ => rfl)) (by omega) (by simp [hfa]), hrm rfl (.of rfl rfl (fun _ _ => rfl)), rRightT (r := 1) (L := K) rfl (.of rfl rfl (fun _ _ => rfl)) (by omega) (by simp [hkk]), hpt rfl (.of rfl rfl (fun _ _ => rfl)), by simpa using hp, rRightT (r := 0) rfl (.of rfl rfl (fun _ _ => rfl)) (by omega) (by simp [ha]), shownE⟩
      refine SG.ret tab_ok Try.func4 rfl ?_
      intro ρ w' v hm hv
      exact top_true hm hv rfl
  · refine SG.walk tab_ok mx 400 [] [hdB true, hdB false] ?_
    conv => whnf
    try dsimp only [rowL, rowN, growOk, hiN, fromL, tightN, maxOk]
    try simp (disch := omega) only [wI, wU64, wU32, wU8, Int.toNat_natCast, toNat_succ, toNat_pred, Int.reduceToNat, Option.getD_some, Option.getD_none, Nat.sub_zero, Nat.zero_add]
    refine ⟨?_, ?_⟩
    · exact ⟨rRightT (r := 0) rfl (.of rfl rfl (fun _ _ => rfl)) (by omega) (by simp [ha]), shownE⟩
    refine SG.ret tab_ok Try.func4 rfl ?_
    intro ρ w' v hm hv
    exact top_true hm hv rfl
end Go.Proofs.Ythdpigdbkljiiaa
