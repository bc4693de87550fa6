/- Tables: contracts. -/
import Derived.Test.YthdpigdbkljiiaaElB
namespace Go.Proofs.Ythdpigdbkljiiaa
open Go.Sx Go.RowKit
set_option linter.unusedVariables false
set_option linter.unusedSimpArgs false
theorem wI' {n : Int} (h0 : -9223372036854775808 ≤ n) (h1 : n ≤ 9223372036854775807) : IntKind.i64.wrap n = n := by
  rw [IntKind.wrap_i64]; omega
abbrev oneI (n : Int) : Row := ⟨1, 1, fun _ => [.v (.int .i64 n)], none, false, false⟩
abbrev oneE (a : E) : Row := ⟨26, 1, fun _ => eC a, none, false, false⟩
def isP (n : Int) (x : E) : Bool := x.pid == n
def gtP (n : Int) (x : E) : Bool := decide (x.pid > n)
abbrev hdB (b : Bool) : Hd := mkHd (.cv (.one (.lb b))) []
abbrev hdInt (n : Int) : Hd := mkHd (intV n) []
abbrev hdE (L : List E) : Hd := mkHd (rsV 0) [newE L]
abbrev hdF (L : List E) : Hd := mkHd (rsV 0) [frE L]
abbrev hdI (L : List Int) : Hd := mkHd (rsV 0) [newI L]
abbrev hdFind (x : E) (b : Bool) : Hd := mkHd (.tup [.agg (eC x), .one (.lb b)]) []
/-- Whose number is ahead. -/
def ahead (L : List E) : Nat → Int
  | 0 => 0
  | k + 1 => (L.getD k e0).pid
def Asc (L : List E) : Prop := ∀ k, k < L.length → ahead L k < (L.getD k e0).pid
section
variable {W : Base} {B : List (Option (List At))} {Rs : List (Option Row)}
set_option maxRecDepth 100000 in
theorem find_says (n : Int) : Says 32 (oneI n) (isP n) := by
  intro W B Rs x hr
  refine CallOk.enter Try.func32 (by kernel_rfl) rfl [1] [oneI n] [eV x, .cv (.one (.pt (.rp 0 0 0 0)))] rfl (rows1 (.ro_ hr (.refl _) rfl rfl (fun _ _ => rfl))) (fun r h => by cases h) rfl rfl ?_
  intro w blk hblk
  refine SG.walk tab_ok mx 400 [] [] ?_
  conv => whnf
  try dsimp only [rowL, rowN, growOk, hiN, fromL, tightN, maxOk]
  try simp (disch := omega) only [wI, wU64, wU32, wU8, Int.toNat_natCast, toNat_succ, toNat_pred, Int.reduceToNat, Option.getD_some, Option.getD_none, Nat.sub_zero, Nat.zero_add]
  refine ⟨?_, ?_⟩
  · omega
  · refine SG.ret tab_ok Try.func32 rfl ?_
    intro ρ w' v hm hv
    exact Post.mk hm (.cv (.one (.v (.bool (isP n x))))) [] none [] hv rfl rows0 rfl (by simp)
set_option maxRecDepth 100000 in
theorem remove_says (n : Int) : Says 41 (oneI n) (isP n) := by
  intro W B Rs x hr
  refine CallOk.enter Try.func41 (by kernel_rfl) rfl [1] [oneI n] [eV x, .cv (.one (.pt (.rp 0 0 0 0)))] rfl (rows1 (.ro_ hr (.refl _) rfl rfl (fun _ _ => rfl))) (fun r h => by cases h) rfl rfl ?_
  intro w blk hblk
  refine SG.walk tab_ok mx 400 [] [] ?_
  conv => whnf
  try dsimp only [rowL, rowN, growOk, hiN, fromL, tightN, maxOk]
  try simp (disch := omega) only [wI, wU64, wU32, wU8, Int.toNat_natCast, toNat_succ, toNat_pred, Int.reduceToNat, Option.getD_some, Option.getD_none, Nat.sub_zero, Nat.zero_add]
  refine ⟨?_, ?_⟩
  · omega
  · refine SG.ret tab_ok Try.func41 rfl ?_
    intro ρ w' v hm hv
    exact Post.mk hm (.cv (.one (.v (.bool (isP n x))))) [] none [] hv rfl rows0 rfl (by simp)
set_option maxRecDepth 100000 in
theorem put1_says (a : E) : Says 37 (oneE a) (isP a.pid) := by
  intro W B Rs x hr
  refine CallOk.enter Try.func37 (by kernel_rfl) rfl [1] [oneE a] [eV x, .cv (.one (.pt (.rp 0 0 0 0)))] rfl (rows1 (.ro_ hr (.refl _) rfl rfl (fun _ _ => rfl))) (fun r h => by cases h) rfl rfl ?_
  intro w blk hblk
  refine SG.walk tab_ok mx 400 [] [] ?_
  conv => whnf
  try dsimp only [rowL, rowN, growOk, hiN, fromL, tightN, maxOk]
  try simp (disch := omega) only [wI, wU64, wU32, wU8, Int.toNat_natCast, toNat_succ, toNat_pred, Int.reduceToNat, Option.getD_some, Option.getD_none, Nat.sub_zero, Nat.zero_add]
  refine ⟨?_, ?_⟩
  · omega
  · refine SG.ret tab_ok Try.func37 rfl ?_
    intro ρ w' v hm hv
    exact Post.mk hm (.cv (.one (.v (.bool (isP a.pid x))))) [] none [] hv rfl rows0 rfl (by simp)
set_option maxRecDepth 100000 in
theorem put2_says (a : E) : Says 38 (oneE a) (gtP a.pid) := by
  intro W B Rs x hr
  refine CallOk.enter Try.func38 (by kernel_rfl) rfl [1] [oneE a] [eV x, .cv (.one (.pt (.rp 0 0 0 0)))] rfl (rows1 (.ro_ hr (.refl _) rfl rfl (fun _ _ => rfl))) (fun r h => by cases h) rfl rfl ?_
  intro w blk hblk
  refine SG.walk tab_ok mx 400 [] [] ?_
  conv => whnf
  try dsimp only [rowL, rowN, growOk, hiN, fromL, tightN, maxOk]
  try simp (disch := omega) only [wI, wU64, wU32, wU8, Int.toNat_natCast, toNat_succ, toNat_pred, Int.reduceToNat, Option.getD_some, Option.getD_none, Nat.sub_zero, Nat.zero_add]
  refine ⟨?_, ?_⟩
  · omega
  · refine SG.ret tab_ok Try.func38 rfl ?_
    intro ρ w' v hm hv
    exact Post.mk hm (.cv (.one (.v (.bool (gtP a.pid x))))) [] none [] hv rfl rows0 rfl (by simp)
set_option maxRecDepth 100000 in
theorem placeP {F : FuncId} {Q : Row} {p : E → Bool} (hs : Says F Q p) (hQo : Q.own = none) (hQn : Q.new = false) (hQc : closedRow Q) {r q : Nat} {R Rq : Row} {L : List E} (hr : Rs[r]? = some (some R)) (hR : RowLe R (rowE L)) (hq : Rs[q]? = some (some Rq)) (hRq : RowLe Rq Q) (hl : L.length ≤ 837723144960) :
    CallOk Try.prog W B Rs 31 [rsV r, .cv (.one (.clo F [.rp q 0 0 0]))] (hdInt (L.findIdx p)) := by
  refine CallOk.enter Try.func31 (by kernel_rfl) rfl [r, q] [rowE L, Q] [rsV 0, .cv (.one (.clo F [.rp 1 0 0 0]))] rfl (rows2 (.ro_ hr hR rfl rfl (fun _ _ => rfl)) (.ro_ hq hRq hQo hQn hQc)) (fun r h => by cases h) rfl rfl ?_
  intro w blk hblk
  obtain ⟨Qs, Ql, Qc, Qo, Qt, Qn⟩ := Q
  dsimp only at hQo hQn
  subst hQo hQn
  refine SG.walk tab_ok mx 400 [] [] ?_
  conv => whnf
  try dsimp only [rowL, rowN, growOk, hiN, fromL, tightN, maxOk]
  try simp (disch := omega) only [wI, wU64, wU32, wU8, Int.toNat_natCast, toNat_succ, toNat_pred, Int.reduceToNat, Option.getD_some, Option.getD_none, Nat.sub_zero, Nat.zero_add]
  refine ⟨?_, ?_⟩
  · trivial
  refine SG.loop (fun k : Nat => ⟨puts (List.replicate (Try.f31).ntmps .any) [(0, rsV 0), (1, .cv (.one (.clo F [.rp 1 0 0 0]))), (7, rsV 0), (8, intV L.length), (9, intV k)], [], [some (rowE L), some ⟨Qs, Ql, Qc, none, Qt, false⟩], []⟩) (fun k => k ≤ L.length ∧ ∀ j, j < k → p (L.getD j e0) = false) (fun k => L.length - k) (0) (⟨Nat.zero_le _, fun j hj => by omega⟩) (fun h => SG.sub [] [0, 1] ⟨?_, ?_, ?_, by decide, rfl, rfl, rfl, ?_⟩ h) ?_
  · repeat' (first | exact trivial | exact rfl | refine And.intro ?_ ?_)
  · repeat' (first | exact trivial | exact rfl | refine And.intro ?_ ?_)
  · repeat' (first | exact trivial | refine ⟨⟨_, rfl, ⟨rfl, rfl, .inl rfl, (fun h => by first | exact h | cases h), (fun h => by first | exact h | cases h), fun _ _ => rfl⟩, fun _ _ => rfl⟩, ?_⟩ | refine ⟨⟨_, rfl, ⟨rfl, rfl, .inr rfl, (fun h => by first | exact h | cases h), (fun h => by first | exact h | cases h), fun _ _ => rfl⟩, fun _ _ => rfl⟩, ?_⟩ | refine ⟨⟨_, rfl, ⟨rfl, rfl, .inr rfl, (fun h => by first | exact h | cases h), (fun h => by first | exact h | cases h), fun i hi => absurd hi (Nat.not_lt_zero i)⟩, fun i hi => absurd hi (Nat.not_lt_zero i)⟩, ?_⟩ | refine ⟨⟨_, rfl, ⟨rfl, rfl, .inl rfl, (fun h => by first | exact h | cases h), (fun h => by first | exact h | cases h), fun i hi => ren_closed (hQc i hi)⟩, fun i hi => inn_closed (hQc i hi)⟩, ?_⟩)
  · repeat' (first | exact trivial | exact rfl | refine And.intro ?_ ?_)
  intro k hk next
  by_cases hlt : k < L.length
  · by_cases hp : p (L.getD k e0) = true
    · refine SG.walk tab_ok mx 400 [true, true] [mkHd (.cv (.one (.v (.bool (p (L.getD k e0)))))) []] ?_
      conv => whnf
      try dsimp only [rowL, rowN, growOk, hiN, fromL, tightN, maxOk]
      try simp (disch := omega) only [wI, wU64, wU32, wU8, Int.toNat_natCast, toNat_succ, toNat_pred, Int.reduceToNat, Option.getD_some, Option.getD_none, Nat.sub_zero, Nat.zero_add]
      refine ⟨?_, ?_⟩
      · exact ⟨hp, hs _ _ _ (L.getD k e0) rfl, by omega, by omega, by simpa using hlt⟩
      · rw [ixP_at hlt hp hk.2]
        refine SG.ret tab_ok Try.func31 rfl ?_
        intro ρ w' v hm hv
        exact Post.mk hm (intV k) [] none [] hv rfl rows0 rfl (by simp)
    · refine SG.walk tab_ok mx 400 [true, false] [mkHd (.cv (.one (.v (.bool (p (L.getD k e0)))))) []] ?_
      conv => whnf
      try dsimp only [rowL, rowN, growOk, hiN, fromL, tightN, maxOk]
      try simp (disch := omega) only [wI, wU64, wU32, wU8, Int.toNat_natCast, toNat_succ, toNat_pred, Int.reduceToNat, Option.getD_some, Option.getD_none, Nat.sub_zero, Nat.zero_add]
      refine ⟨?_, ?_⟩
      · exact ⟨by simpa using hp, hs _ _ _ (L.getD k e0) rfl, by omega, by omega, by simpa using hlt⟩
      refine SG.sub [] [0, 1] ⟨?_, ?_, ?_, by decide, rfl, rfl, rfl, ?_⟩ (next (k + 1) ⟨hlt, upto_succ hk.2 (by simpa using hp)⟩ (by omega))
      · repeat' (first | exact trivial | exact rfl | refine And.intro ?_ ?_)
      · repeat' (first | exact trivial | exact rfl | refine And.intro ?_ ?_)
      · repeat' (first | exact trivial | refine ⟨⟨_, rfl, ⟨rfl, rfl, .inl rfl, (fun h => by first | exact h | cases h), (fun h => by first | exact h | cases h), fun _ _ => rfl⟩, fun _ _ => rfl⟩, ?_⟩ | refine ⟨⟨_, rfl, ⟨rfl, rfl, .inr rfl, (fun h => by first | exact h | cases h), (fun h => by first | exact h | cases h), fun _ _ => rfl⟩, fun _ _ => rfl⟩, ?_⟩ | refine ⟨⟨_, rfl, ⟨rfl, rfl, .inr rfl, (fun h => by first | exact h | cases h), (fun h => by first | exact h | cases h), fun i hi => absurd hi (Nat.not_lt_zero i)⟩, fun i hi => absurd hi (Nat.not_lt_zero i)⟩, ?_⟩ | refine ⟨⟨_, rfl, ⟨rfl, rfl, .inl rfl, (fun h => by first | exact h | cases h), (fun h => by first | exact h | cases h), fun i hi => ren_closed (hQc i hi)⟩, fun i hi => inn_closed (hQc i hi)⟩, ?_⟩)
      · repeat' (first | exact trivial | exact rfl | refine And.intro ?_ ?_)
  · refine SG.walk tab_ok mx 400 [false] [] ?_
    conv => whnf
    try dsimp only [rowL, rowN, growOk, hiN, fromL, tightN, maxOk]
    try simp (disch := omega) only [wI, wU64, wU32, wU8, Int.toNat_natCast, toNat_succ, toNat_pred, Int.reduceToNat, Option.getD_some, Option.getD_none, Nat.sub_zero, Nat.zero_add]
    refine ⟨?_, ?_⟩
    · simpa using hlt
    · rw [ixP_none (by omega) hk.2]
      refine SG.ret tab_ok Try.func31 rfl ?_
      intro ρ w' v hm hv
      exact Post.mk hm (intV L.length) [] none [] hv rfl rows0 rfl (by simp)
theorem placeC {F : FuncId} {cs : Nat} {Q : Row} {p : E → Bool} (hs : Says F Q p) (hQo : Q.own = none) (hQn : Q.new = false) (hQc : closedRow Q) {r q : Nat} {R Rq : Row} {L : List E} (hr : Rs[r]? = some (some R)) (hR : RowLe R (rowE L)) (hq : Rs[q]? = some (some Rq)) (hRq : RowLe Rq Q) (hl : L.length ≤ 837723144960) :
    CallOk Try.prog W B Rs 31 [rsV r, .cv (.one (.clo F [.rp q 0 cs 0]))] (hdInt (L.findIdx p)) :=
  (placeP hs hQo hQn hQc hr hR hq hRq hl).args fun ρ vs h => clo_any h
set_option maxRecDepth 100000 in
theorem rightT {r : Nat} {R : Row} {L : List E} (hr : Rs[r]? = some (some R)) (hR : RowLe R (rowE L)) (hl : L.length ≤ 837723144960) {b : Bool} (hb : b = true ↔ Asc L) :
    CallOk Try.prog W B Rs 28 [rsV r] (hdB b) := by
  refine CallOk.enter Try.func28 (by kernel_rfl) rfl [r] [rowE L] [rsV 0] rfl (rows1 (.ro_ hr hR rfl rfl (fun _ _ => rfl))) (fun r h => by cases h) rfl rfl ?_
  intro w blk hblk
  refine SG.walk tab_ok mx 400 [] [] ?_
  conv => whnf
  try dsimp only [rowL, rowN, growOk, hiN, fromL, tightN, maxOk]
  try simp (disch := omega) only [wI, wU64, wU32, wU8, Int.toNat_natCast, toNat_succ, toNat_pred, Int.reduceToNat, Option.getD_some, Option.getD_none, Nat.sub_zero, Nat.zero_add]
  refine ⟨?_, ?_⟩
  · trivial
  refine SG.loop (fun k : Nat => ⟨puts (List.replicate (Try.f28).ntmps .any) [(0, rsV 0), (3, intV (ahead L k)), (6, rsV 0), (7, intV L.length), (8, intV k)], [], [some (rowE L)], []⟩) (fun k => k ≤ L.length ∧ ∀ j, j < k → ahead L j < (L.getD j e0).pid) (fun k => L.length - k) (0) (⟨Nat.zero_le _, fun j hj => by omega⟩) (fun h => SG.sub [] [0] ⟨?_, ?_, ?_, by decide, rfl, rfl, rfl, ?_⟩ h) ?_
  · repeat' (first | exact trivial | exact rfl | refine And.intro ?_ ?_)
  · repeat' (first | exact trivial | exact rfl | refine And.intro ?_ ?_)
  · repeat' (first | exact trivial | refine ⟨⟨_, rfl, ⟨rfl, rfl, .inl rfl, (fun h => by first | exact h | cases h), (fun h => by first | exact h | cases h), fun _ _ => rfl⟩, fun _ _ => rfl⟩, ?_⟩ | refine ⟨⟨_, rfl, ⟨rfl, rfl, .inr rfl, (fun h => by first | exact h | cases h), (fun h => by first | exact h | cases h), fun _ _ => rfl⟩, fun _ _ => rfl⟩, ?_⟩ | refine ⟨⟨_, rfl, ⟨rfl, rfl, .inr rfl, (fun h => by first | exact h | cases h), (fun h => by first | exact h | cases h), fun i hi => absurd hi (Nat.not_lt_zero i)⟩, fun i hi => absurd hi (Nat.not_lt_zero i)⟩, ?_⟩ | refine ⟨⟨_, rfl, ⟨rfl, rfl, .inl rfl, (fun h => by first | exact h | cases h), (fun h => by first | exact h | cases h), fun i hi => ren_closed (hQc i hi)⟩, fun i hi => inn_closed (hQc i hi)⟩, ?_⟩)
  · repeat' (first | exact trivial | exact rfl | refine And.intro ?_ ?_)
  intro k hk next
  by_cases hlt : k < L.length
  · by_cases hp : ahead L k < (L.getD k e0).pid
    · refine SG.walk tab_ok mx 400 [true, false] [] ?_
      conv => whnf
      try dsimp only [rowL, rowN, growOk, hiN, fromL, tightN, maxOk]
      try simp (disch := omega) only [wI, wU64, wU32, wU8, Int.toNat_natCast, toNat_succ, toNat_pred, Int.reduceToNat, Option.getD_some, Option.getD_none, Nat.sub_zero, Nat.zero_add]
      refine ⟨?_, ?_⟩
      · try simp only [beq_iff_eq, beq_eq_false_iff_ne, bne_iff_ne, bne_eq_false_iff_eq, decide_eq_true_eq, decide_eq_false_iff_not, ne_eq, Bool.not_eq_true', Bool.not_eq_false', Bool.not_eq_eq_eq_not, Bool.not_true, Bool.not_false, true_and, and_true]
        try omega
      refine SG.sub [] [0] ⟨?_, ?_, ?_, by decide, rfl, rfl, rfl, ?_⟩ (next (k + 1) ⟨hlt, upto_succ hk.2 hp⟩ (by omega))
      · repeat' (first | exact trivial | exact rfl | refine And.intro ?_ ?_)
      · repeat' (first | exact trivial | exact rfl | refine And.intro ?_ ?_)
      · repeat' (first | exact trivial | refine ⟨⟨_, rfl, ⟨rfl, rfl, .inl rfl, (fun h => by first | exact h | cases h), (fun h => by first | exact h | cases h), fun _ _ => rfl⟩, fun _ _ => rfl⟩, ?_⟩ | refine ⟨⟨_, rfl, ⟨rfl, rfl, .inr rfl, (fun h => by first | exact h | cases h), (fun h => by first | exact h | cases h), fun _ _ => rfl⟩, fun _ _ => rfl⟩, ?_⟩ | refine ⟨⟨_, rfl, ⟨rfl, rfl, .inr rfl, (fun h => by first | exact h | cases h), (fun h => by first | exact h | cases h), fun i hi => absurd hi (Nat.not_lt_zero i)⟩, fun i hi => absurd hi (Nat.not_lt_zero i)⟩, ?_⟩ | refine ⟨⟨_, rfl, ⟨rfl, rfl, .inl rfl, (fun h => by first | exact h | cases h), (fun h => by first | exact h | cases h), fun i hi => ren_closed (hQc i hi)⟩, fun i hi => inn_closed (hQc i hi)⟩, ?_⟩)
      · repeat' (first | exact trivial | exact rfl | refine And.intro ?_ ?_)
    · have : b = false := by
        cases b
        · rfl
        · exact absurd (hb.1 rfl k hlt) hp
      subst this
      refine SG.walk tab_ok mx 400 [true, true] [] ?_
      conv => whnf
      try dsimp only [rowL, rowN, growOk, hiN, fromL, tightN, maxOk]
      try simp (disch := omega) only [wI, wU64, wU32, wU8, Int.toNat_natCast, toNat_succ, toNat_pred, Int.reduceToNat, Option.getD_some, Option.getD_none, Nat.sub_zero, Nat.zero_add]
      refine ⟨?_, ?_⟩
      · try simp only [beq_iff_eq, beq_eq_false_iff_ne, bne_iff_ne, bne_eq_false_iff_eq, decide_eq_true_eq, decide_eq_false_iff_not, ne_eq, Bool.not_eq_true', Bool.not_eq_false', Bool.not_eq_eq_eq_not, Bool.not_true, Bool.not_false, true_and, and_true]
        try omega
      refine SG.ret tab_ok Try.func28 rfl ?_
      intro ρ w' v hm hv
      exact Post.mk hm (.cv (.one (.lb false))) [] none [] hv rfl rows0 rfl (by simp)
  · have : b = true := hb.2 fun j hj => hk.2 j (by omega)
    subst this
    refine SG.walk tab_ok mx 400 [false] [] ?_
    conv => whnf
    try dsimp only [rowL, rowN, growOk, hiN, fromL, tightN, maxOk]
    try simp (disch := omega) only [wI, wU64, wU32, wU8, Int.toNat_natCast, toNat_succ, toNat_pred, Int.reduceToNat, Option.getD_some, Option.getD_none, Nat.sub_zero, Nat.zero_add]
    refine ⟨?_, ?_⟩
    · try simp only [beq_iff_eq, beq_eq_false_iff_ne, bne_iff_ne, bne_eq_false_iff_eq, decide_eq_true_eq, decide_eq_false_iff_not, ne_eq, Bool.not_eq_true', Bool.not_eq_false', Bool.not_eq_eq_eq_not, Bool.not_true, Bool.not_false, true_and, and_true]
      try omega
    refine SG.ret tab_ok Try.func28 rfl ?_
    intro ρ w' v hm hv
    exact Post.mk hm (.cv (.one (.lb true))) [] none [] hv rfl rows0 rfl (by simp)
def findE (n : Int) (L : List E) : E := if L.findIdx (isP n) < L.length then L.getD (L.findIdx (isP n)) e0 else e0
def hasE (n : Int) (L : List E) : Bool := decide (L.findIdx (isP n) < L.length)
set_option maxRecDepth 100000 in
theorem findT {r : Nat} {R : Row} {L : List E} {n : Int} (hr : Rs[r]? = some (some R)) (hR : RowLe R (rowE L)) (hl : L.length ≤ 837723144960) :
    CallOk Try.prog W B Rs 12 [rsV r, intV n] (hdFind (findE n L) (hasE n L)) := by
  refine CallOk.enter Try.func12 (by kernel_rfl) rfl [r] [rowE L] [rsV 0, intV n] rfl (rows1 (.ro_ hr hR rfl rfl (fun _ _ => rfl))) (fun r h => by cases h) rfl rfl ?_
  intro w blk hblk
  have hle := List.findIdx_le_length (p := isP n) (xs := L)
  have hIx : ∀ {W : Base} {B : List (Option (List At))} {Rs : List (Option Row)} {R : Row}, Rs[0]? = some (some R) → RowLe R (rowE L) → Rs[1]? = some (some ⟨1, 1, fun _ => [.v (.int .i64 n)], none, true, true⟩) → CallOk Try.prog W B Rs 31 [rsV 0, .cv (.one (.clo 32 [.rp 1 0 1 0]))] (hdInt (L.findIdx (isP n))) := fun h1 h2 h3 =>
    placeC (find_says n) rfl rfl (fun _ _ => rfl) h1 h2 h3 (.of rfl rfl (fun _ _ => rfl)) (by omega)
  unfold findE hasE
  generalize L.findIdx (isP n) = m at *
  refine SG.walk tab_ok mx 400 [] [] ?_
  conv => whnf
  try dsimp only [rowL, rowN, growOk, hiN, fromL, tightN, maxOk]
  try simp (disch := omega) only [wI, wU64, wU32, wU8, Int.toNat_natCast, toNat_succ, toNat_pred, Int.reduceToNat, Option.getD_some, Option.getD_none, Nat.sub_zero, Nat.zero_add]
  refine ⟨?_, ?_⟩
  · trivial
  refine SG.boxRow 0 rfl ?_
  refine SG.norm ?_
  conv => whnf
  by_cases hm : m < L.length
  · refine SG.walk tab_ok mx 400 [false] [hdInt m] ?_
    conv => whnf
    try dsimp only [rowL, rowN, growOk, hiN, fromL, tightN, maxOk]
    try simp (disch := omega) only [wI, wU64, wU32, wU8, Int.toNat_natCast, toNat_succ, toNat_pred, Int.reduceToNat, Option.getD_some, Option.getD_none, Nat.sub_zero, Nat.zero_add]
    refine ⟨?_, ?_⟩
    · exact ⟨by omega, by omega, by simp; omega, hIx rfl (.of rfl rfl (fun _ _ => rfl)) rfl⟩
    rw [if_pos hm, decide_eq_true hm]
    refine SG.ret tab_ok Try.func12 rfl ?_
    intro ρ w' v hm hv
    exact Post.mk hm (.tup [.agg (eC (L.getD m e0)), .one (.lb true)]) [] none [] hv rfl rows0 rfl (by simp)
  · refine SG.walk tab_ok mx 400 [true] [hdInt m] ?_
    conv => whnf
    try dsimp only [rowL, rowN, growOk, hiN, fromL, tightN, maxOk]
    try simp (disch := omega) only [wI, wU64, wU32, wU8, Int.toNat_natCast, toNat_succ, toNat_pred, Int.reduceToNat, Option.getD_some, Option.getD_none, Nat.sub_zero, Nat.zero_add]
    refine ⟨?_, ?_⟩
    · exact ⟨by simp; omega, hIx rfl (.of rfl rfl (fun _ _ => rfl)) rfl⟩
    rw [if_neg hm, decide_eq_false hm]
    refine SG.ret tab_ok Try.func12 rfl ?_
    intro ρ w' v hm hv
    exact Post.mk hm (.tup [.agg (eC e0), .one (.lb false)]) [] none [] hv rfl rows0 rfl (by simp)
set_option maxRecDepth 100000 in
theorem removeT {r : Nat} {R : Row} {L : List E} {n : Int} (hr : Rs[r]? = some (some R)) (hR : RowLe R (rowE L)) (hl : L.length ≤ 837723144960) :
    CallOk Try.prog W B Rs 19 [rsV r, intV n] (hdF (L.filter (fun x => !isP n x))) := by
  refine CallOk.enter Try.func19 (by kernel_rfl) rfl [r] [rowE L] [rsV 0, intV n] rfl (rows1 (.ro_ hr hR rfl rfl (fun _ _ => rfl))) (fun r h => by cases h) rfl rfl ?_
  intro w blk hblk
  refine SG.walk tab_ok mx 400 [] [] ?_
  conv => whnf
  try dsimp only [rowL, rowN, growOk, hiN, fromL, tightN, maxOk]
  try simp (disch := omega) only [wI, wU64, wU32, wU8, Int.toNat_natCast, toNat_succ, toNat_pred, Int.reduceToNat, Option.getD_some, Option.getD_none, Nat.sub_zero, Nat.zero_add]
  refine ⟨?_, ?_⟩
  · trivial
  refine SG.boxRow 0 rfl ?_
  refine SG.norm ?_
  conv => whnf
  refine SG.walk tab_ok mx 400 [] [hdE L, mkHd (rsV 0) [frE (L.filter (fun x => !isP n x))] (some 2)] ?_
  conv => whnf
  try dsimp only [rowL, rowN, growOk, hiN, fromL, tightN, maxOk]
  try simp (disch := omega) only [wI, wU64, wU32, wU8, Int.toNat_natCast, toNat_succ, toNat_pred, Int.reduceToNat, Option.getD_some, Option.getD_none, Nat.sub_zero, Nat.zero_add]
  refine ⟨?_, ?_⟩
  · exact ⟨deleteC (remove_says n) rfl rfl (fun _ _ => rfl) (r := 2) (q := 1) rfl (.refl _) rfl (.of rfl rfl (fun _ _ => rfl)) (by decide) (by omega), cloneE (r := 0) rfl (.of rfl rfl (fun _ _ => rfl)) (by omega)⟩
  · refine SG.ret tab_ok Try.func19 rfl ?_
    intro ρ w' v hm hv
    exact Post.mk hm (rsV 0) [frE (L.filter (fun x => !isP n x))] none [3] hv rfl (rows1 ⟨⟨_, rfl, ⟨rfl, rfl, .inl rfl, (fun h => by cases h), id, fun q hq => rfl⟩, rfl⟩, fun _ _ => rfl⟩) rfl (by simp)
def putE (a : E) (L : List E) : List E := if L.findIdx (isP a.pid) < L.length then L.set (L.findIdx (isP a.pid)) a else L.take (L.findIdx (gtP a.pid)) ++ a :: L.drop (L.findIdx (gtP a.pid))
set_option maxRecDepth 100000 in
theorem putT {r : Nat} {R : Row} {L : List E} {a : E} (hr : Rs[r]? = some (some R)) (hR : RowLe R (rowE L)) (hl : L.length ≤ 837723144960) :
    CallOk Try.prog W B Rs 17 [rsV r, eV a] (hdE (putE a L)) := by
  refine CallOk.enter Try.func17 (by kernel_rfl) rfl [r] [rowE L] [rsV 0, eV a] rfl (rows1 (.ro_ hr hR rfl rfl (fun _ _ => rfl))) (fun r h => by cases h) rfl rfl ?_
  intro w blk hblk
  have h1 := List.findIdx_le_length (p := isP a.pid) (xs := L)
  have h2 := List.findIdx_le_length (p := gtP a.pid) (xs := L)
  have hI1 : ∀ {W : Base} {B : List (Option (List At))} {Rs : List (Option Row)} {R : Row} {r : Nat}, Rs[r]? = some (some R) → RowLe R (rowE L) → Rs[1]? = some (some ⟨26, 1, fun _ => eC a, none, true, true⟩) → CallOk Try.prog W B Rs 31 [rsV r, .cv (.one (.clo 37 [.rp 1 0 26 0]))] (hdInt (L.findIdx (isP a.pid))) := fun h1 h2 h3 =>
    placeC (put1_says a) rfl rfl (fun _ _ => rfl) h1 h2 h3 (.of rfl rfl (fun _ _ => rfl)) (by omega)
  have hI2 : ∀ {W : Base} {B : List (Option (List At))} {Rs : List (Option Row)} {R : Row} {r : Nat}, Rs[r]? = some (some R) → RowLe R (rowE L) → Rs[1]? = some (some ⟨26, 1, fun _ => eC a, none, true, true⟩) → CallOk Try.prog W B Rs 31 [rsV r, .cv (.one (.clo 38 [.rp 1 0 26 0]))] (hdInt (L.findIdx (gtP a.pid))) := fun h1 h2 h3 =>
    placeC (put2_says a) rfl rfl (fun _ _ => rfl) h1 h2 h3 (.of rfl rfl (fun _ _ => rfl)) (by omega)
  unfold putE
  generalize L.findIdx (isP a.pid) = m at *
  generalize L.findIdx (gtP a.pid) = m2 at *
  refine SG.walk tab_ok mx 400 [] [] ?_
  conv => whnf
  try dsimp only [rowL, rowN, growOk, hiN, fromL, tightN, maxOk]
  try simp (disch := omega) only [wI, wU64, wU32, wU8, Int.toNat_natCast, toNat_succ, toNat_pred, Int.reduceToNat, Option.getD_some, Option.getD_none, Nat.sub_zero, Nat.zero_add]
  refine ⟨?_, ?_⟩
  · trivial
  refine SG.boxRow 0 rfl ?_
  refine SG.norm ?_
  conv => whnf
  by_cases hmL : m < L.length
  · refine SG.walk tab_ok mx 400 [true] [hdE L, hdInt m] ?_
    conv => whnf
    try dsimp only [rowL, rowN, growOk, hiN, fromL, tightN, maxOk]
    try simp (disch := omega) only [wI, wU64, wU32, wU8, Int.toNat_natCast, toNat_succ, toNat_pred, Int.reduceToNat, Option.getD_some, Option.getD_none, Nat.sub_zero, Nat.zero_add]
    refine ⟨?_, ?_⟩
    · exact ⟨⟨by omega, by omega⟩, ⟨by omega, by omega⟩, ⟨by omega, by omega⟩, by simp; omega, hI1 (r := 2) rfl (.of rfl rfl (fun _ _ => rfl)) rfl, cloneE (r := 0) rfl (.of rfl rfl (fun _ _ => rfl)) (by omega)⟩
    rw [if_pos hmL]
    refine SG.ret tab_ok Try.func17 rfl ?_
    intro ρ w' v hm hv
    exact Post.mk hm (rsV 0) [newE (L.set m a)] none [2] hv rfl (rows1 (.of rfl rfl rfl (by simp) rfl (fun i hi => setE_cells L m a hmL i) (fun _ => rfl))) rfl (by simp)
  · rw [if_neg hmL]
    refine SG.walk tab_ok mx 400 [false] [hdE L, hdInt m, hdInt m2, mkHd (rsV 0) [newE (L.take m2 ++ a :: L.drop m2)] (some 2)] ?_
    conv => whnf
    try dsimp only [rowL, rowN, growOk, hiN, fromL, tightN, maxOk]
    try simp (disch := omega) only [wI, wU64, wU32, wU8, Int.toNat_natCast, toNat_succ, toNat_pred, Int.reduceToNat, Option.getD_some, Option.getD_none, Nat.sub_zero, Nat.zero_add]
    refine ⟨?_, ?_⟩
    · refine ⟨insert_c eDen eLen (fun _ => rfl) (r := 2) (q := 3) (L := L) (x := a) (i := m2) rfl (.refl _) rfl ⟨rfl, rfl, .inr rfl, (fun h => by cases h), (fun _ => rfl), fun i hi => ?_⟩ (by decide) (by omega) (by omega), ⟨by omega, by omega⟩, hI2 (r := 2) rfl (.of rfl rfl (fun _ _ => rfl)) rfl, by simp; omega, hI1 (r := 2) rfl (.of rfl rfl (fun _ _ => rfl)) rfl, cloneE (r := 0) rfl (.of rfl rfl (fun _ _ => rfl)) (by omega)⟩
      match i, hi with
      | 0, _ => rfl
    refine SG.ret tab_ok Try.func17 rfl ?_
    intro ρ w' v hm hv
    exact Post.mk hm (rsV 0) [newE (L.take m2 ++ a :: L.drop m2)] none [4] hv rfl (rows1 (.of rfl rfl rfl rfl rfl (fun i hi => rfl) (fun _ => rfl))) rfl (by simp)
end
end Go.Proofs.Ythdpigdbkljiiaa
