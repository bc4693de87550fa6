/- Turns: contracts. -/
import Derived.Test.YtanckelknhiaaaaSxQ
import Derived.Test.YtanckelknhiaaaaSxT
namespace Go.Proofs.Ytanckelknhiaaaa
open Go.Sx Go.RowKit
set_option linter.unusedVariables false
set_option linter.unusedSimpArgs false
theorem mx : Try.prog.follows .mixedOrders = true := Try.checked.mixed
abbrev intC (x : Int) : List At := [.v (.int .i64 x)]
abbrev rowI (L : List Int) : Row := rowL 1 intC 0 L
abbrev newI (L : List Int) : Row := rowN 1 intC 0 L 3
abbrev turnV (r : Nat) (l : Int) : SV := .cv (.agg [.rs r, .v (.int .i64 l)])
abbrev rsV (r : Nat) : SV := .cv (.one (.rs r))
abbrev bpV (i : Nat) : SV := .cv (.one (.pt (.bp i 0)))
abbrev trueV : SV := .cv (.one (.lb true))
abbrev intV (x : Int) : SV := .cv (.one (.v (.int .i64 x)))

section
variable {W : Base} {B : List (Option (List At))} {Rs : List (Option Row)}
set_option maxRecDepth 100000 in
theorem first_some {r : Nat} {R : Row} {L : List Int} {l : Int} (hr : Rs[r]? = some (some R)) (hR : RowLe R (rowI L)) (h0 : 0 < L.length) :
    CallOk Try.prog W B Rs 13 [turnV r l] (mkHd (.tup [.one (.v (.int .i64 (L.getD 0 0))), .one (.lb true)]) []) := by
  refine CallOk.enter Try.func13 (by kernel_rfl) rfl [r] [rowI L] [turnV 0 l] rfl (rows1 (.ro_ hr hR rfl rfl (fun _ _ => rfl))) (fun r h => by cases h) rfl rfl ?_
  intro w blk hblk
  refine SG.walk tab_ok mx 400 [false] [] ?_
  conv => whnf
  try dsimp only [rowL, rowN, growOk, hiN, fromL, tightN, maxOk]
  try simp (disch := omega) only [wI, wU64, wU32, wU8, Int.toNat_natCast, Int.reduceToNat, Option.getD_some, Option.getD_none, Nat.sub_zero, Nat.zero_add]
  refine ⟨?_, ?_⟩
  · try simp only [beq_iff_eq, beq_eq_false_iff_ne, bne_iff_ne, bne_eq_false_iff_eq, decide_eq_true_eq, decide_eq_false_iff_not, ne_eq, Bool.not_eq_true', Bool.not_eq_false', Bool.not_eq_eq_eq_not, Bool.not_true, Bool.not_false]
    try omega
  · refine SG.ret tab_ok Try.func13 rfl ?_
    intro ρ w' v hm hv
    exact Post.mk hm (.tup [.one (.v (.int .i64 (L.getD 0 0))), .one (.lb true)]) [] none [] hv rfl rows0 rfl (by simp)

abbrev rr2 (a b : Nat) : Nat → List At := fun i => ([[.rs a], [.rs b]][i]?).getD []
abbrev rr1 (a : Nat) : Nat → List At := fun i => ([[.rs a]][i]?).getD []
theorem join_cells (L M : List Int) (i : Nat) (hi : i < L.length + M.length) : intC ((L ++ M).getD i 0) = if i < L.length then intC (L.getD i 0) else intC (M.getD (i - L.length) 0) := by
  simp only [List.getD_eq_getElem?_getD]
  split
  · rw [List.getElem?_append_left (by assumption)]
  · rw [List.getElem?_append_right (by omega)]
theorem arg_rr2 {q a b : Nat} {Rq : Row} (hq : Rs[q]? = some (some Rq)) (hRq : RowLe Rq ⟨1, 2, rr2 a b, none, false, false⟩) : ArgRow Rs [q, a, b] none q ⟨1, 2, rr2 1 2, none, false, false⟩ := by
  refine ⟨⟨Rq, hq, hRq.sz, hRq.len, hRq.own, hRq.tight, hRq.new, fun i hi => ?_⟩, fun i hi => ?_, .inl ⟨rfl, rfl⟩⟩
  · rw [← hRq.cells i hi]
    have := hRq.len
    match i with
    | 0 => rfl
    | 1 => rfl
    | n + 2 => dsimp only at this; omega
  · match i with
    | 0 => rfl
    | 1 => rfl
    | n + 2 => dsimp only at hi; omega
set_option maxRecDepth 100000 in
theorem joined2 {q a b : Nat} {Rq Ra Rb : Row} {L M : List Int} (hq : Rs[q]? = some (some Rq)) (ha : Rs[a]? = some (some Ra)) (hb : Rs[b]? = some (some Rb)) (hRq : RowLe Rq ⟨1, 2, rr2 a b, none, false, false⟩) (hRa : RowLe Ra (rowI L)) (hRb : RowLe Rb (rowI M)) (hl : L.length + M.length ≤ 17592186044416) :
    CallOk Try.prog W B Rs 17 [rsV q] (mkHd (rsV 0) [newI (L ++ M)]) := by
  refine CallOk.enter Try.func17 (by kernel_rfl) rfl [q, a, b] [⟨1, 2, rr2 1 2, none, false, false⟩, rowI L, rowI M] [rsV 0] rfl (rows3 (arg_rr2 hq hRq) (.ro_ ha hRa rfl rfl (fun _ _ => rfl)) (.ro_ hb hRb rfl rfl (fun _ _ => rfl))) (fun r h => by cases h) rfl rfl ?_
  intro w blk hblk
  refine SG.walk tab_ok mx 400 [] [] ?_
  conv => whnf
  try dsimp only [rowL, rowN, growOk, hiN, fromL, tightN, maxOk]
  try simp (disch := omega) only [wI, wU64, wU32, wU8, Int.toNat_natCast, Int.reduceToNat, Option.getD_some, Option.getD_none, Nat.sub_zero, Nat.zero_add]
  refine ⟨?_, ?_⟩
  · trivial
  refine SG.nilRow 3 3 1 rfl ?_
  refine SG.good (fun _ _ => .loop) ?_
  refine SG.walk tab_ok mx 400 [true] [] ?_
  conv => whnf
  try dsimp only [rowL, rowN, growOk, hiN, fromL, tightN, maxOk]
  try simp (disch := omega) only [wI, wU64, wU32, wU8, Int.toNat_natCast, Int.reduceToNat, Option.getD_some, Option.getD_none, Nat.sub_zero, Nat.zero_add]
  refine ⟨?_, ?_⟩
  · try simp only [beq_iff_eq, beq_eq_false_iff_ne, bne_iff_ne, bne_eq_false_iff_eq, decide_eq_true_eq, decide_eq_false_iff_not, ne_eq, Bool.not_eq_true', Bool.not_eq_false', Bool.not_eq_eq_eq_not, Bool.not_true, Bool.not_false]
    try omega
  refine SG.good (fun _ _ => .inLoop) ?_
  refine SG.walk tab_ok mx 400 [true] [] ?_
  conv => whnf
  try dsimp only [rowL, rowN, growOk, hiN, fromL, tightN, maxOk]
  try simp (disch := omega) only [wI, wU64, wU32, wU8, Int.toNat_natCast, Int.reduceToNat, Option.getD_some, Option.getD_none, Nat.sub_zero, Nat.zero_add]
  refine ⟨?_, ?_⟩
  · try simp only [beq_iff_eq, beq_eq_false_iff_ne, bne_iff_ne, bne_eq_false_iff_eq, decide_eq_true_eq, decide_eq_false_iff_not, ne_eq, Bool.not_eq_true', Bool.not_eq_false', Bool.not_eq_eq_eq_not, Bool.not_true, Bool.not_false]
    try omega
  refine SG.good (fun _ _ => .inLoop) ?_
  refine SG.walk tab_ok mx 400 [false] [] ?_
  conv => whnf
  try dsimp only [rowL, rowN, growOk, hiN, fromL, tightN, maxOk]
  try simp (disch := omega) only [wI, wU64, wU32, wU8, Int.toNat_natCast, Int.reduceToNat, Option.getD_some, Option.getD_none, Nat.sub_zero, Nat.zero_add]
  refine ⟨?_, ?_⟩
  · try simp only [beq_iff_eq, beq_eq_false_iff_ne, bne_iff_ne, bne_eq_false_iff_eq, decide_eq_true_eq, decide_eq_false_iff_not, ne_eq, Bool.not_eq_true', Bool.not_eq_false', Bool.not_eq_eq_eq_not, Bool.not_true, Bool.not_false]
    try omega
  refine SG.ret tab_ok Try.func17 rfl ?_
  intro ρ w' v hm hv
  exact Post.mk hm (rsV 0) [newI (L ++ M)] none [5] hv rfl (rows1 (.of rfl rfl rfl (by simp) rfl (fun i hi => by rw [join_cells L M i (by simpa using hi)]; simp) (fun _ => rfl))) rfl (by simp)

theorem arg_rr1 {q a : Nat} {Rq : Row} (hq : Rs[q]? = some (some Rq)) (hRq : RowLe Rq ⟨1, 1, rr1 a, none, false, false⟩) : ArgRow Rs [q, a] none q ⟨1, 1, rr1 1, none, false, false⟩ := by
  refine ⟨⟨Rq, hq, hRq.sz, hRq.len, hRq.own, hRq.tight, hRq.new, fun i hi => ?_⟩, fun i hi => ?_, .inl ⟨rfl, rfl⟩⟩
  · rw [← hRq.cells i hi]
    have := hRq.len
    match i with
    | 0 => rfl
    | n + 1 => dsimp only at this; omega
  · match i with
    | 0 => rfl
    | n + 1 => dsimp only at hi; omega
set_option maxRecDepth 100000 in
theorem joined1 {q a : Nat} {Rq Ra : Row} {L : List Int} (hq : Rs[q]? = some (some Rq)) (ha : Rs[a]? = some (some Ra)) (hRq : RowLe Rq ⟨1, 1, rr1 a, none, false, false⟩) (hRa : RowLe Ra (rowI L)) (hl : L.length ≤ 17592186044416) :
    CallOk Try.prog W B Rs 17 [rsV q] (mkHd (rsV 0) [newI L]) := by
  refine CallOk.enter Try.func17 (by kernel_rfl) rfl [q, a] [⟨1, 1, rr1 1, none, false, false⟩, rowI L] [rsV 0] rfl (rows2 (arg_rr1 hq hRq) (.ro_ ha hRa rfl rfl (fun _ _ => rfl))) (fun r h => by cases h) rfl rfl ?_
  intro w blk hblk
  refine SG.walk tab_ok mx 400 [] [] ?_
  conv => whnf
  try dsimp only [rowL, rowN, growOk, hiN, fromL, tightN, maxOk]
  try simp (disch := omega) only [wI, wU64, wU32, wU8, Int.toNat_natCast, Int.reduceToNat, Option.getD_some, Option.getD_none, Nat.sub_zero, Nat.zero_add]
  refine ⟨?_, ?_⟩
  · trivial
  refine SG.nilRow 3 3 1 rfl ?_
  refine SG.good (fun _ _ => .loop) ?_
  refine SG.walk tab_ok mx 400 [true] [] ?_
  conv => whnf
  try dsimp only [rowL, rowN, growOk, hiN, fromL, tightN, maxOk]
  try simp (disch := omega) only [wI, wU64, wU32, wU8, Int.toNat_natCast, Int.reduceToNat, Option.getD_some, Option.getD_none, Nat.sub_zero, Nat.zero_add]
  refine ⟨?_, ?_⟩
  · try simp only [beq_iff_eq, beq_eq_false_iff_ne, bne_iff_ne, bne_eq_false_iff_eq, decide_eq_true_eq, decide_eq_false_iff_not, ne_eq, Bool.not_eq_true', Bool.not_eq_false', Bool.not_eq_eq_eq_not, Bool.not_true, Bool.not_false]
    try omega
  refine SG.good (fun _ _ => .inLoop) ?_
  refine SG.walk tab_ok mx 400 [false] [] ?_
  conv => whnf
  try dsimp only [rowL, rowN, growOk, hiN, fromL, tightN, maxOk]
  try simp (disch := omega) only [wI, wU64, wU32, wU8, Int.toNat_natCast, Int.reduceToNat, Option.getD_some, Option.getD_none, Nat.sub_zero, Nat.zero_add]
  refine ⟨?_, ?_⟩
  · try simp only [beq_iff_eq, beq_eq_false_iff_ne, bne_iff_ne, bne_eq_false_iff_eq, decide_eq_true_eq, decide_eq_false_iff_not, ne_eq, Bool.not_eq_true', Bool.not_eq_false', Bool.not_eq_eq_eq_not, Bool.not_true, Bool.not_false]
    try omega
  refine SG.ret tab_ok Try.func17 rfl ?_
  intro ρ w' v hm hv
  exact Post.mk hm (rsV 0) [newI L] none [3] hv rfl (rows1 (.of rfl rfl rfl (by simp) rfl (fun i hi => by simp at hi; simp [hi]) (fun _ => rfl))) rfl (by simp)
set_option maxRecDepth 100000 in
theorem same1 {r : Nat} {R : Row} {L : List Int} {l : Int} (hr : Rs[r]? = some (some R)) (hR : RowLe R (rowI L)) (hl : L.length ≤ 17592186044416) :
    CallOk Try.prog W B Rs 16 [turnV r l] (mkHd (turnV 0 l) [newI L]) := by
  refine CallOk.enter Try.func16 (by kernel_rfl) rfl [r] [rowI L] [turnV 0 l] rfl (rows1 (.ro_ hr hR rfl rfl (fun _ _ => rfl))) (fun r h => by cases h) rfl rfl ?_
  intro w blk hblk
  refine SG.walk tab_ok mx 400 [] [mkHd (rsV 0) [newI L]] ?_
  conv => whnf
  try dsimp only [rowL, rowN, growOk, hiN, fromL, tightN, maxOk]
  try simp (disch := omega) only [wI, wU64, wU32, wU8, Int.toNat_natCast, Int.reduceToNat, Option.getD_some, Option.getD_none, Nat.sub_zero, Nat.zero_add]
  refine ⟨?_, ?_⟩
  · exact joined1 (q := 1) (a := 0) rfl rfl (.of rfl rfl (fun _ _ => rfl)) (.of rfl rfl (fun _ _ => rfl)) hl
  · refine SG.ret tab_ok Try.func16 rfl ?_
    intro ρ w' v hm hv
    exact Post.mk hm (turnV 0 l) [newI L] none [2] hv rfl (rows1 (.of rfl rfl rfl rfl rfl (fun i hi => rfl) (fun _ => rfl))) rfl (by simp)

/-! The closure, and who asks it. -/
abbrev pidRow (p : Int) : Row := ⟨1, 1, fun _ => intC p, none, false, false⟩
set_option maxRecDepth 100000 in
theorem isit {r : Nat} {R : Row} {x p : Int} (hr : Rs[r]? = some (some R)) (hR : RowLe R (pidRow p)) :
    CallOk Try.prog W B Rs 23 [intV x, .cv (.one (.pt (.rp r 0 1 0)))] (mkHd (.cv (.one (.v (.bool (x == p))))) []) := by
  refine CallOk.enter Try.func23 (by kernel_rfl) rfl [r] [pidRow p] [intV x, .cv (.one (.pt (.rp 0 0 1 0)))] rfl (rows1 (.ro_ hr hR rfl rfl (fun _ _ => rfl))) (fun r h => by cases h) rfl rfl ?_
  intro w blk hblk
  refine SG.walk tab_ok mx 400 [] [] ?_
  conv => whnf
  try dsimp only [rowL, rowN, growOk, hiN, fromL, tightN, maxOk]
  try simp (disch := omega) only [wI, wU64, wU32, wU8, Int.toNat_natCast, Int.reduceToNat, Option.getD_some, Option.getD_none, Nat.sub_zero, Nat.zero_add]
  refine ⟨?_, ?_⟩
  · try simp only [beq_iff_eq, beq_eq_false_iff_ne, bne_iff_ne, bne_eq_false_iff_eq, decide_eq_true_eq, decide_eq_false_iff_not, ne_eq, Bool.not_eq_true', Bool.not_eq_false', Bool.not_eq_eq_eq_not, Bool.not_true, Bool.not_false]
    try omega
  · refine SG.ret tab_ok Try.func23 rfl ?_
    intro ρ w' v hm hv
    exact Post.mk hm (.cv (.one (.v (.bool (x == p))))) [] none [] hv rfl rows0 rfl (by simp)
set_option maxRecDepth 100000 in
theorem isof {p : Int} : CallOk Try.prog W B Rs 20 [intV p] (mkHd (.cv (.one (.clo 23 [.rp 0 0 1 0]))) [⟨1, 1, fun _ => intC p, none, true, true⟩]) := by
  refine CallOk.enter Try.func20 (by kernel_rfl) rfl [] [] [intV p] rfl rows0 (fun r h => by cases h) rfl rfl ?_
  intro w blk hblk
  refine SG.walk tab_ok mx 400 [] [] ?_
  conv => whnf
  try dsimp only [rowL, rowN, growOk, hiN, fromL, tightN, maxOk]
  try simp (disch := omega) only [wI, wU64, wU32, wU8, Int.toNat_natCast, Int.reduceToNat, Option.getD_some, Option.getD_none, Nat.sub_zero, Nat.zero_add]
  refine ⟨?_, ?_⟩
  · trivial
  refine SG.boxRow 0 rfl ?_
  refine SG.ret tab_ok Try.func20 rfl ?_
  intro ρ w' v hm hv
  exact Post.mk hm (.cv (.one (.clo 23 [.rp 0 0 1 0]))) [⟨1, 1, fun _ => intC p, none, true, true⟩] none [0] hv rfl (rows1 ⟨⟨_, rfl, ⟨rfl, rfl, .inl rfl, (fun _ => rfl), (fun _ => rfl), fun i hi => rfl⟩, rfl⟩, fun _ _ => rfl⟩) rfl (by simp)
/-- Where somebody stands in a row; -1: nowhere. -/
def ixOf (p : Int) (L : List Int) : Int := if p ∈ L then (L.idxOf p : Int) else -1
theorem ix_at {p : Int} {L : List Int} {k : Nat} (hk : k < L.length) (hp : L.getD k 0 = p) (hn : ∀ j, j < k → L.getD j 0 ≠ p) : ixOf p L = k := by
  have hg : ∀ j (h : j < L.length), L.getD j 0 = L[j] := fun j h => by simp [List.getD_eq_getElem?_getD, h]
  have hm : p ∈ L := by rw [← hp, hg k hk]; exact List.getElem_mem hk
  unfold ixOf
  rw [if_pos hm]
  congr 1
  have h1 : L.idxOf p < L.length := List.idxOf_lt_length_of_mem hm
  have h2 : L[L.idxOf p] = p := List.getElem_idxOf h1
  rcases Nat.lt_trichotomy (L.idxOf p) k with h | h | h
  · exact absurd ((hg _ h1).trans h2) (hn _ h)
  · exact h
  · have := List.not_of_lt_findIdx (p := (· == p)) (xs := L) (i := k) h
    rw [hg k hk] at hp
    simp [hp] at this
theorem ix_none {p : Int} {L : List Int} {k : Nat} (hk : L.length ≤ k) (hn : ∀ j, j < k → L.getD j 0 ≠ p) : ixOf p L = -1 := by
  unfold ixOf
  rw [if_neg]
  intro hm
  obtain ⟨j, hj, he⟩ := List.getElem_of_mem hm
  exact hn j (by omega) (by simp [List.getD_eq_getElem?_getD, hj, he])
abbrev cloV (r : Nat) : SV := .cv (.one (.clo 23 [.rp r 0 1 0]))
set_option maxRecDepth 100000 in
theorem indexF {r q : Nat} {R Rq : Row} {L : List Int} {p : Int} (hr : Rs[r]? = some (some R)) (hR : RowLe R (rowI L)) (hq : Rs[q]? = some (some Rq)) (hRq : RowLe Rq (pidRow p)) (hl : L.length ≤ 17592186044416) :
    CallOk Try.prog W B Rs 21 [rsV r, cloV q] (mkHd (intV (ixOf p L)) []) := by
  refine CallOk.enter Try.func21 (by kernel_rfl) rfl [r, q] [rowI L, pidRow p] [rsV 0, cloV 1] rfl (rows2 (.ro_ hr hR rfl rfl (fun _ _ => rfl)) (.ro_ hq hRq rfl rfl (fun _ _ => rfl))) (fun r h => by cases h) rfl rfl ?_
  intro w blk hblk
  refine SG.walk tab_ok mx 400 [] [] ?_
  conv => whnf
  try dsimp only [rowL, rowN, growOk, hiN, fromL, tightN, maxOk]
  try simp (disch := omega) only [wI, wU64, wU32, wU8, Int.toNat_natCast, Int.reduceToNat, Option.getD_some, Option.getD_none, Nat.sub_zero, Nat.zero_add]
  refine ⟨?_, ?_⟩
  · trivial
  refine SG.loop (fun k : Nat => ⟨puts (List.replicate 19 .any) [(0, rsV 0), (1, cloV 1), (7, intV L.length), (8, intV k)], [], [some (rowI L), some (pidRow p)]⟩) (fun k => k ≤ L.length ∧ ∀ j, j < k → L.getD j 0 ≠ p) (fun k => L.length - k) 0 ⟨Nat.zero_le _, fun j hj => by omega⟩ (fun h => SG.sub [] [0, 1] ⟨?_, ?_, ?_, by decide, rfl, rfl, rfl⟩ h) ?_
  · repeat' (first | exact trivial | exact rfl | refine And.intro ?_ ?_)
  · exact trivial
  · refine ⟨⟨_, rfl, ⟨rfl, rfl, .inl rfl, id, id, fun _ _ => rfl⟩, fun _ _ => rfl⟩, ⟨_, rfl, ⟨rfl, rfl, .inl rfl, id, id, fun _ _ => rfl⟩, fun _ _ => rfl⟩, trivial⟩
  intro k hk next
  by_cases hlt : k < L.length
  · by_cases hp : L.getD k 0 = p
    · refine SG.walk tab_ok mx 400 [true, true] [mkHd (.cv (.one (.v (.bool (L.getD k 0 == p))))) []] ?_
      conv => whnf
      try dsimp only [rowL, rowN, growOk, hiN, fromL, tightN, maxOk]
      try simp (disch := omega) only [wI, wU64, wU32, wU8, Int.toNat_natCast, Int.reduceToNat, Option.getD_some, Option.getD_none, Nat.sub_zero, Nat.zero_add]
      refine ⟨?_, ?_⟩
      · refine ⟨by simpa using hp, isit (r := 1) rfl (.of rfl rfl (fun _ _ => rfl)), by omega, by omega, by simpa using hlt⟩
      · have hix : ixOf p L = k := ix_at hlt hp hk.2
        rw [hix]
        refine SG.ret tab_ok Try.func21 rfl ?_
        intro ρ w' v hm hv
        exact Post.mk hm (intV k) [] none [] hv rfl rows0 rfl (by simp)
    · refine SG.walk tab_ok mx 400 [true, false] [mkHd (.cv (.one (.v (.bool (L.getD k 0 == p))))) []] ?_
      conv => whnf
      try dsimp only [rowL, rowN, growOk, hiN, fromL, tightN, maxOk]
      try simp (disch := omega) only [wI, wU64, wU32, wU8, Int.toNat_natCast, Int.reduceToNat, Option.getD_some, Option.getD_none, Nat.sub_zero, Nat.zero_add]
      refine ⟨?_, ?_⟩
      · refine ⟨by simpa using hp, isit (r := 1) rfl (.of rfl rfl (fun _ _ => rfl)), by omega, by omega, by simpa using hlt⟩
      · refine SG.sub [] [0, 1] ⟨?_, ?_, ?_, by decide, rfl, rfl, rfl⟩ (next (k + 1) ⟨hlt, fun j hj => ?_⟩ (by omega))
        · repeat' (first | exact trivial | exact rfl | refine And.intro ?_ ?_)
        · exact trivial
        · refine ⟨⟨_, rfl, ⟨rfl, rfl, .inl rfl, id, id, fun _ _ => rfl⟩, fun _ _ => rfl⟩, ⟨_, rfl, ⟨rfl, rfl, .inl rfl, id, id, fun _ _ => rfl⟩, fun _ _ => rfl⟩, trivial⟩
        · rcases Nat.lt_or_ge j k with h | h
          · exact hk.2 j h
          · rw [show j = k by omega]; exact hp
  · refine SG.walk tab_ok mx 400 [false] [] ?_
    conv => whnf
    try dsimp only [rowL, rowN, growOk, hiN, fromL, tightN, maxOk]
    try simp (disch := omega) only [wI, wU64, wU32, wU8, Int.toNat_natCast, Int.reduceToNat, Option.getD_some, Option.getD_none, Nat.sub_zero, Nat.zero_add]
    refine ⟨?_, ?_⟩
    · simpa using hlt
    · have hix : ixOf p L = -1 := ix_none (by omega) hk.2
      rw [hix]
      refine SG.ret tab_ok Try.func21 rfl ?_
      intro ρ w' v hm hv
      exact Post.mk hm (intV (-1)) [] none [] hv rfl rows0 rfl (by simp)
end
end Go.Proofs.Ytanckelknhiaaaa
