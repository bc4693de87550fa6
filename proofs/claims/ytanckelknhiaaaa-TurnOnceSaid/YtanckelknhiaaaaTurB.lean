/- Turns: contracts, on. -/
import Derived.Test.YtanckelknhiaaaaTurA
namespace Go.Proofs.Ytanckelknhiaaaa
open Go.Sx Go.RowKit
set_option linter.unusedVariables false
set_option linter.unusedSimpArgs false
section
variable {W : Base} {B : List (Option (List At))} {Rs : List (Option Row)}
theorem ix_ge {p : Int} {L : List Int} : decide (ixOf p L ≥ 0) = decide (p ∈ L) := by
  unfold ixOf
  by_cases h : p ∈ L
  · simp [h]
  · simp [h]
set_option maxRecDepth 100000 in
theorem containsF {r q : Nat} {R Rq : Row} {L : List Int} {p : Int} (hr : Rs[r]? = some (some R)) (hR : RowLe R (rowI L)) (hq : Rs[q]? = some (some Rq)) (hRq : RowLe Rq (pidRow p)) (hl : L.length ≤ 17592186044416) {b : Bool} (hb : decide (p ∈ L) = b) :
    CallOk Try.prog W B Rs 19 [rsV r, cloV q] (mkHd (.cv (.one (.lb b))) []) := by
  refine CallOk.enter Try.func19 (by kernel_rfl) rfl [r, q] [rowI L, pidRow p] [rsV 0, cloV 1] rfl (rows2 (.ro_ hr hR rfl rfl (fun _ _ => rfl)) (.ro_ hq hRq rfl rfl (fun _ _ => rfl))) (fun r h => by cases h) rfl rfl ?_
  intro w blk hblk
  refine SG.walk tab_ok mx 400 [] [mkHd (intV (ixOf p L)) []] ?_
  conv => whnf
  try dsimp only [rowL, rowN, growOk, hiN, fromL, tightN, maxOk]
  try simp (disch := omega) only [wI, wU64, wU32, wU8, Int.toNat_natCast, Int.reduceToNat, Option.getD_some, Option.getD_none, Nat.sub_zero, Nat.zero_add]
  refine ⟨?_, ?_⟩
  · exact indexF (r := 0) (q := 1) rfl (.of rfl rfl (fun _ _ => rfl)) rfl (.of rfl rfl (fun _ _ => rfl)) hl
  · rw [ix_ge, hb]
    refine SG.ret tab_ok Try.func19 rfl ?_
    intro ρ w' v hm hv
    exact Post.mk hm (.cv (.one (.lb b))) [] none [] hv rfl rows0 rfl (by simp)
set_option maxRecDepth 100000 in
theorem yield_nil {r : Nat} {R : Row} {l : Int} (hr : Rs[r]? = some (some R)) (hR : RowLe R (rowI [])) :
    CallOk Try.prog W B Rs 10 [turnV r l] (mkHd (turnV 0 l) [newI []]) := by
  refine CallOk.enter Try.func10 (by kernel_rfl) rfl [r] [rowI []] [turnV 0 l] rfl (rows1 (.ro_ hr hR rfl rfl (fun _ _ => rfl))) (fun r h => by cases h) rfl rfl ?_
  intro w blk hblk
  refine SG.walk tab_ok mx 400 [true] [mkHd (turnV 0 l) [newI []]] ?_
  conv => whnf
  try dsimp only [rowL, rowN, growOk, hiN, fromL, tightN, maxOk]
  try simp (disch := omega) only [wI, wU64, wU32, wU8, Int.toNat_natCast, Int.reduceToNat, Option.getD_some, Option.getD_none, Nat.sub_zero, Nat.zero_add]
  refine ⟨?_, ?_⟩
  · exact ⟨same1 (r := 0) (L := []) rfl (.of rfl rfl (fun _ _ => rfl)) (by simp), rfl⟩
  · refine SG.ret tab_ok Try.func10 rfl ?_
    intro ρ w' v hm hv
    exact Post.mk hm (turnV 0 l) [newI []] none [1] hv rfl (rows1 (.of rfl rfl rfl rfl rfl (fun i hi => rfl) (fun _ => rfl))) rfl (by simp)
set_option maxRecDepth 100000 in
theorem yield_cons {r : Nat} {R : Row} {x : Int} {L : List Int} {l : Int} (hr : Rs[r]? = some (some R)) (hR : RowLe R (rowI (x :: L))) (hl : (x :: L).length ≤ 17592186044416) :
    CallOk Try.prog W B Rs 10 [turnV r l] (mkHd (turnV 0 5) [newI (L ++ [x])]) := by
  refine CallOk.enter Try.func10 (by kernel_rfl) rfl [r] [rowI (x :: L)] [turnV 0 l] rfl (rows1 (.ro_ hr hR rfl rfl (fun _ _ => rfl))) (fun r h => by cases h) rfl rfl ?_
  intro w blk hblk
  refine SG.walk tab_ok mx 400 [false] [mkHd (rsV 0) [newI (L ++ [x])]] ?_
  conv => whnf
  try dsimp only [rowL, rowN, growOk, hiN, fromL, tightN, maxOk]
  try simp (disch := omega) only [wI, wU64, wU32, wU8, Int.toNat_natCast, Int.reduceToNat, Option.getD_some, Option.getD_none, Nat.sub_zero, Nat.zero_add]
  refine ⟨?_, ?_⟩
  · refine ⟨joined2 (q := 3) (a := 1) (b := 2) (L := L) (M := [x]) rfl rfl rfl (.of rfl rfl (fun _ _ => rfl)) (.of rfl (by simp) (fun i hi => by show _ = intC ((x :: L).getD (1 + i) 0); rw [Nat.add_comm]; rfl)) (.of rfl (by simp) (fun i hi => ?_)) (by simpa using hl), ?_⟩
    · have : i = 0 := by simpa using hi
      subst this; rfl
    · simp; omega
  · refine SG.ret tab_ok Try.func10 rfl ?_
    intro ρ w' v hm hv
    exact Post.mk hm (turnV 0 5) [newI (L ++ [x])] none [4] hv rfl (rows1 (.of rfl rfl rfl rfl rfl (fun i hi => rfl) (fun _ => rfl))) rfl (by simp)
set_option maxRecDepth 100000 in
theorem spend_nil {r : Nat} {R : Row} {l : Int} (hr : Rs[r]? = some (some R)) (hR : RowLe R (rowI [])) :
    CallOk Try.prog W B Rs 12 [turnV r l] (mkHd (turnV 0 l) [newI []]) := by
  refine CallOk.enter Try.func12 (by kernel_rfl) rfl [r] [rowI []] [turnV 0 l] rfl (rows1 (.ro_ hr hR rfl rfl (fun _ _ => rfl))) (fun r h => by cases h) rfl rfl ?_
  intro w blk hblk
  refine SG.walk tab_ok mx 400 [true] [mkHd (turnV 0 l) [newI []]] ?_
  conv => whnf
  try dsimp only [rowL, rowN, growOk, hiN, fromL, tightN, maxOk]
  try simp (disch := omega) only [wI, wU64, wU32, wU8, Int.toNat_natCast, Int.reduceToNat, Option.getD_some, Option.getD_none, Nat.sub_zero, Nat.zero_add]
  refine ⟨?_, ?_⟩
  · exact ⟨same1 (r := 0) (L := []) rfl (.of rfl rfl (fun _ _ => rfl)) (by simp), rfl⟩
  · refine SG.ret tab_ok Try.func12 rfl ?_
    intro ρ w' v hm hv
    exact Post.mk hm (turnV 0 l) [newI []] none [1] hv rfl (rows1 (.of rfl rfl rfl rfl rfl (fun i hi => rfl) (fun _ => rfl))) rfl (by simp)
set_option maxRecDepth 100000 in
theorem spend_more {r : Nat} {R : Row} {L : List Int} {l : Int} (hr : Rs[r]? = some (some R)) (hR : RowLe R (rowI L)) (hl : L.length ≤ 17592186044416) (h0 : 0 < L.length) (h1 : 1 < l) (h2 : l ≤ 9223372036854775807) :
    CallOk Try.prog W B Rs 12 [turnV r l] (mkHd (turnV 0 (l - 1)) [newI L]) := by
  refine CallOk.enter Try.func12 (by kernel_rfl) rfl [r] [rowI L] [turnV 0 l] rfl (rows1 (.ro_ hr hR rfl rfl (fun _ _ => rfl))) (fun r h => by cases h) rfl rfl ?_
  intro w blk hblk
  refine SG.walk tab_ok mx 400 [false, false] [mkHd (turnV 0 (l - 1)) [newI L]] ?_
  conv => whnf
  try dsimp only [rowL, rowN, growOk, hiN, fromL, tightN, maxOk]
  try simp (disch := omega) only [wI, wU64, wU32, wU8, Int.toNat_natCast, Int.reduceToNat, Option.getD_some, Option.getD_none, Nat.sub_zero, Nat.zero_add]
  refine ⟨?_, ?_⟩
  · refine ⟨same1 (r := 0) rfl (.of rfl rfl (fun _ _ => rfl)) hl, ?_⟩
    try simp only [beq_iff_eq, beq_eq_false_iff_ne, bne_iff_ne, bne_eq_false_iff_eq, decide_eq_true_eq, decide_eq_false_iff_not, ne_eq, Bool.not_eq_true', Bool.not_eq_false', Bool.not_eq_eq_eq_not, Bool.not_true, Bool.not_false]
    try omega
  · refine SG.ret tab_ok Try.func12 rfl ?_
    intro ρ w' v hm hv
    exact Post.mk hm (turnV 0 (l - 1)) [newI L] none [1] hv rfl (rows1 (.of rfl rfl rfl rfl rfl (fun i hi => rfl) (fun _ => rfl))) rfl (by simp)
set_option maxRecDepth 100000 in
theorem spend_last {r : Nat} {R : Row} {x : Int} {L : List Int} {l : Int} (hr : Rs[r]? = some (some R)) (hR : RowLe R (rowI (x :: L))) (hl : (x :: L).length ≤ 17592186044416) (h1 : l ≤ 1) (h2 : -9223372036854775807 ≤ l) :
    CallOk Try.prog W B Rs 12 [turnV r l] (mkHd (turnV 0 5) [newI (L ++ [x])]) := by
  refine CallOk.enter Try.func12 (by kernel_rfl) rfl [r] [rowI (x :: L)] [turnV 0 l] rfl (rows1 (.ro_ hr hR rfl rfl (fun _ _ => rfl))) (fun r h => by cases h) rfl rfl ?_
  intro w blk hblk
  refine SG.walk tab_ok mx 400 [false, true] [mkHd (turnV 0 5) [newI (L ++ [x])]] ?_
  conv => whnf
  try dsimp only [rowL, rowN, growOk, hiN, fromL, tightN, maxOk]
  try simp (disch := omega) only [wI, wU64, wU32, wU8, Int.toNat_natCast, Int.reduceToNat, Option.getD_some, Option.getD_none, Nat.sub_zero, Nat.zero_add]
  refine ⟨?_, ?_⟩
  · refine ⟨yield_cons (r := 0) rfl (.of rfl rfl (fun _ _ => rfl)) hl, ?_⟩
    simp; omega
  · refine SG.ret tab_ok Try.func12 rfl ?_
    intro ρ w' v hm hv
    exact Post.mk hm (turnV 0 5) [newI (L ++ [x])] none [1] hv rfl (rows1 (.of rfl rfl rfl rfl rfl (fun i hi => rfl) (fun _ => rfl))) rfl (by simp)
theorem arr1 {p : Int} (i : Nat) (hi : i < 1) : intC ([p].getD i 0) = ([(Cv.one (.v (.int .i64 p))).cells][i]?).getD [] := by
  match i with
  | 0 => rfl
set_option maxRecDepth 100000 in
theorem add_old {r : Nat} {R : Row} {L : List Int} {l p : Int} (hr : Rs[r]? = some (some R)) (hR : RowLe R (rowI L)) (hl : L.length ≤ 17592186044416) (hp : p ∈ L) :
    CallOk Try.prog W B Rs 14 [turnV r l, intV p] (mkHd (turnV 0 l) [newI L]) := by
  refine CallOk.enter Try.func14 (by kernel_rfl) rfl [r] [rowI L] [turnV 0 l, intV p] rfl (rows1 (.ro_ hr hR rfl rfl (fun _ _ => rfl))) (fun r h => by cases h) rfl rfl ?_
  intro w blk hblk
  refine SG.walk tab_ok mx 400 [] [mkHd (.cv (.one (.clo 23 [.rp 0 0 1 0]))) [⟨1, 1, fun _ => intC p, none, true, true⟩], mkHd (.cv (.one (.lb true))) [], mkHd (turnV 0 l) [newI L]] ?_
  conv => whnf
  try dsimp only [rowL, rowN, growOk, hiN, fromL, tightN, maxOk]
  try simp (disch := omega) only [wI, wU64, wU32, wU8, Int.toNat_natCast, Int.reduceToNat, Option.getD_some, Option.getD_none, Nat.sub_zero, Nat.zero_add]
  refine ⟨?_, ?_⟩
  · exact ⟨same1 (r := 0) rfl (.of rfl rfl (fun _ _ => rfl)) hl, containsF (r := 0) (q := 1) rfl (.of rfl rfl (fun _ _ => rfl)) rfl (.of rfl rfl (fun _ _ => rfl)) hl (by simpa using hp), isof⟩
  · refine SG.ret tab_ok Try.func14 rfl ?_
    intro ρ w' v hm hv
    exact Post.mk hm (turnV 0 l) [newI L] none [2] hv rfl (rows1 (.of rfl rfl rfl rfl rfl (fun i hi => rfl) (fun _ => rfl))) rfl (by simp)
set_option maxRecDepth 100000 in
theorem add_new {r : Nat} {R : Row} {L : List Int} {l p : Int} (hr : Rs[r]? = some (some R)) (hR : RowLe R (rowI L)) (hl : L.length + 1 ≤ 17592186044416) (hp : ¬ p ∈ L) :
    CallOk Try.prog W B Rs 14 [turnV r l, intV p] (mkHd (turnV 0 (if L.length = 0 then 5 else l)) [newI (L ++ [p])]) := by
  refine CallOk.enter Try.func14 (by kernel_rfl) rfl [r] [rowI L] [turnV 0 l, intV p] rfl (rows1 (.ro_ hr hR rfl rfl (fun _ _ => rfl))) (fun r h => by cases h) rfl rfl ?_
  intro w blk hblk
  by_cases h0 : L.length = 0
  · rw [if_pos h0]
    refine SG.walk tab_ok mx 400 [true] [mkHd (.cv (.one (.clo 23 [.rp 0 0 1 0]))) [⟨1, 1, fun _ => intC p, none, true, true⟩], mkHd (.cv (.one (.lb false))) [], mkHd (rsV 0) [newI (L ++ [p])]] ?_
    conv => whnf
    try dsimp only [rowL, rowN, growOk, hiN, fromL, tightN, maxOk]
    try simp (disch := omega) only [wI, wU64, wU32, wU8, Int.toNat_natCast, Int.reduceToNat, Option.getD_some, Option.getD_none, Nat.sub_zero, Nat.zero_add]
    refine ⟨?_, ?_⟩
    · refine ⟨joined2 (q := 3) (a := 0) (b := 2) (L := L) (M := [p]) rfl rfl rfl (.of rfl rfl (fun i hi => rfl)) (.of rfl rfl (fun _ _ => rfl)) (.of rfl rfl (fun i hi => arr1 (p := p) i hi)) (by simpa using hl), by simpa using h0, containsF (r := 0) (q := 1) rfl (.of rfl rfl (fun _ _ => rfl)) rfl (.of rfl rfl (fun _ _ => rfl)) (by omega) (by simpa using hp), isof⟩
    · refine SG.ret tab_ok Try.func14 rfl ?_
      intro ρ w' v hm hv
      exact Post.mk hm (turnV 0 5) [newI (L ++ [p])] none [4] hv rfl (rows1 (.of rfl rfl rfl rfl rfl (fun i hi => rfl) (fun _ => rfl))) rfl (by simp)
  · rw [if_neg h0]
    refine SG.walk tab_ok mx 400 [false] [mkHd (.cv (.one (.clo 23 [.rp 0 0 1 0]))) [⟨1, 1, fun _ => intC p, none, true, true⟩], mkHd (.cv (.one (.lb false))) [], mkHd (rsV 0) [newI (L ++ [p])]] ?_
    conv => whnf
    try dsimp only [rowL, rowN, growOk, hiN, fromL, tightN, maxOk]
    try simp (disch := omega) only [wI, wU64, wU32, wU8, Int.toNat_natCast, Int.reduceToNat, Option.getD_some, Option.getD_none, Nat.sub_zero, Nat.zero_add]
    refine ⟨?_, ?_⟩
    · refine ⟨joined2 (q := 3) (a := 0) (b := 2) (L := L) (M := [p]) rfl rfl rfl (.of rfl rfl (fun i hi => rfl)) (.of rfl rfl (fun _ _ => rfl)) (.of rfl rfl (fun i hi => arr1 (p := p) i hi)) (by simpa using hl), by simpa using h0, containsF (r := 0) (q := 1) rfl (.of rfl rfl (fun _ _ => rfl)) rfl (.of rfl rfl (fun _ _ => rfl)) (by omega) (by simpa using hp), isof⟩
    · refine SG.ret tab_ok Try.func14 rfl ?_
      intro ρ w' v hm hv
      exact Post.mk hm (turnV 0 l) [newI (L ++ [p])] none [4] hv rfl (rows1 (.of rfl rfl rfl rfl rfl (fun i hi => rfl) (fun _ => rfl))) rfl (by simp)
theorem list_eq {L M : List Int} (h : L.length = M.length) (hg : ∀ j, j < L.length → L.getD j 0 = M.getD j 0) : L = M := by
  apply List.ext_getElem h
  intro j h1 h2
  have := hg j h1
  simpa [List.getD_eq_getElem?_getD, h1, h2] using this
abbrev rowsI2 (L M : List Int) : List (Option Row) := [some (rowI L), some (rowI M)]
set_option maxRecDepth 100000 in
theorem equalI {r q : Nat} {R Rq : Row} {L M : List Int} (hr : Rs[r]? = some (some R)) (hR : RowLe R (rowI L)) (hq : Rs[q]? = some (some Rq)) (hRq : RowLe Rq (rowI M)) (hl : L.length ≤ 17592186044416) :
    CallOk Try.prog W B Rs 18 [rsV r, rsV q] (mkHd (.cv (.one (.lb (decide (L = M))))) []) := by
  refine CallOk.enter Try.func18 (by kernel_rfl) rfl [r, q] [rowI L, rowI M] [rsV 0, rsV 1] rfl (rows2 (.ro_ hr hR rfl rfl (fun _ _ => rfl)) (.ro_ hq hRq rfl rfl (fun _ _ => rfl))) (fun r h => by cases h) rfl rfl ?_
  intro w blk hblk
  by_cases he : L.length = M.length
  · refine SG.walk tab_ok mx 400 [false] [] ?_
    conv => whnf
    try dsimp only [rowL, rowN, growOk, hiN, fromL, tightN, maxOk]
    try simp (disch := omega) only [wI, wU64, wU32, wU8, Int.toNat_natCast, Int.reduceToNat, Option.getD_some, Option.getD_none, Nat.sub_zero, Nat.zero_add]
    refine ⟨?_, ?_⟩
    · simp; omega
    refine SG.loop (fun k : Nat => ⟨puts (List.replicate 26 .any) [(0, rsV 0), (1, rsV 1), (11, rsV 0), (12, intV L.length), (13, intV k)], [], rowsI2 L M⟩) (fun k => k ≤ L.length ∧ ∀ j, j < k → L.getD j 0 = M.getD j 0) (fun k => L.length - k) 0 ⟨Nat.zero_le _, fun j hj => by omega⟩ (fun h => SG.sub [] [0, 1] ⟨?_, ?_, ?_, by decide, rfl, rfl, rfl⟩ h) ?_
    · repeat' (first | exact trivial | exact rfl | refine And.intro ?_ ?_)
    · exact trivial
    · refine ⟨⟨_, rfl, ⟨rfl, rfl, .inl rfl, id, id, fun _ _ => rfl⟩, fun _ _ => rfl⟩, ⟨_, rfl, ⟨rfl, rfl, .inl rfl, id, id, fun _ _ => rfl⟩, fun _ _ => rfl⟩, trivial⟩
    intro k hk next
    by_cases hlt : k < L.length
    · by_cases hp : L.getD k 0 = M.getD k 0
      · refine SG.walk tab_ok mx 400 [true, false] [] ?_
        conv => whnf
        try dsimp only [rowL, rowN, growOk, hiN, fromL, tightN, maxOk]
        try simp (disch := omega) only [wI, wU64, wU32, wU8, Int.toNat_natCast, Int.reduceToNat, Option.getD_some, Option.getD_none, Nat.sub_zero, Nat.zero_add]
        refine ⟨?_, ?_⟩
        · try simp only [beq_iff_eq, beq_eq_false_iff_ne, bne_iff_ne, bne_eq_false_iff_eq, decide_eq_true_eq, decide_eq_false_iff_not, ne_eq, Bool.not_eq_true', Bool.not_eq_false', Bool.not_eq_eq_eq_not, Bool.not_true, Bool.not_false]
          try omega
        · refine SG.sub [] [0, 1] ⟨?_, ?_, ?_, by decide, rfl, rfl, rfl⟩ (next (k + 1) ⟨hlt, fun j hj => ?_⟩ (by omega))
          · repeat' (first | exact trivial | exact rfl | refine And.intro ?_ ?_)
          · exact trivial
          · refine ⟨⟨_, rfl, ⟨rfl, rfl, .inl rfl, id, id, fun _ _ => rfl⟩, fun _ _ => rfl⟩, ⟨_, rfl, ⟨rfl, rfl, .inl rfl, id, id, fun _ _ => rfl⟩, fun _ _ => rfl⟩, trivial⟩
          · rcases Nat.lt_or_ge j k with h | h
            · exact hk.2 j h
            · rw [show j = k by omega]; exact hp
      · refine SG.walk tab_ok mx 400 [true, true] [] ?_
        conv => whnf
        try dsimp only [rowL, rowN, growOk, hiN, fromL, tightN, maxOk]
        try simp (disch := omega) only [wI, wU64, wU32, wU8, Int.toNat_natCast, Int.reduceToNat, Option.getD_some, Option.getD_none, Nat.sub_zero, Nat.zero_add]
        refine ⟨?_, ?_⟩
        · try simp only [beq_iff_eq, beq_eq_false_iff_ne, bne_iff_ne, bne_eq_false_iff_eq, decide_eq_true_eq, decide_eq_false_iff_not, ne_eq, Bool.not_eq_true', Bool.not_eq_false', Bool.not_eq_eq_eq_not, Bool.not_true, Bool.not_false]
          try omega
        · have hne : decide (L = M) = false := by simp; rintro rfl; exact hp rfl
          rw [hne]
          refine SG.ret tab_ok Try.func18 rfl ?_
          intro ρ w' v hm hv
          exact Post.mk hm (.cv (.one (.lb false))) [] none [] hv rfl rows0 rfl (by simp)
    · refine SG.walk tab_ok mx 400 [false] [] ?_
      conv => whnf
      try dsimp only [rowL, rowN, growOk, hiN, fromL, tightN, maxOk]
      try simp (disch := omega) only [wI, wU64, wU32, wU8, Int.toNat_natCast, Int.reduceToNat, Option.getD_some, Option.getD_none, Nat.sub_zero, Nat.zero_add]
      refine ⟨?_, ?_⟩
      · try simp only [beq_iff_eq, beq_eq_false_iff_ne, bne_iff_ne, bne_eq_false_iff_eq, decide_eq_true_eq, decide_eq_false_iff_not, ne_eq, Bool.not_eq_true', Bool.not_eq_false', Bool.not_eq_eq_eq_not, Bool.not_true, Bool.not_false]
        try omega
      · have heq : decide (L = M) = true := by simp; exact list_eq he fun j hj => hk.2 j (by omega)
        rw [heq]
        refine SG.ret tab_ok Try.func18 rfl ?_
        intro ρ w' v hm hv
        exact Post.mk hm (.cv (.one (.lb true))) [] none [] hv rfl rows0 rfl (by simp)
  · refine SG.walk tab_ok mx 400 [true] [] ?_
    conv => whnf
    try dsimp only [rowL, rowN, growOk, hiN, fromL, tightN, maxOk]
    try simp (disch := omega) only [wI, wU64, wU32, wU8, Int.toNat_natCast, Int.reduceToNat, Option.getD_some, Option.getD_none, Nat.sub_zero, Nat.zero_add]
    refine ⟨?_, ?_⟩
    · simp; omega
    have hne : decide (L = M) = false := by simp; rintro rfl; exact he rfl
    rw [hne]
    refine SG.ret tab_ok Try.func18 rfl ?_
    intro ρ w' v hm hv
    exact Post.mk hm (.cv (.one (.lb false))) [] none [] hv rfl rows0 rfl (by simp)
set_option maxRecDepth 100000 in
theorem sameT {r q : Nat} {R Rq : Row} {L M : List Int} {l m : Int} (hr : Rs[r]? = some (some R)) (hR : RowLe R (rowI L)) (hq : Rs[q]? = some (some Rq)) (hRq : RowLe Rq (rowI M)) (hl : L.length ≤ 17592186044416) {b : Bool} (hb : decide (L = M ∧ l = m) = b) :
    CallOk Try.prog W B Rs 11 [turnV r l, turnV q m] (mkHd (.cv (.one (.lb b))) []) := by
  refine CallOk.enter Try.func11 (by kernel_rfl) rfl [r, q] [rowI L, rowI M] [turnV 0 l, turnV 1 m] rfl (rows2 (.ro_ hr hR rfl rfl (fun _ _ => rfl)) (.ro_ hq hRq rfl rfl (fun _ _ => rfl))) (fun r h => by cases h) rfl rfl ?_
  intro w blk hblk
  by_cases h : L = M
  · refine SG.walk tab_ok mx 400 [] [mkHd (.cv (.one (.lb true))) []] ?_
    conv => whnf
    try dsimp only [rowL, rowN, growOk, hiN, fromL, tightN, maxOk]
    try simp (disch := omega) only [wI, wU64, wU32, wU8, Int.toNat_natCast, Int.reduceToNat, Option.getD_some, Option.getD_none, Nat.sub_zero, Nat.zero_add]
    refine ⟨?_, ?_⟩
    · have h1 : decide (L = M) = true := by simpa using h
      rw [← h1]
      exact equalI (r := 0) (q := 1) rfl (.of rfl rfl (fun _ _ => rfl)) rfl (.of rfl rfl (fun _ _ => rfl)) hl
    · have h1 : (l == m) = b := by rw [← hb]; simp [h]; rfl
      rw [h1]
      refine SG.ret tab_ok Try.func11 rfl ?_
      intro ρ w' v hm hv
      exact Post.mk hm (.cv (.one (.lb b))) [] none [] hv rfl rows0 rfl (by simp)
  · refine SG.walk tab_ok mx 400 [] [mkHd (.cv (.one (.lb false))) []] ?_
    conv => whnf
    try dsimp only [rowL, rowN, growOk, hiN, fromL, tightN, maxOk]
    try simp (disch := omega) only [wI, wU64, wU32, wU8, Int.toNat_natCast, Int.reduceToNat, Option.getD_some, Option.getD_none, Nat.sub_zero, Nat.zero_add]
    refine ⟨?_, ?_⟩
    · have h1 : decide (L = M) = false := by simpa using h
      rw [← h1]
      exact equalI (r := 0) (q := 1) rfl (.of rfl rfl (fun _ _ => rfl)) rfl (.of rfl rfl (fun _ _ => rfl)) hl
    · have h1 : b = false := by rw [← hb]; simp [h]
      subst h1
      refine SG.ret tab_ok Try.func11 rfl ?_
      intro ρ w' v hm hv
      exact Post.mk hm (.cv (.one (.lb false))) [] none [] hv rfl rows0 rfl (by simp)
theorem nil_turn {ρ ρ3 : Env} {x p : Int} {vs : List Value} (h : reps ρ [.cv (.agg [.v (.slice none 0 0), .v (.int .i64 x)]), intV p] vs) (h3 : ρ3.σ 0 = some (.slice none 0 0)) : reps ρ3 [turnV 0 x, intV p] vs := by
  match vs, h with
  | [v, u], h =>
    obtain ⟨h1, h2, _⟩ := h
    refine ⟨?_, h2, trivial⟩
    simp only [SV.rep, Cv.den, dens, At.den, h3] at h1 ⊢
    exact h1
set_option maxRecDepth 100000 in
theorem shown1 : CallOk Try.prog W B Rs 9 [] (mkHd (.cv (.one (.lb true))) []) := by
  refine CallOk.enter Try.func9 (by kernel_rfl) rfl [] [] [] rfl rows0 (fun r h => by cases h) rfl rfl ?_
  intro w blk hblk
  refine SG.walk tab_ok mx 400 [] [mkHd (turnV 0 5) [newI [1]], mkHd (turnV 0 5) [newI [1, 2]]] ?_
  conv => whnf
  try dsimp only [rowL, rowN, growOk, hiN, fromL, tightN, maxOk]
  try simp (disch := omega) only [wI, wU64, wU32, wU8, Int.toNat_natCast, Int.reduceToNat, Option.getD_some, Option.getD_none, Nat.sub_zero, Nat.zero_add]
  refine ⟨?_, ?_⟩
  · refine ⟨add_new (r := 0) (L := [1]) (p := 2) rfl (.of rfl rfl (fun _ _ => rfl)) (by decide) (by decide), ?_⟩
    refine CallOk.of_nil 1 [turnV 0 0, intV 1] (add_new (r := 0) (L := []) (p := 1) rfl (.of rfl rfl (fun _ h => by cases h)) (by decide) (by decide)) ?_ rfl (by simp [closedRow, rowN, At.isV])
    intro ρ ρ3 vs h h3
    exact nil_turn h h3
  refine SG.good (fun _ _ => .loop) ?_
  refine SG.walk tab_ok mx 400 [true] [mkHd (turnV 0 4) [newI [1, 2]]] ?_
  conv => whnf
  try dsimp only [rowL, rowN, growOk, hiN, fromL, tightN, maxOk]
  try simp (disch := omega) only [wI, wU64, wU32, wU8, Int.toNat_natCast, Int.reduceToNat, Option.getD_some, Option.getD_none, Nat.sub_zero, Nat.zero_add]
  refine ⟨?_, ?_⟩
  · refine ⟨?_, by decide⟩
    exact spend_more (r := 1) (L := [1, 2]) (l := 5) rfl (.of rfl rfl (fun _ _ => rfl)) (by decide) (by decide) (by decide) (by decide)
  refine SG.good (fun _ _ => .inLoop) ?_
  refine SG.walk tab_ok mx 400 [true] [mkHd (turnV 0 3) [newI [1, 2]]] ?_
  conv => whnf
  try dsimp only [rowL, rowN, growOk, hiN, fromL, tightN, maxOk]
  try simp (disch := omega) only [wI, wU64, wU32, wU8, Int.toNat_natCast, Int.reduceToNat, Option.getD_some, Option.getD_none, Nat.sub_zero, Nat.zero_add]
  refine ⟨?_, ?_⟩
  · refine ⟨?_, by decide⟩
    exact spend_more (r := 2) (L := [1, 2]) (l := 4) rfl (.of rfl rfl (fun _ _ => rfl)) (by decide) (by decide) (by decide) (by decide)
  refine SG.good (fun _ _ => .inLoop) ?_
  refine SG.walk tab_ok mx 400 [true] [mkHd (turnV 0 2) [newI [1, 2]]] ?_
  conv => whnf
  try dsimp only [rowL, rowN, growOk, hiN, fromL, tightN, maxOk]
  try simp (disch := omega) only [wI, wU64, wU32, wU8, Int.toNat_natCast, Int.reduceToNat, Option.getD_some, Option.getD_none, Nat.sub_zero, Nat.zero_add]
  refine ⟨?_, ?_⟩
  · refine ⟨?_, by decide⟩
    exact spend_more (r := 3) (L := [1, 2]) (l := 3) rfl (.of rfl rfl (fun _ _ => rfl)) (by decide) (by decide) (by decide) (by decide)
  refine SG.good (fun _ _ => .inLoop) ?_
  refine SG.walk tab_ok mx 400 [true] [mkHd (turnV 0 1) [newI [1, 2]]] ?_
  conv => whnf
  try dsimp only [rowL, rowN, growOk, hiN, fromL, tightN, maxOk]
  try simp (disch := omega) only [wI, wU64, wU32, wU8, Int.toNat_natCast, Int.reduceToNat, Option.getD_some, Option.getD_none, Nat.sub_zero, Nat.zero_add]
  refine ⟨?_, ?_⟩
  · refine ⟨?_, by decide⟩
    exact spend_more (r := 4) (L := [1, 2]) (l := 2) rfl (.of rfl rfl (fun _ _ => rfl)) (by decide) (by decide) (by decide) (by decide)
  refine SG.good (fun _ _ => .inLoop) ?_
  refine SG.walk tab_ok mx 400 [false, true, true] [mkHd (.tup [.one (.v (.int .i64 1)), .one (.lb true)]) [], mkHd (turnV 0 5) [newI [2, 1]], mkHd (.tup [.one (.v (.int .i64 2)), .one (.lb true)]) []] ?_
  conv => whnf
  try dsimp only [rowL, rowN, growOk, hiN, fromL, tightN, maxOk]
  try simp (disch := omega) only [wI, wU64, wU32, wU8, Int.toNat_natCast, Int.reduceToNat, Option.getD_some, Option.getD_none, Nat.sub_zero, Nat.zero_add]
  refine ⟨?_, ?_⟩
  · exact ⟨rfl, rfl, first_some (r := 6) (L := [2, 1]) rfl (.of rfl rfl fun _ _ => rfl) (by decide), spend_last (r := 5) (x := 1) (L := [2]) (l := 1) rfl (.of rfl rfl fun _ _ => rfl) (by decide) (by decide) (by decide), first_some (r := 5) (L := [1, 2]) rfl (.of rfl rfl fun _ _ => rfl) (by decide), by decide⟩
  refine SG.ret tab_ok Try.func9 rfl ?_
  intro ρ w' v hm hv
  exact Post.mk hm (.cv (.one (.lb true))) [] none [] hv rfl rows0 rfl (by simp)
end
end Go.Proofs.Ytanckelknhiaaaa
