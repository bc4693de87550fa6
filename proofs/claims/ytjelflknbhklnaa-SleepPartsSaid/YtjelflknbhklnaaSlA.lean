/- Alarms: who stands behind whom. -/
import Derived.Test.YtjelflknbhklnaaElB
namespace Go.Proofs.Ytjelflknbhklnaa
open Go.Sx Go.RowKit
set_option linter.unusedVariables false
set_option linter.unusedSimpArgs false
/-- x stands behind a. -/
def beh (a x : E) : Bool := decide (x.1 > a.1) || (x.1 == a.1 && decide (x.2 > a.2))
abbrev oneE (a : E) : Row := ⟨2, 1, fun _ => eC a, none, false, false⟩
section
variable {W : Base} {B : List (Option (List At))} {Rs : List (Option Row)}
set_option maxRecDepth 100000 in
theorem behindE {x a : E} : CallOk Try.prog W B Rs 25 [eV x, eV a] (mkHd (.cv (.one (.v (.bool (beh a x))))) []) := by
  refine CallOk.enter Try.func25 (by kernel_rfl) rfl [] [] [eV x, eV a] rfl rows0 (fun r h => by cases h) rfl rfl ?_
  intro w blk hblk
  by_cases h1 : x.1 > a.1
  · have hb : beh a x = true := by simp [beh, h1]
    refine SG.walk tab_ok mx 400 [true] [] ?_
    conv => whnf
    try dsimp only [rowL, rowN, growOk, hiN, fromL, tightN, maxOk]
    try simp (disch := omega) only [wI, wU64, wU32, wU8, Int.toNat_natCast, toNat_succ, toNat_pred, Int.reduceToNat, Option.getD_some, Option.getD_none, Nat.sub_zero, Nat.zero_add]
    refine ⟨?_, ?_⟩
    · simpa using h1
    · rw [hb]
      refine SG.ret tab_ok Try.func25 rfl ?_
      intro ρ w' v hm hv
      exact Post.mk hm (.cv (.one (.v (.bool true)))) [] none [] hv rfl rows0 rfl (by simp)
  · by_cases h2 : x.1 = a.1
    · have hb : beh a x = decide (x.2 > a.2) := by simp [beh, h1, h2]
      refine SG.walk tab_ok mx 400 [false, true] [] ?_
      conv => whnf
      try dsimp only [rowL, rowN, growOk, hiN, fromL, tightN, maxOk]
      try simp (disch := omega) only [wI, wU64, wU32, wU8, Int.toNat_natCast, toNat_succ, toNat_pred, Int.reduceToNat, Option.getD_some, Option.getD_none, Nat.sub_zero, Nat.zero_add]
      refine ⟨?_, ?_⟩
      · exact ⟨by simpa using h2, by simpa using h1⟩
      · rw [hb]
        refine SG.ret tab_ok Try.func25 rfl ?_
        intro ρ w' v hm hv
        exact Post.mk hm (.cv (.one (.v (.bool (decide (x.2 > a.2)))))) [] none [] hv rfl rows0 rfl (by simp)
    · have hb : beh a x = false := by simp [beh, h1, h2]
      refine SG.walk tab_ok mx 400 [false, false] [] ?_
      conv => whnf
      try dsimp only [rowL, rowN, growOk, hiN, fromL, tightN, maxOk]
      try simp (disch := omega) only [wI, wU64, wU32, wU8, Int.toNat_natCast, toNat_succ, toNat_pred, Int.reduceToNat, Option.getD_some, Option.getD_none, Nat.sub_zero, Nat.zero_add]
      refine ⟨?_, ?_⟩
      · exact ⟨by simpa using h2, by simpa using h1⟩
      · rw [hb]
        refine SG.ret tab_ok Try.func25 rfl ?_
        intro ρ w' v hm hv
        exact Post.mk hm (.cv (.one (.v (.bool false)))) [] none [] hv rfl rows0 rfl (by simp)
set_option maxRecDepth 100000 in
theorem add_says (a : E) : Says 24 (oneE a) (beh a) := by
  intro W B Rs x hr
  refine CallOk.enter Try.func24 (by kernel_rfl) rfl [1] [oneE a] [eV x, .cv (.one (.pt (.rp 0 0 0 0)))] rfl (rows1 (.ro_ hr (.refl _) rfl rfl (fun _ _ => rfl))) (fun r h => by cases h) rfl rfl ?_
  intro w blk hblk
  refine SG.walk tab_ok mx 400 [] [mkHd (.cv (.one (.v (.bool (beh a x))))) []] ?_
  conv => whnf
  try dsimp only [rowL, rowN, growOk, hiN, fromL, tightN, maxOk]
  try simp (disch := omega) only [wI, wU64, wU32, wU8, Int.toNat_natCast, toNat_succ, toNat_pred, Int.reduceToNat, Option.getD_some, Option.getD_none, Nat.sub_zero, Nat.zero_add]
  refine ⟨?_, ?_⟩
  · exact ⟨behindE, by omega⟩
  · refine SG.ret tab_ok Try.func24 rfl ?_
    intro ρ w' v hm hv
    exact Post.mk hm (.cv (.one (.v (.bool (beh a x))))) [] none [] hv rfl rows0 rfl (by simp)
set_option maxRecDepth 100000 in
theorem drop_says (n : Int) : Says 28 ⟨1, 1, fun _ => [.v (.int .i64 n)], none, false, false⟩ (fun x => x.2 == n) := by
  intro W B Rs x hr
  refine CallOk.enter Try.func28 (by kernel_rfl) rfl [1] [⟨1, 1, fun _ => [.v (.int .i64 n)], none, false, false⟩] [eV x, .cv (.one (.pt (.rp 0 0 0 0)))] rfl (rows1 (.ro_ hr (.refl _) rfl rfl (fun _ _ => rfl))) (fun r h => by cases h) rfl rfl ?_
  intro w blk hblk
  refine SG.walk tab_ok mx 400 [] [] ?_
  conv => whnf
  try dsimp only [rowL, rowN, growOk, hiN, fromL, tightN, maxOk]
  try simp (disch := omega) only [wI, wU64, wU32, wU8, Int.toNat_natCast, toNat_succ, toNat_pred, Int.reduceToNat, Option.getD_some, Option.getD_none, Nat.sub_zero, Nat.zero_add]
  refine ⟨?_, ?_⟩
  · omega
  · refine SG.ret tab_ok Try.func28 rfl ?_
    intro ρ w' v hm hv
    exact Post.mk hm (.cv (.one (.v (.bool (x.2 == n))))) [] none [] hv rfl rows0 rfl (by simp)
theorem ins_cells {a : E} : ∀ i, i < 1 → eC ([a].getD i e0) = eC a := fun i hi => by
  match i with
  | 0 => rfl
set_option maxRecDepth 100000 in
theorem addE {r : Nat} {R : Row} {L : List E} {a : E} (hr : Rs[r]? = some (some R)) (hR : RowLe R (rowE L)) (hl : L.length ≤ 8796093022100) :
    CallOk Try.prog W B Rs 13 [rsV r, eV a] (mkHd (rsV 0) [newE (L.take (L.findIdx (beh a)) ++ a :: L.drop (L.findIdx (beh a)))]) := by
  refine CallOk.enter Try.func13 (by kernel_rfl) rfl [r] [rowE L] [rsV 0, eV a] rfl (rows1 (.ro_ hr hR rfl rfl (fun _ _ => rfl))) (fun r h => by cases h) rfl rfl ?_
  intro w blk hblk
  refine SG.walk tab_ok mx 400 [] [] ?_
  conv => whnf
  try dsimp only [rowL, rowN, growOk, hiN, fromL, tightN, maxOk]
  try simp (disch := omega) only [wI, wU64, wU32, wU8, Int.toNat_natCast, toNat_succ, toNat_pred, Int.reduceToNat, Option.getD_some, Option.getD_none, Nat.sub_zero, Nat.zero_add]
  refine ⟨?_, ?_⟩
  · trivial
  refine SG.boxRow 0 rfl ?_
  have hle := List.findIdx_le_length (p := beh a) (xs := L)
  have hIx : ∀ {W : Base} {B : List (Option (List At))} {Rs : List (Option Row)} {R : Row}, Rs[0]? = some (some R) → RowLe R (rowE L) → Rs[1]? = some (some ⟨2, 1, fun _ => eC a, none, true, true⟩) → CallOk Try.prog W B Rs 23 [rsV 0, .cv (.one (.clo 24 [.rp 1 0 2 0]))] (mkHd (intV (ixP (beh a) L)) []) := fun h1 h2 h3 =>
    indexC (add_says a) rfl rfl (fun _ _ => rfl) h1 h2 h3 (.of rfl rfl (fun _ _ => rfl)) (by omega)
  by_cases h : L.findIdx (beh a) < L.length
  · have hix : ixP (beh a) L = (L.findIdx (beh a) : Int) := if_pos h
    generalize L.findIdx (beh a) = m at *
    refine SG.walk tab_ok mx 400 [false] [mkHd (intV (m : Int)) [], mkHd (rsV 0) [newE L], mkHd (rsV 0) [newE (L.take m ++ a :: L.drop m)] (some 2)] ?_
    conv => whnf
    try dsimp only [rowL, rowN, growOk, hiN, fromL, tightN, maxOk]
    try simp (disch := omega) only [wI, wU64, wU32, wU8, Int.toNat_natCast, toNat_succ, toNat_pred, Int.reduceToNat, Option.getD_some, Option.getD_none, Nat.sub_zero, Nat.zero_add]
    refine ⟨?_, ?_⟩
    · refine ⟨insert_c eDen eLen (fun _ => rfl) (r := 2) (q := 3) (L := L) (x := a) (i := m) rfl (.refl _) rfl ⟨rfl, rfl, .inr rfl, (fun h => by cases h), (fun _ => rfl), fun i hi => ?_⟩ (by decide) (by omega) (by omega), ⟨by omega, by omega⟩, cloneE (r := 0) rfl (.of rfl rfl (fun _ _ => rfl)) (by omega), by simp only [decide_eq_false_iff_not]; omega, by rw [← hix]; exact hIx rfl (.of rfl rfl (fun _ _ => rfl)) rfl⟩
      match i, hi with
      | 0, _ => rfl
    · refine SG.ret tab_ok Try.func13 rfl ?_
      intro ρ w' v hm hv
      exact Post.mk hm (rsV 0) [newE (L.take m ++ a :: L.drop m)] none [4] hv rfl (rows1 (.of rfl rfl rfl rfl rfl (fun i hi => rfl) (fun _ => rfl))) rfl (by simp)
  · have hix : ixP (beh a) L = -1 := if_neg h
    have hm : L.findIdx (beh a) = L.length := by omega
    rw [hm]
    refine SG.walk tab_ok mx 400 [true] [mkHd (intV (-1)) [], mkHd (rsV 0) [newE L], mkHd (rsV 0) [newE (L.take L.length ++ a :: L.drop L.length)] (some 2)] ?_
    conv => whnf
    try dsimp only [rowL, rowN, growOk, hiN, fromL, tightN, maxOk]
    try simp (disch := omega) only [wI, wU64, wU32, wU8, Int.toNat_natCast, toNat_succ, toNat_pred, Int.reduceToNat, Option.getD_some, Option.getD_none, Nat.sub_zero, Nat.zero_add]
    refine ⟨?_, ?_⟩
    · refine ⟨insert_c eDen eLen (fun _ => rfl) (r := 2) (q := 3) (L := L) (x := a) (i := L.length) rfl (.refl _) rfl ⟨rfl, rfl, .inr rfl, (fun h => by cases h), (fun _ => rfl), fun i hi => ?_⟩ (by decide) (by omega) (by omega), ⟨by omega, by omega⟩, cloneE (r := 0) rfl (.of rfl rfl (fun _ _ => rfl)) (by omega), rfl, by rw [← hix]; exact hIx rfl (.of rfl rfl (fun _ _ => rfl)) rfl⟩
      match i, hi with
      | 0, _ => rfl
    · refine SG.ret tab_ok Try.func13 rfl ?_
      intro ρ w' v hm hv
      exact Post.mk hm (rsV 0) [newE (L.take L.length ++ a :: L.drop L.length)] none [4] hv rfl (rows1 (.of rfl rfl rfl rfl rfl (fun i hi => rfl) (fun _ => rfl))) rfl (by simp)
set_option maxRecDepth 100000 in
theorem dropE {r : Nat} {R : Row} {L : List E} {n : Int} (hr : Rs[r]? = some (some R)) (hR : RowLe R (rowE L)) (hl : L.length ≤ 8796093022100) :
    CallOk Try.prog W B Rs 15 [rsV r, intV n] (mkHd (rsV 0) [frE (L.filter (fun x => !(x.2 == n)))]) := by
  refine CallOk.enter Try.func15 (by kernel_rfl) rfl [r] [rowE L] [rsV 0, intV n] rfl (rows1 (.ro_ hr hR rfl rfl (fun _ _ => rfl))) (fun r h => by cases h) rfl rfl ?_
  intro w blk hblk
  refine SG.walk tab_ok mx 400 [] [] ?_
  conv => whnf
  try dsimp only [rowL, rowN, growOk, hiN, fromL, tightN, maxOk]
  try simp (disch := omega) only [wI, wU64, wU32, wU8, Int.toNat_natCast, toNat_succ, toNat_pred, Int.reduceToNat, Option.getD_some, Option.getD_none, Nat.sub_zero, Nat.zero_add]
  refine ⟨?_, ?_⟩
  · trivial
  refine SG.boxRow 0 rfl ?_
  refine SG.walk tab_ok mx 400 [] [mkHd (rsV 0) [newE L], mkHd (rsV 0) [frE (L.filter (fun x => !(x.2 == n)))] (some 2)] ?_
  conv => whnf
  try dsimp only [rowL, rowN, growOk, hiN, fromL, tightN, maxOk]
  try simp (disch := omega) only [wI, wU64, wU32, wU8, Int.toNat_natCast, toNat_succ, toNat_pred, Int.reduceToNat, Option.getD_some, Option.getD_none, Nat.sub_zero, Nat.zero_add]
  refine ⟨?_, ?_⟩
  · exact ⟨deleteC (drop_says n) rfl rfl (fun _ _ => rfl) (r := 2) (q := 1) rfl (.refl _) rfl (.of rfl rfl (fun _ _ => rfl)) (by decide) (by omega), cloneE (r := 0) rfl (.of rfl rfl (fun _ _ => rfl)) (by omega)⟩
  · refine SG.ret tab_ok Try.func15 rfl ?_
    intro ρ w' v hm hv
    exact Post.mk hm (rsV 0) [frE (L.filter (fun x => !(x.2 == n)))] none [3] hv rfl (rows1 ⟨⟨_, rfl, ⟨rfl, rfl, .inl rfl, (fun h => by cases h), id, fun q hq => rfl⟩, rfl⟩, fun _ _ => rfl⟩) rfl (by simp)
end
end Go.Proofs.Ytjelflknbhklnaa
