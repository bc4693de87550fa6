/- Heaps: what is taken. -/
import Derived.Test.YtpbpgkkfpfenhaaHpB
namespace Go.Proofs.Ytpbpgkkfpfenhaa
open Go.Sx Go.RowKit
set_option linter.unusedVariables false
set_option linter.unusedSimpArgs false
theorem clo_any {ρ : Env} {x : SV} {F : FuncId} {q c : Nat} {vs : List Value} (h : reps ρ [x, .cv (.one (.clo F [.rp q 0 c 0]))] vs) : reps ρ [x, .cv (.one (.clo F [.rp q 0 0 0]))] vs := by
  match vs, h with
  | [v, u], ⟨h1, h2, _⟩ =>
    refine ⟨h1, ?_, trivial⟩
    simp only [SV.rep, Cv.den, At.den, ptDens, rp_zero (a := c) (b := 0)] at h2 ⊢
    exact h2
abbrev hdHeap (sz : Int) (L : List E) : Hd := mkHd (heapV 0 sz) [newE L]
abbrev hdTake (sz a e : Int) (L : List E) : Hd := mkHd (.tup [.agg [.v (.int .i64 sz), .rs 0], .one (.v (.int .i64 a)), .one (.v (.int .i64 e))]) [newE L]
/-- Who stands behind a place. -/
def beh (a : Int) (x : E) : Bool := decide (x.1 > a)
def insAt (a n who : Int) (L : List E) : List E := L.take (L.findIdx (beh a)) ++ (a, n, who) :: L.drop (L.findIdx (beh a))
section
variable {W : Base} {B : List (Option (List At))} {Rs : List (Option Row)}
theorem indexC {F : FuncId} {cs : Nat} {Q : Row} {p : E → Bool} (hs : Says F Q p) (hQo : Q.own = none) (hQn : Q.new = false) (hQc : closedRow Q) {r q : Nat} {R Rq : Row} {L : List E} (hr : Rs[r]? = some (some R)) (hR : RowLe R (rowE L)) (hq : Rs[q]? = some (some Rq)) (hRq : RowLe Rq Q) (hl : L.length ≤ 5864062014700) :
    CallOk Try.prog W B Rs 30 [rsV r, .cv (.one (.clo F [.rp q 0 cs 0]))] (mkHd (intV (ixP p L)) []) :=
  (indexP hs hQo hQn hQc hr hR hq hRq hl).args fun ρ vs h => clo_any h
set_option maxRecDepth 100000 in
theorem ownH {r : Nat} {R : Row} {L : List E} {sz : Int} (hr : Rs[r]? = some (some R)) (hR : RowLe R (rowE L)) (hl : L.length ≤ 5864062014700) : CallOk Try.prog W B Rs 28 [heapV r sz] (hdHeap sz L) := by
  refine CallOk.enter Try.func28 (by kernel_rfl) rfl [r] [rowE L] [heapV 0 sz] rfl (rows1 (.ro_ hr hR rfl rfl (fun _ _ => rfl))) (fun r h => by cases h) rfl rfl ?_
  intro w blk hblk
  refine SG.walk tab_ok mx 400 [] [mkHd (rsV 0) [newE L]] ?_
  conv => whnf
  try dsimp only [rowL, rowN, growOk, hiN, fromL, tightN, maxOk]
  try simp (disch := omega) only [wI, wU64, wU32, wU8, Int.toNat_natCast, toNat_succ, toNat_pred, Int.reduceToNat, Option.getD_some, Option.getD_none, Nat.sub_zero, Nat.zero_add]
  refine ⟨?_, ?_⟩
  · exact cloneE (r := 0) rfl (.of rfl rfl (fun _ _ => rfl)) hl
  refine SG.ret tab_ok Try.func28 rfl ?_
  intro ρ w' v hm hv
  exact Post.mk hm (heapV 0 sz) [newE L] none [1] hv rfl (rows1 (.of rfl rfl rfl rfl rfl (fun i hi => rfl) (fun _ => rfl))) rfl (by simp)
set_option maxRecDepth 100000 in
theorem take_says (n : Int) : Says 31 ⟨1, 1, fun _ => [.v (.int .i64 n)], none, false, false⟩ (beh n) := by
  intro W B Rs x hr
  refine CallOk.enter Try.func31 (by kernel_rfl) rfl [1] [⟨1, 1, fun _ => [.v (.int .i64 n)], none, false, false⟩] [eV x, .cv (.one (.pt (.rp 0 0 0 0)))] rfl (rows1 (.ro_ hr (.refl _) rfl rfl (fun _ _ => rfl))) (fun r h => by cases h) rfl rfl ?_
  intro w blk hblk
  refine SG.walk tab_ok mx 400 [] [] ?_
  conv => whnf
  try dsimp only [rowL, rowN, growOk, hiN, fromL, tightN, maxOk]
  try simp (disch := omega) only [wI, wU64, wU32, wU8, Int.toNat_natCast, toNat_succ, toNat_pred, Int.reduceToNat, Option.getD_some, Option.getD_none, Nat.sub_zero, Nat.zero_add]
  refine ⟨?_, ?_⟩
  · omega
  · refine SG.ret tab_ok Try.func31 rfl ?_
    intro ρ w' v hm hv
    exact Post.mk hm (.cv (.one (.v (.bool (beh n x))))) [] none [] hv rfl rows0 rfl (by simp)
set_option maxRecDepth 100000 in
theorem takeArg {r : Nat} {R : Row} {L : List E} {sz n who : Int} (hr : Rs[r]? = some (some R)) (hR : RowLe R (rowE L)) (hl : L.length ≤ 5864062014700) (hs : sz ≤ 9223372036854775807) (ht : n < 1 ∨ ¬ Rt sz L) :
    CallOk Try.prog W B Rs 12 [heapV r sz, intV n, intV who] (hdTake sz 0 1 L) := by
  refine CallOk.enter Try.func12 (by kernel_rfl) rfl [r] [rowE L] [heapV 0 sz, intV n, intV who] rfl (rows1 (.ro_ hr hR rfl rfl (fun _ _ => rfl))) (fun r h => by cases h) rfl rfl ?_
  intro w blk hblk
  by_cases hn : n < 1
  · refine SG.walk tab_ok mx 400 [true, true] [hdHeap sz L] ?_
    conv => whnf
    try dsimp only [rowL, rowN, growOk, hiN, fromL, tightN, maxOk]
    try simp (disch := omega) only [wI, wU64, wU32, wU8, Int.toNat_natCast, toNat_succ, toNat_pred, Int.reduceToNat, Option.getD_some, Option.getD_none, Nat.sub_zero, Nat.zero_add]
    refine ⟨?_, ?_⟩
    · exact ⟨ownH (r := 0) rfl (.of rfl rfl (fun _ _ => rfl)) hl, by simpa using hn⟩
    refine SG.ret tab_ok Try.func12 rfl ?_
    intro ρ w' v hm hv
    exact Post.mk hm (.tup [.agg [.v (.int .i64 sz), .rs 0], .one (.v (.int .i64 0)), .one (.v (.int .i64 1))]) [newE L] none [1] hv rfl (rows1 (.of rfl rfl rfl rfl rfl (fun i hi => rfl) (fun _ => rfl))) rfl (by simp)
  · refine SG.walk tab_ok mx 400 [false] [mkHd (.cv (.one (.lb false))) [], hdHeap sz L] ?_
    conv => whnf
    try dsimp only [rowL, rowN, growOk, hiN, fromL, tightN, maxOk]
    try simp (disch := omega) only [wI, wU64, wU32, wU8, Int.toNat_natCast, toNat_succ, toNat_pred, Int.reduceToNat, Option.getD_some, Option.getD_none, Nat.sub_zero, Nat.zero_add]
    refine ⟨?_, ?_⟩
    · exact ⟨ownH (r := 0) rfl (.of rfl rfl (fun _ _ => rfl)) hl, rightH (r := 0) rfl (.of rfl rfl (fun _ _ => rfl)) hl hs ⟨(fun h => by cases h), fun h => (ht.resolve_left hn h).elim⟩, by simpa using hn⟩
    refine SG.ret tab_ok Try.func12 rfl ?_
    intro ρ w' v hm hv
    exact Post.mk hm (.tup [.agg [.v (.int .i64 sz), .rs 0], .one (.v (.int .i64 0)), .one (.v (.int .i64 1))]) [newE L] none [1] hv rfl (rows1 (.of rfl rfl rfl rfl rfl (fun i hi => rfl) (fun _ => rfl))) rfl (by simp)
set_option maxRecDepth 100000 in
theorem takeFull {r : Nat} {R : Row} {L : List E} {sz n who : Int} (hr : Rs[r]? = some (some R)) (hR : RowLe R (rowE L)) (hl : L.length ≤ 5864062014700) (hs : sz ≤ 9223372036854775807) (hn : 1 ≤ n) (ht : Rt sz L) (hf : fit n sz L = none) :
    CallOk Try.prog W B Rs 12 [heapV r sz, intV n, intV who] (hdTake sz 0 5 L) := by
  refine CallOk.enter Try.func12 (by kernel_rfl) rfl [r] [rowE L] [heapV 0 sz, intV n, intV who] rfl (rows1 (.ro_ hr hR rfl rfl (fun _ _ => rfl))) (fun r h => by cases h) rfl rfl ?_
  intro w blk hblk
  have hp := @placeH ⟨w, blk, [], []⟩ [some [.v (.int .i64 sz), .rs 0], some [.v (.int .i64 0), .v (.slice none 0 0)]] [some (rowE L)] 0 _ L sz n rfl (.refl _) hl hs ht
  rw [hf] at hp
  refine SG.walk tab_ok mx 400 [false] [mkHd (.cv (.one (.lb true))) [], mkHd (.tup [.one (.v (.int .i64 0)), .one (.lb false)]) [], hdHeap sz L] ?_
  conv => whnf
  try dsimp only [rowL, rowN, growOk, hiN, fromL, tightN, maxOk]
  try simp (disch := omega) only [wI, wU64, wU32, wU8, Int.toNat_natCast, toNat_succ, toNat_pred, Int.reduceToNat, Option.getD_some, Option.getD_none, Nat.sub_zero, Nat.zero_add]
  refine ⟨?_, ?_⟩
  · exact ⟨ownH (r := 0) rfl (.of rfl rfl (fun _ _ => rfl)) hl, hp, rightH (r := 0) rfl (.of rfl rfl (fun _ _ => rfl)) hl hs ⟨fun _ => ht, fun _ => rfl⟩, by simpa using hn⟩
  refine SG.ret tab_ok Try.func12 rfl ?_
  intro ρ w' v hm hv
  exact Post.mk hm (.tup [.agg [.v (.int .i64 sz), .rs 0], .one (.v (.int .i64 0)), .one (.v (.int .i64 5))]) [newE L] none [1] hv rfl (rows1 (.of rfl rfl rfl rfl rfl (fun i hi => rfl) (fun _ => rfl))) rfl (by simp)
set_option maxRecDepth 100000 in
theorem takeOk {r : Nat} {R : Row} {L : List E} {sz n who : Int} {h : E} (hr : Rs[r]? = some (some R)) (hR : RowLe R (rowE L)) (hl : L.length ≤ 5864062014700) (hs : sz ≤ 9223372036854775807) (hn : 1 ≤ n) (ht : Rt sz L) (hf : fit n sz L = some h) :
    CallOk Try.prog W B Rs 12 [heapV r sz, intV n, intV who] (hdTake sz h.1 0 (insAt h.1 n who L)) := by
  refine CallOk.enter Try.func12 (by kernel_rfl) rfl [r] [rowE L] [heapV 0 sz, intV n, intV who] rfl (rows1 (.ro_ hr hR rfl rfl (fun _ _ => rfl))) (fun r h => by cases h) rfl rfl ?_
  intro w blk hblk
  have hp := @placeH ⟨w, blk, [], []⟩ [some [.v (.int .i64 sz), .rs 0], some [.v (.int .i64 0), .v (.slice none 0 0)]] [some (rowE L)] 0 _ L sz n rfl (.refl _) hl hs ht
  rw [hf] at hp
  refine SG.walk tab_ok mx 400 [false] [mkHd (.cv (.one (.lb true))) [], mkHd (.tup [.one (.v (.int .i64 h.1)), .one (.lb true)]) []] ?_
  conv => whnf
  try dsimp only [rowL, rowN, growOk, hiN, fromL, tightN, maxOk]
  try simp (disch := omega) only [wI, wU64, wU32, wU8, Int.toNat_natCast, toNat_succ, toNat_pred, Int.reduceToNat, Option.getD_some, Option.getD_none, Nat.sub_zero, Nat.zero_add]
  refine ⟨?_, ?_⟩
  · exact ⟨hp, rightH (r := 0) rfl (.of rfl rfl (fun _ _ => rfl)) hl hs ⟨fun _ => ht, fun _ => rfl⟩, by simpa using hn⟩
  refine SG.boxRow 2 rfl ?_
  refine SG.norm ?_
  conv => whnf
  have hle := List.findIdx_le_length (p := beh h.1) (xs := L)
  have hIx : ∀ {W : Base} {B : List (Option (List At))} {Rs : List (Option Row)} {R : Row}, Rs[0]? = some (some R) → RowLe R (rowE L) → Rs[1]? = some (some ⟨1, 1, fun _ => [.v (.int .i64 h.1)], none, true, true⟩) → CallOk Try.prog W B Rs 30 [rsV 0, .cv (.one (.clo 31 [.rp 1 0 1 0]))] (mkHd (intV (ixP (beh h.1) L)) []) := fun h1 h2 h3 =>
    indexC (take_says h.1) rfl rfl (fun _ _ => rfl) h1 h2 h3 (.of rfl rfl (fun _ _ => rfl)) (by omega)
  by_cases hlt : L.findIdx (beh h.1) < L.length
  · have hix : ixP (beh h.1) L = (L.findIdx (beh h.1) : Int) := if_pos hlt
    unfold insAt
    generalize L.findIdx (beh h.1) = m at *
    refine SG.walk tab_ok mx 400 [false] [mkHd (intV (m : Int)) [], hdHeap sz L, mkHd (rsV 0) [newE (L.take m ++ (h.1, n, who) :: L.drop m)] (some 2)] ?_
    conv => whnf
    try dsimp only [rowL, rowN, growOk, hiN, fromL, tightN, maxOk]
    try simp (disch := omega) only [wI, wU64, wU32, wU8, Int.toNat_natCast, toNat_succ, toNat_pred, Int.reduceToNat, Option.getD_some, Option.getD_none, Nat.sub_zero, Nat.zero_add]
    refine ⟨?_, ?_⟩
    · refine ⟨⟨by omega, by omega⟩, insert_c eDen eLen (fun _ => rfl) (r := 2) (q := 3) (L := L) (x := (h.1, n, who)) (i := m) rfl (.refl _) rfl ⟨rfl, rfl, .inr rfl, (fun h => by cases h), (fun _ => rfl), fun i hi => ?_⟩ (by decide) (by omega) (by omega), ⟨by omega, by omega⟩, ownH (r := 0) rfl (.of rfl rfl (fun _ _ => rfl)) hl, by simp only [decide_eq_false_iff_not]; omega, by rw [← hix]; exact hIx rfl (.of rfl rfl (fun _ _ => rfl)) rfl⟩
      match i, hi with
      | 0, _ => rfl
    · refine SG.ret tab_ok Try.func12 rfl ?_
      intro ρ w' v hm hv
      exact Post.mk hm (.tup [.agg [.v (.int .i64 sz), .rs 0], .one (.v (.int .i64 h.1)), .one (.v (.int .i64 0))]) [newE (L.take m ++ (h.1, n, who) :: L.drop m)] none [4] hv rfl (rows1 (.of rfl rfl rfl rfl rfl (fun i hi => rfl) (fun _ => rfl))) rfl (by simp)
  · have hix : ixP (beh h.1) L = -1 := if_neg hlt
    have hm : L.findIdx (beh h.1) = L.length := by omega
    unfold insAt
    rw [hm]
    refine SG.walk tab_ok mx 400 [true] [mkHd (intV (-1)) [], hdHeap sz L, mkHd (rsV 0) [newE (L.take L.length ++ (h.1, n, who) :: L.drop L.length)] (some 2)] ?_
    conv => whnf
    try dsimp only [rowL, rowN, growOk, hiN, fromL, tightN, maxOk]
    try simp (disch := omega) only [wI, wU64, wU32, wU8, Int.toNat_natCast, toNat_succ, toNat_pred, Int.reduceToNat, Option.getD_some, Option.getD_none, Nat.sub_zero, Nat.zero_add]
    refine ⟨?_, ?_⟩
    · refine ⟨⟨by omega, by omega⟩, insert_c eDen eLen (fun _ => rfl) (r := 2) (q := 3) (L := L) (x := (h.1, n, who)) (i := L.length) rfl (.refl _) rfl ⟨rfl, rfl, .inr rfl, (fun h => by cases h), (fun _ => rfl), fun i hi => ?_⟩ (by decide) (by omega) (by omega), ⟨by omega, by omega⟩, ownH (r := 0) rfl (.of rfl rfl (fun _ _ => rfl)) hl, rfl, by rw [← hix]; exact hIx rfl (.of rfl rfl (fun _ _ => rfl)) rfl⟩
      match i, hi with
      | 0, _ => rfl
    · refine SG.ret tab_ok Try.func12 rfl ?_
      intro ρ w' v hm hv
      exact Post.mk hm (.tup [.agg [.v (.int .i64 sz), .rs 0], .one (.v (.int .i64 h.1)), .one (.v (.int .i64 0))]) [newE (L.take L.length ++ (h.1, n, who) :: L.drop L.length)] none [4] hv rfl (rows1 (.of rfl rfl rfl rfl rfl (fun i hi => rfl) (fun _ => rfl))) rfl (by simp)
end
end Go.Proofs.Ytpbpgkkfpfenhaa
