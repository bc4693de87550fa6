/- Channels and boxes: contracts. -/
import Derived.Test.YtecpnblhhjndgaaSxY
import Derived.Test.YtecpnblhhjndgaaSxT
namespace Go.Proofs.Ytecpnblhhjndgaa
open Go.Sx Go.RowKit
set_option linter.unusedVariables false
set_option linter.unusedSimpArgs false
theorem mx : Try.prog.follows .mixedOrders = true := Try.checked.mixed
abbrev MM := Int × ByteArray
abbrev mmC (x : MM) : List At := [.v (.int .u64 x.1), .v (.string x.2)]
abbrev mm0 : MM := (0, ⟨#[]⟩)
abbrev rowM (L : List MM) : Row := rowL 2 mmC mm0 L
abbrev newM (L : List MM) : Row := rowN 2 mmC mm0 L 37
abbrev rsV (r : Nat) : SV := .cv (.one (.rs r))
abbrev bpV (i : Nat) : SV := .cv (.one (.pt (.bp i 0)))
abbrev trueV : SV := .cv (.one (.lb true))
abbrev intV (x : Int) : SV := .cv (.one (.v (.int .i64 x)))
abbrev u64V (x : Int) : SV := .cv (.one (.v (.int .u64 x)))
abbrev strV (x : ByteArray) : SV := .cv (.one (.v (.string x)))
abbrev boxV (r : Nat) (l : Int) : SV := .cv (.agg [.rs r, .v (.int .i64 l)])
abbrev chanV (k f t s d : Int) : SV := .cv (.agg [.v (.int .i64 k), .v (.int .i64 f), .v (.int .i64 t), .v (.int .i64 s), .v (.int .i64 d)])
abbrev sentV (l e : Int) : SV := .tup [.agg [.rs 0, .v (.int .i64 l)], .one (.v (.int .i64 e))]
abbrev sentC (r : Nat) (l e : Int) : List Cv := [.agg [.rs r, .v (.int .i64 l)], .one (.v (.int .i64 e))]
abbrev tookV (l e : Int) (x : MM) : SV := .tup [.agg [.rs 0, .v (.int .i64 l)], .agg (mmC x), .one (.v (.int .i64 e))]
abbrev tookC (r : Nat) (l e : Int) (x : MM) : List Cv := [.agg [.rs r, .v (.int .i64 l)], .agg (mmC x), .one (.v (.int .i64 e))]
section
variable {W : Base} {B : List (Option (List At))} {Rs : List (Option Row)}
set_option maxRecDepth 100000 in
theorem ownB {r q : Nat} {R Rq : Row} {L M : List MM} {l : Int} (hr : Rs[r]? = some (some R)) (hR : RowLe R (rowM L)) (hq : Rs[q]? = some (some Rq)) (hRq : RowLe Rq (rowM M)) (hl : M.length ≤ 5864062014700) :
    CallOk Try.prog W B Rs 19 [boxV r l, rsV q] (mkHd (boxV 0 l) [newM M]) := by
  refine CallOk.enter Try.func19 (by kernel_rfl) rfl [r, q] [rowM L, rowM M] [boxV 0 l, rsV 1] rfl (rows2 (.ro_ hr hR rfl rfl (fun _ _ => rfl)) (.ro_ hq hRq rfl rfl (fun _ _ => rfl))) (fun r h => by cases h) rfl rfl ?_
  intro w blk hblk
  refine SG.walk tab_ok mx 400 [] [] ?_
  conv => whnf
  try dsimp only [rowL, rowN, growOk, hiN, fromL, tightN, maxOk]
  try simp (disch := omega) only [wI, wU64, wU32, wU8, Int.toNat_natCast, toNat_succ, toNat_pred, Int.reduceToNat, Option.getD_some, Option.getD_none, Nat.sub_zero, Nat.zero_add]
  refine ⟨?_, ?_⟩
  · repeat' apply And.intro
    all_goals first
      | trivial
      | rfl
      | omega
      | ((try dsimp only [rowL, rowN]); simp only [beq_iff_eq, beq_eq_false_iff_ne, bne_iff_ne, bne_eq_false_iff_eq, decide_eq_true_eq, decide_eq_false_iff_not, ne_eq, Bool.not_eq_true', Bool.not_eq_false', Bool.not_eq_eq_eq_not, Bool.not_true, Bool.not_false, Option.some.injEq, Option.getD_some, Option.getD_none]; omega)
      | (simp; done)
      | (simp; omega)
  refine SG.ret tab_ok Try.func19 rfl ?_
  intro ρ w' v hm hv
  exact Post.mk hm (boxV 0 l) [newM M] none [2] hv rfl (rows1 (.of rfl rfl rfl (by simp) rfl (fun i hi => rfl) (fun _ => rfl))) rfl (by simp)
theorem appM_row (L : List MM) (x : MM) (i : Nat) (hi : i < (L ++ [x]).length) : mmC ((L ++ [x]).getD i mm0) = if i < L.length then mmC (L.getD i mm0) else ([mmC x][i - L.length]?).getD [] := by
  simp only [List.getD_eq_getElem?_getD]
  split
  · rename_i h; rw [List.getElem?_append_left h]
  · rename_i h
    have h2 : i < L.length + 1 := by simpa using hi
    rw [List.getElem?_append_right (by omega), show i - L.length = 0 by omega]
    rfl
theorem oneM_row (x : MM) (i : Nat) (hi : i < 1) : mmC ([x].getD i mm0) = if i < 0 then [] else ([mmC x][i]?).getD [] := by
  rw [if_neg (by omega), show i = 0 by omega]; rfl
set_option maxRecDepth 100000 in
theorem sendBig {r : Nat} {R : Row} {L : List MM} {k f t s d l now : Int} {body : ByteArray} (hr : Rs[r]? = some (some R)) (hR : RowLe R (rowM L)) (hl : L.length ≤ 5864062014700) (hs : s < body.size) :
    CallOk Try.prog W B Rs 11 [chanV k f t s d, boxV r l, u64V now, strV body] (mkHd (sentV l 4) [newM L]) := by
  refine CallOk.enter Try.func11 (by kernel_rfl) rfl [r] [rowM L] [chanV k f t s d, boxV 0 l, u64V now, strV body] rfl (rows1 (.ro_ hr hR rfl rfl (fun _ _ => rfl))) (fun r h => by cases h) rfl rfl ?_
  intro w blk hblk
  refine SG.walk tab_ok mx 400 [true] [mkHd (boxV 0 l) [newM L]] ?_
  conv => whnf
  try dsimp only [rowL, rowN, growOk, hiN, fromL, tightN, maxOk]
  try simp (disch := omega) only [wI, wU64, wU32, wU8, Int.toNat_natCast, toNat_succ, toNat_pred, Int.reduceToNat, Option.getD_some, Option.getD_none, Nat.sub_zero, Nat.zero_add]
  refine ⟨?_, ?_⟩
  · exact ⟨ownB (r := 0) (q := 0) rfl (.of rfl rfl (fun _ _ => rfl)) rfl (.of rfl rfl (fun _ _ => rfl)) hl, by simpa using hs⟩
  refine SG.ret tab_ok Try.func11 rfl ?_
  intro ρ w' v hm hv
  exact Post.mk hm (sentV l 4) [newM L] none [1] hv rfl (rows1 (.of rfl rfl rfl rfl rfl (fun i hi => rfl) (fun _ => rfl))) rfl (by simp)
set_option maxRecDepth 100000 in
theorem sendRoom {r : Nat} {R : Row} {L : List MM} {k f t s d l now : Int} {body : ByteArray} (hr : Rs[r]? = some (some R)) (hR : RowLe R (rowM L)) (hl : L.length ≤ 5864062014700) (hs : body.size ≤ s) (hk : k ≠ 1) (hd : L.length < d) :
    CallOk Try.prog W B Rs 11 [chanV k f t s d, boxV r l, u64V now, strV body] (mkHd (sentV l 0) [newM (L ++ [(now, body)])]) := by
  refine CallOk.enter Try.func11 (by kernel_rfl) rfl [r] [rowM L] [chanV k f t s d, boxV 0 l, u64V now, strV body] rfl (rows1 (.ro_ hr hR rfl rfl (fun _ _ => rfl))) (fun r h => by cases h) rfl rfl ?_
  intro w blk hblk
  refine SG.walk tab_ok mx 400 [false, false, true] [] ?_
  conv => whnf
  try dsimp only [rowL, rowN, growOk, hiN, fromL, tightN, maxOk]
  try simp (disch := omega) only [wI, wU64, wU32, wU8, Int.toNat_natCast, toNat_succ, toNat_pred, Int.reduceToNat, Option.getD_some, Option.getD_none, Nat.sub_zero, Nat.zero_add]
  refine ⟨?_, ?_⟩
  · repeat' apply And.intro
    all_goals first
      | trivial
      | rfl
      | omega
      | ((try dsimp only [rowL, rowN]); simp only [beq_iff_eq, beq_eq_false_iff_ne, bne_iff_ne, bne_eq_false_iff_eq, decide_eq_true_eq, decide_eq_false_iff_not, ne_eq, Bool.not_eq_true', Bool.not_eq_false', Bool.not_eq_eq_eq_not, Bool.not_true, Bool.not_false, Option.some.injEq, Option.getD_some, Option.getD_none]; omega)
      | (simp; done)
      | (simp; omega)
  refine SG.ret tab_ok Try.func11 rfl ?_
  intro ρ w' v hm hv
  exact Post.mk hm (sentV l 0) [newM (L ++ [(now, body)])] none [3] hv rfl (rows1 (.of rfl rfl rfl (by simp) rfl (fun i hi => appM_row L (now, body) i (by simpa using hi)) (fun _ => rfl))) rfl (by simp)
set_option maxRecDepth 100000 in
theorem sendFull {r : Nat} {R : Row} {L : List MM} {k f t s d l now : Int} {body : ByteArray} (hr : Rs[r]? = some (some R)) (hR : RowLe R (rowM L)) (hl : L.length ≤ 5864062014700) (hs : body.size ≤ s) (hk : k ≠ 1) (hd : d ≤ L.length) :
    CallOk Try.prog W B Rs 11 [chanV k f t s d, boxV r l, u64V now, strV body] (mkHd (sentV (IntKind.wrap .i64 (l + 1)) 0) [newM L]) := by
  refine CallOk.enter Try.func11 (by kernel_rfl) rfl [r] [rowM L] [chanV k f t s d, boxV 0 l, u64V now, strV body] rfl (rows1 (.ro_ hr hR rfl rfl (fun _ _ => rfl))) (fun r h => by cases h) rfl rfl ?_
  intro w blk hblk
  refine SG.walk tab_ok mx 400 [false, false, false] [mkHd (boxV 0 l) [newM L]] ?_
  conv => whnf
  try dsimp only [rowL, rowN, growOk, hiN, fromL, tightN, maxOk]
  try simp (disch := omega) only [wI, wU64, wU32, wU8, Int.toNat_natCast, toNat_succ, toNat_pred, Int.reduceToNat, Option.getD_some, Option.getD_none, Nat.sub_zero, Nat.zero_add]
  refine ⟨?_, ?_⟩
  · exact ⟨ownB (r := 0) (q := 0) rfl (.of rfl rfl (fun _ _ => rfl)) rfl (.of rfl rfl (fun _ _ => rfl)) hl, by simpa using hd, by simpa using hk, by simpa using hs⟩
  refine SG.ret tab_ok Try.func11 rfl ?_
  intro ρ w' v hm hv
  exact Post.mk hm (sentV (IntKind.wrap .i64 (l + 1)) 0) [newM L] none [1] hv rfl (rows1 (.of rfl rfl rfl rfl rfl (fun i hi => rfl) (fun _ => rfl))) rfl (by simp)
set_option maxRecDepth 100000 in
theorem sendSample {r : Nat} {R : Row} {L : List MM} {f t s d l now : Int} {body : ByteArray} (hr : Rs[r]? = some (some R)) (hR : RowLe R (rowM L)) (hl : L.length ≤ 5864062014700) (hs : body.size ≤ s) :
    CallOk Try.prog W B Rs 11 [chanV 1 f t s d, boxV r l, u64V now, strV body] (mkHd (sentV l 0) [newM [(now, body)]]) := by
  refine CallOk.enter Try.func11 (by kernel_rfl) rfl [r] [rowM L] [chanV 1 f t s d, boxV 0 l, u64V now, strV body] rfl (rows1 (.ro_ hr hR rfl rfl (fun _ _ => rfl))) (fun r h => by cases h) rfl rfl ?_
  intro w blk hblk
  refine SG.walk tab_ok mx 400 [false, true] [] ?_
  conv => whnf
  try dsimp only [rowL, rowN, growOk, hiN, fromL, tightN, maxOk]
  try simp (disch := omega) only [wI, wU64, wU32, wU8, Int.toNat_natCast, toNat_succ, toNat_pred, Int.reduceToNat, Option.getD_some, Option.getD_none, Nat.sub_zero, Nat.zero_add]
  refine ⟨?_, ?_⟩
  · exact ⟨rfl, by simpa using hs⟩
  refine SG.nilRow 33 37 2 rfl ?_
  refine SG.walk tab_ok mx 400 [] [] ?_
  conv => whnf
  try dsimp only [rowL, rowN, growOk, hiN, fromL, tightN, maxOk]
  try simp (disch := omega) only [wI, wU64, wU32, wU8, Int.toNat_natCast, toNat_succ, toNat_pred, Int.reduceToNat, Option.getD_some, Option.getD_none, Nat.sub_zero, Nat.zero_add]
  refine ⟨?_, ?_⟩
  · repeat' apply And.intro
    all_goals first
      | trivial
      | rfl
      | omega
      | ((try dsimp only [rowL, rowN]); simp only [beq_iff_eq, beq_eq_false_iff_ne, bne_iff_ne, bne_eq_false_iff_eq, decide_eq_true_eq, decide_eq_false_iff_not, ne_eq, Bool.not_eq_true', Bool.not_eq_false', Bool.not_eq_eq_eq_not, Bool.not_true, Bool.not_false, Option.some.injEq, Option.getD_some, Option.getD_none]; omega)
      | (simp; done)
      | (simp; omega)
  refine SG.ret tab_ok Try.func11 rfl ?_
  intro ρ w' v hm hv
  exact Post.mk hm (sentV l 0) [newM [(now, body)]] none [4] hv rfl (rows1 (.of rfl rfl rfl rfl rfl (fun i hi => oneM_row (now, body) i hi) (fun _ => rfl))) rfl (by simp)
set_option maxRecDepth 100000 in
theorem peekSome {r : Nat} {R : Row} {L : List MM} {k f t s d l : Int} (hr : Rs[r]? = some (some R)) (hR : RowLe R (rowM L)) (h0 : 0 < L.length) :
    CallOk Try.prog W B Rs 16 [chanV k f t s d, boxV r l] (mkHd (.tup [.agg (mmC (L.getD 0 mm0)), .one (.lb true)]) []) := by
  refine CallOk.enter Try.func16 (by kernel_rfl) rfl [r] [rowM L] [chanV k f t s d, boxV 0 l] rfl (rows1 (.ro_ hr hR rfl rfl (fun _ _ => rfl))) (fun r h => by cases h) rfl rfl ?_
  intro w blk hblk
  refine SG.walk tab_ok mx 400 [false] [] ?_
  conv => whnf
  try dsimp only [rowL, rowN, growOk, hiN, fromL, tightN, maxOk]
  try simp (disch := omega) only [wI, wU64, wU32, wU8, Int.toNat_natCast, toNat_succ, toNat_pred, Int.reduceToNat, Option.getD_some, Option.getD_none, Nat.sub_zero, Nat.zero_add]
  refine ⟨?_, ?_⟩
  · try simp only [beq_iff_eq, beq_eq_false_iff_ne, bne_iff_ne, bne_eq_false_iff_eq, decide_eq_true_eq, decide_eq_false_iff_not, ne_eq, Bool.not_eq_true', Bool.not_eq_false', Bool.not_eq_eq_eq_not, Bool.not_true, Bool.not_false, true_and, and_true]
    try omega
  refine SG.ret tab_ok Try.func16 rfl ?_
  intro ρ w' v hm hv
  exact Post.mk hm (.tup [.agg (mmC (L.getD 0 mm0)), .one (.lb true)]) [] none [] hv rfl rows0 rfl (by simp)
set_option maxRecDepth 100000 in
theorem peekNone {r : Nat} {R : Row} {k f t s d l : Int} (hr : Rs[r]? = some (some R)) (hR : RowLe R (rowM [])) :
    CallOk Try.prog W B Rs 16 [chanV k f t s d, boxV r l] (mkHd (.tup [.agg (mmC mm0), .one (.lb false)]) []) := by
  refine CallOk.enter Try.func16 (by kernel_rfl) rfl [r] [rowM []] [chanV k f t s d, boxV 0 l] rfl (rows1 (.ro_ hr hR rfl rfl (fun _ _ => rfl))) (fun r h => by cases h) rfl rfl ?_
  intro w blk hblk
  refine SG.walk tab_ok mx 400 [true] [] ?_
  conv => whnf
  try dsimp only [rowL, rowN, growOk, hiN, fromL, tightN, maxOk]
  try simp (disch := omega) only [wI, wU64, wU32, wU8, Int.toNat_natCast, toNat_succ, toNat_pred, Int.reduceToNat, Option.getD_some, Option.getD_none, Nat.sub_zero, Nat.zero_add]
  refine ⟨?_, ?_⟩
  · rfl
  refine SG.ret tab_ok Try.func16 rfl ?_
  intro ρ w' v hm hv
  exact Post.mk hm (.tup [.agg (mmC mm0), .one (.lb false)]) [] none [] hv rfl rows0 rfl (by simp)
set_option maxRecDepth 100000 in
theorem takeNone {r : Nat} {R : Row} {k f t s d l : Int} (hr : Rs[r]? = some (some R)) (hR : RowLe R (rowM [])) :
    CallOk Try.prog W B Rs 13 [chanV k f t s d, boxV r l] (mkHd (tookV l 7 mm0) [newM []]) := by
  refine CallOk.enter Try.func13 (by kernel_rfl) rfl [r] [rowM []] [chanV k f t s d, boxV 0 l] rfl (rows1 (.ro_ hr hR rfl rfl (fun _ _ => rfl))) (fun r h => by cases h) rfl rfl ?_
  intro w blk hblk
  refine SG.walk tab_ok mx 400 [] [mkHd (.tup [.agg (mmC mm0), .one (.lb false)]) [], mkHd (boxV 0 l) [newM []]] ?_
  conv => whnf
  try dsimp only [rowL, rowN, growOk, hiN, fromL, tightN, maxOk]
  try simp (disch := omega) only [wI, wU64, wU32, wU8, Int.toNat_natCast, toNat_succ, toNat_pred, Int.reduceToNat, Option.getD_some, Option.getD_none, Nat.sub_zero, Nat.zero_add]
  refine ⟨?_, ?_⟩
  · repeat' apply And.intro
    all_goals first
      | exact ownB (r := 0) (q := 0) rfl (.of rfl rfl (fun _ _ => rfl)) rfl (.of rfl rfl (fun _ _ => rfl)) (by simp)
      | exact peekNone (r := 0) rfl (.of rfl rfl (fun _ _ => rfl))
      | trivial
      | rfl
      | omega
      | ((try dsimp only [rowL, rowN]); simp only [beq_iff_eq, beq_eq_false_iff_ne, bne_iff_ne, bne_eq_false_iff_eq, decide_eq_true_eq, decide_eq_false_iff_not, ne_eq, Bool.not_eq_true', Bool.not_eq_false', Bool.not_eq_eq_eq_not, Bool.not_true, Bool.not_false, Option.some.injEq, Option.getD_some, Option.getD_none]; omega)
      | (simp; done)
      | (simp; omega)
  refine SG.ret tab_ok Try.func13 rfl ?_
  intro ρ w' v hm hv
  exact Post.mk hm (tookV l 7 mm0) [newM []] none [1] hv rfl (rows1 (.of rfl rfl rfl rfl rfl (fun i hi => rfl) (fun _ => rfl))) rfl (by simp)
set_option maxRecDepth 100000 in
theorem takeSample {r : Nat} {R : Row} {L : List MM} {f t s d l : Int} (hr : Rs[r]? = some (some R)) (hR : RowLe R (rowM L)) (hl : L.length ≤ 5864062014700) (h0 : 0 < L.length) :
    CallOk Try.prog W B Rs 13 [chanV 1 f t s d, boxV r l] (mkHd (tookV l 0 (L.getD 0 mm0)) [newM L]) := by
  refine CallOk.enter Try.func13 (by kernel_rfl) rfl [r] [rowM L] [chanV 1 f t s d, boxV 0 l] rfl (rows1 (.ro_ hr hR rfl rfl (fun _ _ => rfl))) (fun r h => by cases h) rfl rfl ?_
  intro w blk hblk
  refine SG.walk tab_ok mx 400 [true] [mkHd (.tup [.agg (mmC (L.getD 0 mm0)), .one (.lb true)]) [], mkHd (boxV 0 l) [newM L]] ?_
  conv => whnf
  try dsimp only [rowL, rowN, growOk, hiN, fromL, tightN, maxOk]
  try simp (disch := omega) only [wI, wU64, wU32, wU8, Int.toNat_natCast, toNat_succ, toNat_pred, Int.reduceToNat, Option.getD_some, Option.getD_none, Nat.sub_zero, Nat.zero_add]
  refine ⟨?_, ?_⟩
  · repeat' apply And.intro
    all_goals first
      | exact ownB (r := 0) (q := 0) rfl (.of rfl rfl (fun _ _ => rfl)) rfl (.of rfl rfl (fun _ _ => rfl)) hl
      | exact peekSome (r := 0) rfl (.of rfl rfl (fun _ _ => rfl)) h0
      | trivial
      | rfl
      | omega
      | ((try dsimp only [rowL, rowN]); simp only [beq_iff_eq, beq_eq_false_iff_ne, bne_iff_ne, bne_eq_false_iff_eq, decide_eq_true_eq, decide_eq_false_iff_not, ne_eq, Bool.not_eq_true', Bool.not_eq_false', Bool.not_eq_eq_eq_not, Bool.not_true, Bool.not_false, Option.some.injEq, Option.getD_some, Option.getD_none]; omega)
      | (simp; done)
      | (simp; omega)
  refine SG.ret tab_ok Try.func13 rfl ?_
  intro ρ w' v hm hv
  exact Post.mk hm (tookV l 0 (L.getD 0 mm0)) [newM L] none [1] hv rfl (rows1 (.of rfl rfl rfl rfl rfl (fun i hi => rfl) (fun _ => rfl))) rfl (by simp)
set_option maxRecDepth 100000 in
theorem takeSome {r : Nat} {R : Row} {x : MM} {L : List MM} {k f t s d l : Int} (hr : Rs[r]? = some (some R)) (hR : RowLe R (rowM (x :: L))) (hl : (x :: L).length ≤ 5864062014700) (hk : k ≠ 1) :
    CallOk Try.prog W B Rs 13 [chanV k f t s d, boxV r l] (mkHd (tookV l 0 x) [newM L]) := by
  refine CallOk.enter Try.func13 (by kernel_rfl) rfl [r] [rowM (x :: L)] [chanV k f t s d, boxV 0 l] rfl (rows1 (.ro_ hr hR rfl rfl (fun _ _ => rfl))) (fun r h => by cases h) rfl rfl ?_
  intro w blk hblk
  refine SG.walk tab_ok mx 400 [false] [mkHd (.tup [.agg (mmC x), .one (.lb true)]) [], mkHd (boxV 0 l) [newM L]] ?_
  conv => whnf
  try dsimp only [rowL, rowN, growOk, hiN, fromL, tightN, maxOk]
  try simp (disch := omega) only [wI, wU64, wU32, wU8, Int.toNat_natCast, toNat_succ, toNat_pred, Int.reduceToNat, Option.getD_some, Option.getD_none, Nat.sub_zero, Nat.zero_add]
  refine ⟨?_, ?_⟩
  · repeat' apply And.intro
    all_goals first
      | exact ownB (r := 0) (q := 1) (M := L) rfl (.of rfl rfl (fun _ _ => rfl)) rfl (.of rfl (by simp) (fun i hi => by simp [Nat.add_comm])) (by simp at hl; omega)
      | exact peekSome (L := x :: L) (r := 0) rfl (.of rfl rfl (fun _ _ => rfl)) (by simp)
      | trivial
      | rfl
      | omega
      | ((try dsimp only [rowL, rowN]); simp only [beq_iff_eq, beq_eq_false_iff_ne, bne_iff_ne, bne_eq_false_iff_eq, decide_eq_true_eq, decide_eq_false_iff_not, ne_eq, Bool.not_eq_true', Bool.not_eq_false', Bool.not_eq_eq_eq_not, Bool.not_true, Bool.not_false, Option.some.injEq, Option.getD_some, Option.getD_none]; omega)
      | (simp; done)
      | (simp; omega)
  refine SG.ret tab_ok Try.func13 rfl ?_
  intro ρ w' v hm hv
  exact Post.mk hm (tookV l 0 x) [newM L] none [2] hv rfl (rows1 (.of rfl rfl rfl rfl rfl (fun i hi => rfl) (fun _ => rfl))) rfl (by simp)
end
end Go.Proofs.Ytecpnblhhjndgaa
