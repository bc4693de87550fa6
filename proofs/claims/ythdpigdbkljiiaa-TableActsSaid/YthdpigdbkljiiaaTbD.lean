/- Tables: adoption; what is right for the document. -/
import Derived.Test.YthdpigdbkljiiaaTbC
namespace Go.Proofs.Ythdpigdbkljiiaa
open Go.Sx Go.RowKit
set_option linter.unusedVariables false
set_option linter.unusedSimpArgs false
def adF (n to : Int) (x : E) : E := if x.par = n then { x with par := to } else x
def adL (n to : Int) (L : List E) (k : Nat) : List E := (List.range L.length).map fun i => if i < k then adF n to (L.getD i e0) else L.getD i e0
theorem adL_len (n to : Int) (L : List E) (k : Nat) : (adL n to L k).length = L.length := by simp [adL]
theorem adL_get {n to : Int} {L : List E} {k i : Nat} (hi : i < L.length) : (adL n to L k).getD i e0 = if i < k then adF n to (L.getD i e0) else L.getD i e0 := by
  simp only [adL, List.getD_eq_getElem?_getD, List.getElem?_map, List.getElem?_range hi]; rfl
theorem adL_all (n to : Int) (L : List E) : adL n to L L.length = L.map (adF n to) := by
  refine elist_eq (by simp [adL]) fun j hj => ?_
  rw [adL_len] at hj
  rw [adL_get hj, if_pos hj]
  simp [List.getD_eq_getElem?_getD, hj]
theorem adL_zero (n to : Int) (L : List E) : adL n to L 0 = L := by
  refine elist_eq (by simp [adL]) fun j hj => ?_
  rw [adL_len] at hj
  rw [adL_get hj, if_neg (by omega)]
theorem ad_cells {n to : Int} {L : List E} {k : Nat} (hk : k < L.length) (hp : (L.getD k e0).par = n) (i : Nat) (hi : i < L.length) : eC ((adL n to L (k + 1)).getD i e0) = if i = k then pasted (eC ((adL n to L k).getD i e0)) 1 (Cv.one (.v (.int .i64 to))).cells else eC ((adL n to L k).getD i e0) := by
  rw [adL_get hi, adL_get hi]
  by_cases h : i = k
  · subst h
    rw [if_pos (Nat.lt_succ_self _), if_pos rfl, if_neg (Nat.lt_irrefl _), adF, if_pos hp]
    rfl
  · rw [if_neg h]
    by_cases h2 : i < k
    · rw [if_pos h2, if_pos (by omega)]
    · rw [if_neg h2, if_neg (by omega)]
theorem ad_same {n to : Int} {L : List E} {k : Nat} (hk : k < L.length) (hp : (L.getD k e0).par ≠ n) (i : Nat) (hi : i < L.length) : eC ((adL n to L (k + 1)).getD i e0) = eC ((adL n to L k).getD i e0) := by
  rw [adL_get hi, adL_get hi]
  by_cases h : i = k
  · subst h
    rw [if_pos (Nat.lt_succ_self _), if_neg (Nat.lt_irrefl _), adF, if_neg hp]
  · by_cases h2 : i < k
    · rw [if_pos h2, if_pos (by omega)]
    · rw [if_neg h2, if_neg (by omega)]
section
variable {W : Base} {B : List (Option (List At))} {Rs : List (Option Row)}
set_option maxRecDepth 100000 in
theorem adoptT {r : Nat} {R : Row} {L : List E} {n to : Int} (hr : Rs[r]? = some (some R)) (hR : RowLe R (rowE L)) (hl : L.length ≤ 837723144960) :
    CallOk Try.prog W B Rs 21 [rsV r, intV n, intV to] (hdE (adL n to L L.length)) := by
  refine CallOk.enter Try.func21 (by kernel_rfl) rfl [r] [rowE L] [rsV 0, intV n, intV to] rfl (rows1 (.ro_ hr hR rfl rfl (fun _ _ => rfl))) (fun r h => by cases h) rfl rfl ?_
  intro w blk hblk
  refine SG.walk tab_ok mx 400 [] [hdE (adL n to L 0)] ?_
  conv => whnf
  try dsimp only [rowL, rowN, growOk, hiN, fromL, tightN, maxOk]
  try simp (disch := omega) only [wI, wU64, wU32, wU8, Int.toNat_natCast, toNat_succ, toNat_pred, Int.reduceToNat, Option.getD_some, Option.getD_none, Nat.sub_zero, Nat.zero_add]
  refine ⟨?_, ?_⟩
  · rw [adL_zero]; exact cloneE (r := 0) rfl (.of rfl rfl (fun _ _ => rfl)) (by omega)
  have hlen := adL_len n to L
  refine SG.loop (fun k : Nat => ⟨puts (List.replicate (Try.f21).ntmps .any) [(0, rsV 1), (1, intV n), (2, intV to), (11, intV (adL n to L 0).length), (12, intV k)], [], [some (rowE L), some (newE (adL n to L k))], []⟩) (fun k => k ≤ L.length) (fun k => L.length - k) (0) (Nat.zero_le _) (fun h => SG.sub [] [0, 1] ⟨?_, ?_, ?_, by decide, rfl, rfl, rfl, ?_⟩ h) ?_
  · repeat' (first | exact trivial | exact rfl | refine And.intro ?_ ?_)
  · repeat' (first | exact trivial | exact rfl | refine And.intro ?_ ?_)
  · repeat' (first | exact trivial | refine ⟨⟨_, rfl, ⟨rfl, rfl, .inl rfl, (fun h => by first | exact h | cases h), (fun h => by first | exact h | cases h), fun _ _ => rfl⟩, fun _ _ => rfl⟩, ?_⟩ | refine ⟨⟨_, rfl, ⟨rfl, rfl, .inr rfl, (fun h => by first | exact h | cases h), (fun h => by first | exact h | cases h), fun _ _ => rfl⟩, fun _ _ => rfl⟩, ?_⟩ | refine ⟨⟨_, rfl, ⟨rfl, rfl, .inr rfl, (fun h => by first | exact h | cases h), (fun h => by first | exact h | cases h), fun i hi => absurd hi (Nat.not_lt_zero i)⟩, fun i hi => absurd hi (Nat.not_lt_zero i)⟩, ?_⟩ | refine ⟨⟨_, rfl, ⟨rfl, rfl, .inl rfl, (fun h => by first | exact h | cases h), (fun h => by first | exact h | cases h), fun i hi => ren_closed (hQc i hi)⟩, fun i hi => inn_closed (hQc i hi)⟩, ?_⟩)
  · repeat' (first | exact trivial | exact rfl | refine And.intro ?_ ?_)
  intro k hk next
  have hl0 := hlen 0
  have hlk := hlen k
  have hl1 := hlen (k + 1)
  by_cases hlt : k < L.length
  · have hk0 : (adL n to L k).getD k e0 = L.getD k e0 := by rw [adL_get hlt, if_neg (Nat.lt_irrefl _)]
    by_cases hp : (L.getD k e0).par = n
    · refine SG.walk tab_ok mx 400 [true, true] [] ?_
      conv => whnf
      try dsimp only [rowL, rowN, growOk, hiN, fromL, tightN, maxOk]
      try simp (disch := omega) only [wI, wU64, wU32, wU8, Int.toNat_natCast, toNat_succ, toNat_pred, Int.reduceToNat, Option.getD_some, Option.getD_none, Nat.sub_zero, Nat.zero_add]
      refine ⟨?_, ?_⟩
      · simp only [hk0, hlk, hl0]
        try simp only [beq_iff_eq, beq_eq_false_iff_ne, bne_iff_ne, bne_eq_false_iff_eq, decide_eq_true_eq, decide_eq_false_iff_not, ne_eq, Bool.not_eq_true', Bool.not_eq_false', Bool.not_eq_eq_eq_not, Bool.not_true, Bool.not_false, true_and, and_true]
        try omega
      refine SG.sub [] [0, 1] ⟨?_, ?_, ?_, by decide, rfl, rfl, rfl, ?_⟩ (next (k + 1) hlt (by omega))
      · repeat' (first | exact trivial | exact rfl | refine And.intro ?_ ?_)
      · repeat' (first | exact trivial | exact rfl | refine And.intro ?_ ?_)
      · first | refine ⟨⟨_, rfl, ⟨rfl, rfl, .inl rfl, (fun h => by first | exact h | cases h), (fun h => by first | exact h | cases h), fun _ _ => rfl⟩, fun _ _ => rfl⟩, ?_⟩ | refine ⟨⟨_, rfl, ⟨rfl, rfl, .inr rfl, (fun h => by first | exact h | cases h), (fun h => by first | exact h | cases h), fun _ _ => rfl⟩, fun _ _ => rfl⟩, ?_⟩ | refine ⟨⟨_, rfl, ⟨rfl, rfl, .inr rfl, (fun h => by first | exact h | cases h), (fun h => by first | exact h | cases h), fun i hi => absurd hi (Nat.not_lt_zero i)⟩, fun i hi => absurd hi (Nat.not_lt_zero i)⟩, ?_⟩ | refine ⟨⟨_, rfl, ⟨rfl, rfl, .inl rfl, (fun h => by first | exact h | cases h), (fun h => by first | exact h | cases h), fun i hi => ren_closed (hQc i hi)⟩, fun i hi => inn_closed (hQc i hi)⟩, ?_⟩
        refine ⟨⟨_, rfl, ⟨rfl, by show (adL n to L (k + 1)).length = (adL n to L k).length; omega, .inr rfl, (fun h => by cases h), (fun h => rfl), fun i hi => ad_cells (n := n) (to := to) hlt hp i (by have hi' : i < (adL n to L k).length := hi; omega)⟩, fun _ _ => rfl⟩, ?_⟩
        exact trivial
      · repeat' (first | exact trivial | exact rfl | refine And.intro ?_ ?_)
    · refine SG.walk tab_ok mx 400 [true, false] [] ?_
      conv => whnf
      try dsimp only [rowL, rowN, growOk, hiN, fromL, tightN, maxOk]
      try simp (disch := omega) only [wI, wU64, wU32, wU8, Int.toNat_natCast, toNat_succ, toNat_pred, Int.reduceToNat, Option.getD_some, Option.getD_none, Nat.sub_zero, Nat.zero_add]
      refine ⟨?_, ?_⟩
      · simp only [hk0, hlk, hl0]
        try simp only [beq_iff_eq, beq_eq_false_iff_ne, bne_iff_ne, bne_eq_false_iff_eq, decide_eq_true_eq, decide_eq_false_iff_not, ne_eq, Bool.not_eq_true', Bool.not_eq_false', Bool.not_eq_eq_eq_not, Bool.not_true, Bool.not_false, true_and, and_true]
        try omega
      refine SG.sub [] [0, 1] ⟨?_, ?_, ?_, by decide, rfl, rfl, rfl, ?_⟩ (next (k + 1) hlt (by omega))
      · repeat' (first | exact trivial | exact rfl | refine And.intro ?_ ?_)
      · repeat' (first | exact trivial | exact rfl | refine And.intro ?_ ?_)
      · first | refine ⟨⟨_, rfl, ⟨rfl, rfl, .inl rfl, (fun h => by first | exact h | cases h), (fun h => by first | exact h | cases h), fun _ _ => rfl⟩, fun _ _ => rfl⟩, ?_⟩ | refine ⟨⟨_, rfl, ⟨rfl, rfl, .inr rfl, (fun h => by first | exact h | cases h), (fun h => by first | exact h | cases h), fun _ _ => rfl⟩, fun _ _ => rfl⟩, ?_⟩ | refine ⟨⟨_, rfl, ⟨rfl, rfl, .inr rfl, (fun h => by first | exact h | cases h), (fun h => by first | exact h | cases h), fun i hi => absurd hi (Nat.not_lt_zero i)⟩, fun i hi => absurd hi (Nat.not_lt_zero i)⟩, ?_⟩ | refine ⟨⟨_, rfl, ⟨rfl, rfl, .inl rfl, (fun h => by first | exact h | cases h), (fun h => by first | exact h | cases h), fun i hi => ren_closed (hQc i hi)⟩, fun i hi => inn_closed (hQc i hi)⟩, ?_⟩
        refine ⟨⟨_, rfl, ⟨rfl, by show (adL n to L (k + 1)).length = (adL n to L k).length; omega, .inr rfl, (fun h => by cases h), (fun h => rfl), fun i hi => ad_same (n := n) (to := to) hlt hp i (by have hi' : i < (adL n to L k).length := hi; omega)⟩, fun _ _ => rfl⟩, ?_⟩
        exact trivial
      · repeat' (first | exact trivial | exact rfl | refine And.intro ?_ ?_)
  · have hkl : k = L.length := by omega
    subst hkl
    refine SG.walk tab_ok mx 400 [false] [] ?_
    conv => whnf
    try dsimp only [rowL, rowN, growOk, hiN, fromL, tightN, maxOk]
    try simp (disch := omega) only [wI, wU64, wU32, wU8, Int.toNat_natCast, toNat_succ, toNat_pred, Int.reduceToNat, Option.getD_some, Option.getD_none, Nat.sub_zero, Nat.zero_add]
    refine ⟨?_, ?_⟩
    · try simp only [beq_iff_eq, beq_eq_false_iff_ne, bne_iff_ne, bne_eq_false_iff_eq, decide_eq_true_eq, decide_eq_false_iff_not, ne_eq, Bool.not_eq_true', Bool.not_eq_false', Bool.not_eq_eq_eq_not, Bool.not_true, Bool.not_false, true_and, and_true]
      try omega
    refine SG.ret tab_ok Try.func21 rfl ?_
    intro ρ w' v hm hv
    exact Post.mk hm (rsV 0) [newE (adL n to L L.length)] none [1] hv rfl (rows1 (.of rfl rfl rfl rfl rfl (fun i hi => rfl) (fun _ => rfl))) rfl (by simp)
end
theorem ad_kids {n to : Int} (h : n ≠ to) (L : List E) : kidsL n (adL n to L L.length) = [] := by
  rw [adL_all]
  unfold kidsL
  rw [List.map_eq_nil_iff, List.filter_eq_nil_iff]
  intro x hx
  obtain ⟨y, _, rfl⟩ := List.mem_map.1 hx
  simp only [parP, adF, beq_iff_eq]
  split
  · exact fun e => h e.symm
  · assumption
end Go.Proofs.Ythdpigdbkljiiaa
