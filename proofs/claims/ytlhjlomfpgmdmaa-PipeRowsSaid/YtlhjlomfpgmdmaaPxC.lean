/- An end that is counted: the law's walk. -/
import Derived.Test.YtlhjlomfpgmdmaaPxB
namespace Go.Proofs.Ytlhjlomfpgmdmaa
open Go.Sx Go.RowKit
set_option linter.unusedVariables false
set_option linter.unusedSimpArgs false
section
variable {W : Base} {B : List (Option (List At))} {Rs : List (Option Row)}
abbrev endV (p : Int) (b : Bool) : SV := .cv (.agg [.v (.int .i64 p), .v (.bool b)])
def wrap64 (x : Int) : Int := IntKind.wrap .i64 x
def cntX (b : Bool) (y : Int) (x : PP) : PP := if b = true then (x.1, x.2.1, wrap64 (x.2.2 + y)) else (x.1, wrap64 (x.2.1 + y), x.2.2)
/-- A row of pipes with an end counted. -/
def cntL (L : List PP) (p : Int) (b : Bool) (y : Int) : List PP := if 1 ≤ p ∧ p ≤ L.length then L.set (p - 1).toNat (cntX b y (L.getD (p - 1).toNat pp0)) else L
theorem cntL_len (L : List PP) (p : Int) (b : Bool) (y : Int) : (cntL L p b y).length = L.length := by unfold cntL; split <;> simp
set_option maxRecDepth 100000 in
theorem countP {r : Nat} {R : Row} {L : List PP} {p y : Int} {b : Bool} (hr : Rs[r]? = some (some R)) (hR : RowLe R (rowP L)) (hl : L.length ≤ 4398046511104) (hp : -9223372036854775808 ≤ p) :
    CallOk Try.prog W B Rs 22 [rsV r, endV p b, intV y] (mkHd (rsV 0) [newP (cntL L p b y)]) := by
  refine CallOk.enter Try.func22 (by kernel_rfl) rfl [r] [rowP L] [rsV 0, endV p b, intV y] rfl (rows1 (.ro_ hr hR rfl rfl (fun _ _ => rfl))) (fun r h => by cases h) rfl rfl ?_
  intro w blk hblk
  by_cases h1 : p < 1
  · have e : cntL L p b y = L := if_neg (by omega)
    rw [e]
    refine SG.walk tab_ok mx 400 [true] [mkHd (rsV 0) [newP L]] ?_
    conv => whnf
    try dsimp only [rowL, rowN, growOk, hiN, fromL, tightN, maxOk]
    try simp (disch := omega) only [wI, wU64, wU32, wU8, Int.toNat_natCast, toNat_succ, toNat_pred, Int.reduceToNat, Option.getD_some, Option.getD_none, Nat.sub_zero, Nat.zero_add]
    refine ⟨?_, ?_⟩
    · exact ⟨by simpa using h1, cloneP (r := 0) rfl (.of rfl rfl (fun _ _ => rfl)) hl⟩
    refine SG.ret tab_ok Try.func22 rfl ?_
    intro ρ w' v hm hv
    exact Post.mk hm (rsV 0) [newP L] none [1] hv rfl (rows1 (.of rfl rfl rfl rfl rfl (fun i hi => rfl) (fun _ => rfl))) rfl (by simp)
  by_cases h2 : L.length < p
  · have e : cntL L p b y = L := if_neg (by omega)
    rw [e]
    refine SG.walk tab_ok mx 400 [false, true] [mkHd (rsV 0) [newP L]] ?_
    conv => whnf
    try dsimp only [rowL, rowN, growOk, hiN, fromL, tightN, maxOk]
    try simp (disch := omega) only [wI, wU64, wU32, wU8, Int.toNat_natCast, toNat_succ, toNat_pred, Int.reduceToNat, Option.getD_some, Option.getD_none, Nat.sub_zero, Nat.zero_add]
    refine ⟨?_, ?_⟩
    · exact ⟨by simpa using h2, by simpa using h1, cloneP (r := 0) rfl (.of rfl rfl (fun _ _ => rfl)) hl⟩
    refine SG.ret tab_ok Try.func22 rfl ?_
    intro ρ w' v hm hv
    exact Post.mk hm (rsV 0) [newP L] none [1] hv rfl (rows1 (.of rfl rfl rfl rfl rfl (fun i hi => rfl) (fun _ => rfl))) rfl (by simp)
  have hk : (p - 1).toNat < L.length := by omega
  have hcell : ∀ i, ppC ((cntL L p b y).getD i pp0) = if i = (p - 1).toNat then ppC (cntX b y (L.getD (p - 1).toNat pp0)) else ppC (L.getD i pp0) := fun i => by
    rw [cntL, if_pos (by omega)]; exact set_cells L _ _ hk i
  cases b
  · refine SG.walk tab_ok mx 400 [false, false, false] [mkHd (rsV 0) [newP L]] ?_
    conv => whnf
    try dsimp only [rowL, rowN, growOk, hiN, fromL, tightN, maxOk]
    try simp (disch := omega) only [wI, wU64, wU32, wU8, Int.toNat_natCast, toNat_succ, toNat_pred, Int.reduceToNat, Option.getD_some, Option.getD_none, Nat.sub_zero, Nat.zero_add]
    refine ⟨?_, ?_⟩
    · exact ⟨by omega, by omega, by omega, by omega, trivial, by simp only [decide_eq_false_iff_not]; omega, by simpa using h1, cloneP (r := 0) rfl (.of rfl rfl (fun _ _ => rfl)) hl⟩
    have hc2 : ∀ i, ppC ((cntL L p false y).getD i pp0) = if i = (p - 1).toNat then pasted (ppC (L.getD i pp0)) 1 [.v (.int .i64 (IntKind.wrap .i64 ((L.getD (p - 1).toNat pp0).2.1 + y)))] else ppC (L.getD i pp0) := fun i => by
      rw [hcell]; split
      · rename_i h; subst h; rfl
      · rfl
    refine SG.ret tab_ok Try.func22 rfl ?_
    intro ρ w' v hm hv
    exact Post.mk hm (rsV 0) [newP (cntL L p false y)] none [1] hv rfl (rows1 (.of rfl rfl rfl (cntL_len L p false y) rfl (fun i hi => hc2 i) (fun _ => rfl))) rfl (by simp)
  · refine SG.walk tab_ok mx 400 [false, false, true] [mkHd (rsV 0) [newP L]] ?_
    conv => whnf
    try dsimp only [rowL, rowN, growOk, hiN, fromL, tightN, maxOk]
    try simp (disch := omega) only [wI, wU64, wU32, wU8, Int.toNat_natCast, toNat_succ, toNat_pred, Int.reduceToNat, Option.getD_some, Option.getD_none, Nat.sub_zero, Nat.zero_add]
    refine ⟨?_, ?_⟩
    · exact ⟨by omega, by omega, by omega, by omega, trivial, by simp only [decide_eq_false_iff_not]; omega, by simpa using h1, cloneP (r := 0) rfl (.of rfl rfl (fun _ _ => rfl)) hl⟩
    have hc2 : ∀ i, ppC ((cntL L p true y).getD i pp0) = if i = (p - 1).toNat then pasted (ppC (L.getD i pp0)) 2 [.v (.int .i64 (IntKind.wrap .i64 ((L.getD (p - 1).toNat pp0).2.2 + y)))] else ppC (L.getD i pp0) := fun i => by
      rw [hcell]; split
      · rename_i h; subst h; rfl
      · rfl
    refine SG.ret tab_ok Try.func22 rfl ?_
    intro ρ w' v hm hv
    exact Post.mk hm (rsV 0) [newP (cntL L p true y)] none [1] hv rfl (rows1 (.of rfl rfl rfl (cntL_len L p true y) rfl (fun i hi => hc2 i) (fun _ => rfl))) rfl (by simp)
end
theorem cnt_back1 {x : PP} (h : InB x) (b : Bool) : cntX b (-1) (cntX b 1 x) = x := by
  obtain ⟨s, a, c⟩ := x
  obtain ⟨⟨h1, h2⟩, h3, h4⟩ := h
  dsimp only at h1 h2 h3 h4
  have key : ∀ z : Int, -9223372036854775808 ≤ z → z ≤ 9223372036854775807 → wrap64 (wrap64 (z + 1) + -1) = z := by
    intro z z1 z2
    by_cases hz : z = 9223372036854775807
    · subst hz; decide
    · have e1 : wrap64 (z + 1) = z + 1 := wI (by omega) (by omega)
      have e2 : wrap64 z = z := wI (by omega) (by omega)
      rw [e1, show z + 1 + -1 = z by omega, e2]
  cases b
  · simp only [cntX, Bool.false_eq_true, if_false, key a h1 h2]
  · simp only [cntX, if_true, key c h3 h4]
theorem cnt_back {L : List PP} (hb : ∀ i, i < L.length → InB (L.getD i pp0)) (p : Int) (b : Bool) : cntL (cntL L p b 1) p b (-1) = L := by
  by_cases h : 1 ≤ p ∧ p ≤ L.length
  · have hk : (p - 1).toNat < L.length := by omega
    rw [cntL, if_pos (by rw [cntL_len]; exact h), cntL, if_pos h]
    generalize (p - 1).toNat = m at *
    have e : (L.set m (cntX b 1 (L.getD m pp0))).getD m pp0 = cntX b 1 (L.getD m pp0) := by
      simp [List.getD_eq_getElem?_getD, hk]
    rw [e, cnt_back1 (hb _ hk), List.set_set]
    have e2 : L.getD m pp0 = L[m] := by simp [List.getD_eq_getElem?_getD, hk]
    rw [e2, List.set_getElem_self]
  · rw [cntL, if_neg (by rw [cntL_len]; exact h), cntL, if_neg h]
theorem cnt_other {L : List PP} {p y : Int} {b : Bool} {k : Nat} (h : (k : Int) + 1 ≠ p) : (cntL L p b y).getD k pp0 = L.getD k pp0 := by
  unfold cntL
  split
  · simp only [List.getD_eq_getElem?_getD]; rw [List.getElem?_set_ne (by omega)]
  · rfl
theorem cnt_data {L : List PP} {p y : Int} {b : Bool} {k : Nat} (hk : k < L.length) : ((cntL L p b y).getD k pp0).1 = (L.getD k pp0).1 := by
  unfold cntL
  split
  · generalize (p - 1).toNat = m at *
    by_cases e : m = k
    · subst e
      have : (L.set m (cntX b y (L.getD m pp0))).getD m pp0 = cntX b y (L.getD m pp0) := by simp [List.getD_eq_getElem?_getD, hk]
      rw [this]; unfold cntX; split <;> rfl
    · simp only [List.getD_eq_getElem?_getD]; rw [List.getElem?_set_ne e]
  · rfl
set_option maxRecDepth 100000 in
theorem counts_walk (w : World) (c : Value) (L : List PP) (p : Int) (b : Bool) (hrow : ∀ W ρ, RowOk W ρ w c (rowP L)) (hl : L.length ≤ 4398046511104) (hb : ∀ i, i < L.length → InB (L.getD i pp0)) (hp : -9223372036854775808 ≤ p) (hp2 : p ≤ 9223372036854775807) :
    Calls Try.prog 9 #[c, .agg #[.int .i64 p, .bool b]] w fun e w' => e = .returned (.bool true) ∧ Below w.heap.size w w' := by
  obtain ⟨A, cap, rfl, _⟩ := (hrow ⟨w, none, [], []⟩ ⟨fun _ => none, fun _ => none⟩).form
  refine calls_top Try.func9 rfl [.slice A L.length cap] [rowP L] [rsV 0, endV p b] (.cons hrow rfl .nil) ⟨rfl, rfl, trivial⟩ ?_
  clear hrow
  have hlen := cntL_len L p b 1
  refine SG.walk tab_ok mx 400 [false] [mkHd trueV [], mkHd (rsV 0) [newP (cntL L p b 1)]] ?_
  conv => whnf
  try dsimp only [rowL, rowN, growOk, hiN, fromL, tightN, maxOk]
  try simp (disch := omega) only [wI, wU64, wU32, wU8, Int.toNat_natCast, toNat_succ, toNat_pred, Int.reduceToNat, Option.getD_some, Option.getD_none, Nat.sub_zero, Nat.zero_add]
  refine ⟨?_, ?_⟩
  · exact ⟨by rw [hlen]; simp, countP (r := 0) rfl (.of rfl rfl (fun _ _ => rfl)) hl hp, shownX⟩
  refine SG.loop (fun k : Nat => ⟨puts (List.replicate (Try.f9).ntmps .any) [(0, rsV 0), (3, bpV 0), (5, trueV), (6, rsV 1), (7, intV k)], [some [.v (.int .i64 p), .v (.bool b)]], [some (rowP L), some (newP (cntL L p b 1))], []⟩) (fun k => k ≤ L.length) (fun k => L.length - k) (0) (Nat.zero_le _) (fun h => SG.sub [0] [0, 1] ⟨?_, ?_, ?_, by decide, rfl, rfl, rfl, ?_⟩ h) ?_
  · repeat' (first | exact trivial | exact rfl | refine And.intro ?_ ?_)
  · repeat' (first | exact trivial | exact rfl | refine And.intro ?_ ?_)
  · repeat' (first | exact trivial | refine ⟨⟨_, rfl, ⟨rfl, rfl, .inl rfl, (fun h => by first | exact h | cases h), (fun h => by first | exact h | cases h), fun _ _ => rfl⟩, fun _ _ => rfl⟩, ?_⟩ | refine ⟨⟨_, rfl, ⟨rfl, rfl, .inr rfl, (fun h => by first | exact h | cases h), (fun h => by first | exact h | cases h), fun _ _ => rfl⟩, fun _ _ => rfl⟩, ?_⟩ | refine ⟨⟨_, rfl, ⟨rfl, rfl, .inr rfl, (fun h => by first | exact h | cases h), (fun h => by first | exact h | cases h), fun i hi => absurd hi (Nat.not_lt_zero i)⟩, fun i hi => absurd hi (Nat.not_lt_zero i)⟩, ?_⟩ | refine ⟨⟨_, rfl, ⟨rfl, rfl, .inl rfl, (fun h => by first | exact h | cases h), (fun h => by first | exact h | cases h), fun i hi => ren_closed (hQc i hi)⟩, fun i hi => inn_closed (hQc i hi)⟩, ?_⟩)
  · repeat' (first | exact trivial | exact rfl | refine And.intro ?_ ?_)
  intro k hk next
  by_cases hlt : k < L.length
  · by_cases hkp : (k : Int) + 1 = p
    · refine SG.walk tab_ok mx 400 [true, false, false] [] ?_
      conv => whnf
      try dsimp only [rowL, rowN, growOk, hiN, fromL, tightN, maxOk]
      try simp (disch := omega) only [wI, wU64, wU32, wU8, Int.toNat_natCast, toNat_succ, toNat_pred, Int.reduceToNat, Option.getD_some, Option.getD_none, Nat.sub_zero, Nat.zero_add]
      refine ⟨?_, ?_⟩
      · exact ⟨by rw [cnt_data hlt]; simp, by omega, by omega, by omega, by omega, by simpa using hkp, by simpa using hlt⟩
      refine SG.sub [0] [0, 1] ⟨?_, ?_, ?_, by decide, rfl, rfl, rfl, ?_⟩ (next (k + 1) hlt (by omega))
      · repeat' (first | exact trivial | exact rfl | refine And.intro ?_ ?_)
      · repeat' (first | exact trivial | exact rfl | refine And.intro ?_ ?_)
      · repeat' (first | exact trivial | refine ⟨⟨_, rfl, ⟨rfl, rfl, .inl rfl, (fun h => by first | exact h | cases h), (fun h => by first | exact h | cases h), fun _ _ => rfl⟩, fun _ _ => rfl⟩, ?_⟩ | refine ⟨⟨_, rfl, ⟨rfl, rfl, .inr rfl, (fun h => by first | exact h | cases h), (fun h => by first | exact h | cases h), fun _ _ => rfl⟩, fun _ _ => rfl⟩, ?_⟩ | refine ⟨⟨_, rfl, ⟨rfl, rfl, .inr rfl, (fun h => by first | exact h | cases h), (fun h => by first | exact h | cases h), fun i hi => absurd hi (Nat.not_lt_zero i)⟩, fun i hi => absurd hi (Nat.not_lt_zero i)⟩, ?_⟩ | refine ⟨⟨_, rfl, ⟨rfl, rfl, .inl rfl, (fun h => by first | exact h | cases h), (fun h => by first | exact h | cases h), fun i hi => ren_closed (hQc i hi)⟩, fun i hi => inn_closed (hQc i hi)⟩, ?_⟩)
      · repeat' (first | exact trivial | exact rfl | refine And.intro ?_ ?_)
    · refine SG.walk tab_ok mx 400 [true, true, false, false] [] ?_
      conv => whnf
      try dsimp only [rowL, rowN, growOk, hiN, fromL, tightN, maxOk]
      try simp (disch := omega) only [wI, wU64, wU32, wU8, Int.toNat_natCast, toNat_succ, toNat_pred, Int.reduceToNat, Option.getD_some, Option.getD_none, Nat.sub_zero, Nat.zero_add]
      refine ⟨?_, ?_⟩
      · exact ⟨by rw [cnt_data hlt]; simp, by omega, by omega, by omega, by omega, by rw [cnt_other hkp, pp_eq]; simp, by omega, by omega, by omega, by omega, by simpa using hkp, by simpa using hlt⟩
      refine SG.sub [0] [0, 1] ⟨?_, ?_, ?_, by decide, rfl, rfl, rfl, ?_⟩ (next (k + 1) hlt (by omega))
      · repeat' (first | exact trivial | exact rfl | refine And.intro ?_ ?_)
      · repeat' (first | exact trivial | exact rfl | refine And.intro ?_ ?_)
      · repeat' (first | exact trivial | refine ⟨⟨_, rfl, ⟨rfl, rfl, .inl rfl, (fun h => by first | exact h | cases h), (fun h => by first | exact h | cases h), fun _ _ => rfl⟩, fun _ _ => rfl⟩, ?_⟩ | refine ⟨⟨_, rfl, ⟨rfl, rfl, .inr rfl, (fun h => by first | exact h | cases h), (fun h => by first | exact h | cases h), fun _ _ => rfl⟩, fun _ _ => rfl⟩, ?_⟩ | refine ⟨⟨_, rfl, ⟨rfl, rfl, .inr rfl, (fun h => by first | exact h | cases h), (fun h => by first | exact h | cases h), fun i hi => absurd hi (Nat.not_lt_zero i)⟩, fun i hi => absurd hi (Nat.not_lt_zero i)⟩, ?_⟩ | refine ⟨⟨_, rfl, ⟨rfl, rfl, .inl rfl, (fun h => by first | exact h | cases h), (fun h => by first | exact h | cases h), fun i hi => ren_closed (hQc i hi)⟩, fun i hi => inn_closed (hQc i hi)⟩, ?_⟩)
      · repeat' (first | exact trivial | exact rfl | refine And.intro ?_ ?_)
  · refine SG.walk tab_ok mx 400 [false] [mkHd (rsV 0) [newP L], mkHd trueV []] ?_
    conv => whnf
    try dsimp only [rowL, rowN, growOk, hiN, fromL, tightN, maxOk]
    try simp (disch := omega) only [wI, wU64, wU32, wU8, Int.toNat_natCast, toNat_succ, toNat_pred, Int.reduceToNat, Option.getD_some, Option.getD_none, Nat.sub_zero, Nat.zero_add]
    refine ⟨?_, ?_⟩
    · refine ⟨sameP (r := 2) (q := 0) (L := L) (M := L) rfl (.of rfl rfl (fun _ _ => rfl)) rfl (.of rfl rfl (fun _ _ => rfl)) hl (by simp), ?_, by simpa using hlt⟩
      have := countP (W := ⟨w, none, [], []⟩) (B := [some [.v (.int .i64 p), .v (.bool b)]]) (r := 1) (L := cntL L p b 1) (p := p) (y := -1) (b := b) (Rs := [some (rowP L), some (newP (cntL L p b 1))]) rfl (.of rfl rfl (fun _ _ => rfl)) (by omega) hp
      rw [cnt_back hb] at this
      exact this
    refine SG.ret tab_ok Try.func9 rfl ?_
    intro ρ w' v hm hv
    exact top_true hm hv rfl
end Go.Proofs.Ytlhjlomfpgmdmaa
