/- Rows of elements: what is taken out. -/
import Derived.Test.YthdpigdbkljiiaaElA
namespace Go.Proofs.Ythdpigdbkljiiaa
open Go.Sx Go.RowKit
set_option linter.unusedVariables false
set_option linter.unusedSimpArgs false
section
variable {W : Base} {B : List (Option (List At))} {Rs : List (Option Row)}
set_option maxRecDepth 100000 in
theorem deleteP1 {F : FuncId} {Q : Row} {p : E → Bool} (hs : Says F Q p) (hQo : Q.own = none) (hQn : Q.new = false) (hQc : closedRow Q) {r q : Nat} {R Rq : Row} {L : List E} (hr : Rs[r]? = some (some R)) (hR : RowLe R (newE L)) (hq : Rs[q]? = some (some Rq)) (hRq : RowLe Rq Q) (hne : r ≠ q) (hl : L.length ≤ 837723144960) (hm : L.findIdx p < L.length) :
    CallOk Try.prog W B Rs 40 [rsV r, .cv (.one (.clo F [.rp q 0 0 0]))] (mkHd (rsV 0) [frE (L.filter (fun x => !p x))] (some r)) := by
  refine CallOk.enter Try.func40 (by kernel_rfl) rfl [r, q] [newE L, Q] [rsV 0, .cv (.one (.clo F [.rp 1 0 0 0]))] rfl (rows2 (.own_ hr hR rfl (fun _ _ => rfl)) (.ro_ hq hRq hQo hQn hQc)) (kill2 hne) rfl rfl ?_
  intro w blk hblk
  obtain ⟨Qs, Ql, Qc, Qo, Qt, Qn⟩ := Q
  dsimp only at hQo hQn
  subst hQo hQn
  have hix : ixP p L = (L.findIdx p : Int) := if_pos hm
  have hat : p (L.getD (L.findIdx p) e0) = true := by rw [getD_mem hm]; exact List.findIdx_getElem
  have hbe : ∀ j, j < L.findIdx p → p (L.getD j e0) = false := fun j hj => by
    rw [getD_mem (by omega)]
    have := List.not_of_lt_findIdx hj
    simpa using this
  generalize hmm : L.findIdx p = m at hix hm hat hbe
  have hI : DelP p L m (m + 1) L := ⟨rfl, Nat.lt_succ_self _, hm, take_filt hm hat hbe, fun _ _ => rfl⟩
  refine SG.walk tab_ok mx 400 [false] [mkHd (intV (m : Int)) []] ?_
  conv => whnf
  try dsimp only [rowL, rowN, growOk, hiN, fromL, tightN, maxOk]
  try simp (disch := omega) only [wI, wU64, wU32, wU8, Int.toNat_natCast, toNat_succ, toNat_pred, Int.reduceToNat, Option.getD_some, Option.getD_none, Nat.sub_zero, Nat.zero_add]
  refine ⟨?_, ?_⟩
  · exact ⟨by simp only [beq_eq_false_iff_ne, ne_eq]; omega, by rw [← hix]; exact indexP (Q := ⟨Qs, Ql, Qc, none, Qt, false⟩) hs rfl rfl hQc (r := 0) (q := 1) rfl (.of rfl rfl (fun _ _ => rfl)) rfl (.refl _) hl⟩
  refine SG.loop (fun x : Nat × Nat × List E => ⟨puts (List.replicate (Try.f40).ntmps .any) [(0, rsV 0), (1, .cv (.one (.clo F [.rp 1 0 0 0]))), (5, intV x.1), (6, intV x.2.1)], [], [some (newE x.2.2), some ⟨Qs, Ql, Qc, none, Qt, false⟩], []⟩) (fun x => DelP p L x.1 x.2.1 x.2.2) (fun x => L.length - x.2.1) ((m, m + 1, L)) (hI) (fun h => SG.sub [] [0, 1] ⟨?_, ?_, ?_, by decide, rfl, rfl, rfl, ?_⟩ h) ?_
  · repeat' (first | exact trivial | exact rfl | refine And.intro ?_ ?_)
  · repeat' (first | exact trivial | exact rfl | refine And.intro ?_ ?_)
  · repeat' (first | exact trivial | refine ⟨⟨_, rfl, ⟨rfl, rfl, .inl rfl, (fun h => by first | exact h | cases h), (fun h => by first | exact h | cases h), fun _ _ => rfl⟩, fun _ _ => rfl⟩, ?_⟩ | refine ⟨⟨_, rfl, ⟨rfl, rfl, .inr rfl, (fun h => by first | exact h | cases h), (fun h => by first | exact h | cases h), fun _ _ => rfl⟩, fun _ _ => rfl⟩, ?_⟩ | refine ⟨⟨_, rfl, ⟨rfl, rfl, .inr rfl, (fun h => by first | exact h | cases h), (fun h => by first | exact h | cases h), fun i hi => absurd hi (Nat.not_lt_zero i)⟩, fun i hi => absurd hi (Nat.not_lt_zero i)⟩, ?_⟩ | refine ⟨⟨_, rfl, ⟨rfl, rfl, .inl rfl, (fun h => by first | exact h | cases h), (fun h => by first | exact h | cases h), fun i hi => ren_closed (hQc i hi)⟩, fun i hi => inn_closed (hQc i hi)⟩, ?_⟩)
  · repeat' (first | exact trivial | exact rfl | refine And.intro ?_ ?_)
  rintro ⟨i, j, C⟩ hk next
  dsimp only at hk next ⊢
  have hkl := hk.len
  have hkt := hk.lt
  have hkj := hk.le
  by_cases hlt : j < L.length
  · have hCj := hk.aft j (Nat.le_refl _)
    by_cases hpj : p (L.getD j e0) = true
    · refine SG.walk tab_ok mx 400 [true, false] [mkHd (.cv (.one (.v (.bool (p (C.getD j e0)))))) []] ?_
      conv => whnf
      try dsimp only [rowL, rowN, growOk, hiN, fromL, tightN, maxOk]
      try simp (disch := omega) only [wI, wU64, wU32, wU8, Int.toNat_natCast, toNat_succ, toNat_pred, Int.reduceToNat, Option.getD_some, Option.getD_none, Nat.sub_zero, Nat.zero_add]
      refine ⟨?_, ?_⟩
      · exact ⟨by rw [hCj, hpj]; rfl, hs _ _ _ (C.getD j e0) rfl, by omega, by omega, by simp only [decide_eq_true_eq]; omega⟩
      refine SG.sub [] [0, 1] ⟨?_, ?_, ?_, by decide, rfl, rfl, rfl, ?_⟩ (next (i, j + 1, C) (hk.skip hlt hpj) (by simp; omega))
      · repeat' (first | exact trivial | exact rfl | refine And.intro ?_ ?_)
      · repeat' (first | exact trivial | exact rfl | refine And.intro ?_ ?_)
      · repeat' (first | exact trivial | refine ⟨⟨_, rfl, ⟨rfl, rfl, .inl rfl, (fun h => by first | exact h | cases h), (fun h => by first | exact h | cases h), fun _ _ => rfl⟩, fun _ _ => rfl⟩, ?_⟩ | refine ⟨⟨_, rfl, ⟨rfl, rfl, .inr rfl, (fun h => by first | exact h | cases h), (fun h => by first | exact h | cases h), fun _ _ => rfl⟩, fun _ _ => rfl⟩, ?_⟩ | refine ⟨⟨_, rfl, ⟨rfl, rfl, .inr rfl, (fun h => by first | exact h | cases h), (fun h => by first | exact h | cases h), fun i hi => absurd hi (Nat.not_lt_zero i)⟩, fun i hi => absurd hi (Nat.not_lt_zero i)⟩, ?_⟩ | refine ⟨⟨_, rfl, ⟨rfl, rfl, .inl rfl, (fun h => by first | exact h | cases h), (fun h => by first | exact h | cases h), fun i hi => ren_closed (hQc i hi)⟩, fun i hi => inn_closed (hQc i hi)⟩, ?_⟩)
      · repeat' (first | exact trivial | exact rfl | refine And.intro ?_ ?_)
    · have hpf : p (L.getD j e0) = false := by simpa using hpj
      refine SG.walk tab_ok mx 400 [true, true] [mkHd (.cv (.one (.v (.bool (p (C.getD j e0)))))) []] ?_
      conv => whnf
      try dsimp only [rowL, rowN, growOk, hiN, fromL, tightN, maxOk]
      try simp (disch := omega) only [wI, wU64, wU32, wU8, Int.toNat_natCast, toNat_succ, toNat_pred, Int.reduceToNat, Option.getD_some, Option.getD_none, Nat.sub_zero, Nat.zero_add]
      refine ⟨?_, ?_⟩
      · exact ⟨by omega, by omega, by rw [hCj, hpf]; rfl, hs _ _ _ (C.getD j e0) rfl, by omega, by omega, by simp only [decide_eq_true_eq]; omega⟩
      refine SG.sub [] [0, 1] ⟨?_, ?_, ?_, by decide, rfl, rfl, rfl, ?_⟩ (next (i + 1, j + 1, C.set i (C.getD j e0)) (by rw [hCj]; exact hk.put hlt hpf) (by simp; omega))
      · repeat' (first | exact trivial | exact rfl | refine And.intro ?_ ?_)
      · exact trivial
      · refine ⟨⟨_, rfl, ⟨rfl, by show (C.set i (C.getD j e0)).length = C.length; simp, .inr rfl, id, id, fun q hq => setE_cells C i (C.getD j e0) (by omega) q⟩, fun _ _ => rfl⟩, ⟨_, rfl, ⟨rfl, rfl, .inl rfl, id, id, fun i hi => ren_closed (hQc i hi)⟩, fun i hi => inn_closed (hQc i hi)⟩, trivial⟩
      · exact trivial
  · have hjL : j = L.length := by omega
    have hfin : C.take i = L.filter (fun x => !p x) := by rw [hk.fore, hjL, List.take_length]
    refine SG.walk tab_ok mx 14 [false] [] ?_
    conv => whnf
    try dsimp only [rowL, rowN, growOk, hiN, fromL, tightN, maxOk]
    try simp (disch := omega) only [wI, wU64, wU32, wU8, Int.toNat_natCast, toNat_succ, toNat_pred, Int.reduceToNat, Option.getD_some, Option.getD_none, Nat.sub_zero, Nat.zero_add]
    refine ⟨?_, ?_⟩
    · simp only [decide_eq_false_iff_not]; omega
    refine SG.clearWide tab_ok (x := 36) (y := 37) (d := 38) (r := 0) (n := (i : Int)) rfl rfl rfl rfl rfl rfl rfl rfl rfl rfl rfl (by decide) rfl rfl rfl rfl rfl (of_decide_eq_true rfl) ⟨by omega, by show (i : Int) < (C.length : Int); omega⟩ ?_
    refine SG.walk tab_ok mx 400 [] [] ?_
    conv => whnf
    try dsimp only [rowL, rowN, growOk, hiN, fromL, tightN, maxOk]
    try simp (disch := omega) only [wI, wU64, wU32, wU8, Int.toNat_natCast, toNat_succ, toNat_pred, Int.reduceToNat, Option.getD_some, Option.getD_none, Nat.sub_zero, Nat.zero_add]
    refine ⟨?_, ?_⟩
    · exact ⟨by omega, by omega, by omega, trivial⟩
    have hil : i = (L.filter (fun x => !p x)).length := by rw [← hfin, List.length_take]; omega
    have hic : ∀ q, q < i → (L.filter (fun x => !p x)).getD q e0 = C.getD q e0 := fun q hq => by
      rw [← hfin]; simp [List.getD_eq_getElem?_getD, hq]
    refine SG.ret tab_ok Try.func40 rfl ?_
    intro ρ w' v hm hv
    exact Post.mk hm (rsV 0) [frE (L.filter (fun x => !p x))] none [2] hv rfl (rows1 ⟨⟨_, rfl, ⟨rfl, hil.symm, .inl rfl, (fun h => by cases h), id, fun q hq => by dsimp only at hq ⊢; rw [if_pos hq, hic q hq]⟩, rfl⟩, fun _ _ => rfl⟩) rfl (by simp)
set_option maxRecDepth 100000 in
theorem deleteP0 {F : FuncId} {Q : Row} {p : E → Bool} (hs : Says F Q p) (hQo : Q.own = none) (hQn : Q.new = false) (hQc : closedRow Q) {r q : Nat} {R Rq : Row} {L : List E} (hr : Rs[r]? = some (some R)) (hR : RowLe R (newE L)) (hq : Rs[q]? = some (some Rq)) (hRq : RowLe Rq Q) (hne : r ≠ q) (hl : L.length ≤ 837723144960) (hm : ¬ L.findIdx p < L.length) :
    CallOk Try.prog W B Rs 40 [rsV r, .cv (.one (.clo F [.rp q 0 0 0]))] (mkHd (rsV 0) [frE L] (some r)) := by
  refine CallOk.enter Try.func40 (by kernel_rfl) rfl [r, q] [newE L, Q] [rsV 0, .cv (.one (.clo F [.rp 1 0 0 0]))] rfl (rows2 (.own_ hr hR rfl (fun _ _ => rfl)) (.ro_ hq hRq hQo hQn hQc)) (kill2 hne) rfl rfl ?_
  intro w blk hblk
  obtain ⟨Qs, Ql, Qc, Qo, Qt, Qn⟩ := Q
  dsimp only at hQo hQn
  subst hQo hQn
  have hix : ixP p L = -1 := if_neg hm
  refine SG.walk tab_ok mx 400 [true] [mkHd (intV (-1)) []] ?_
  conv => whnf
  try dsimp only [rowL, rowN, growOk, hiN, fromL, tightN, maxOk]
  try simp (disch := omega) only [wI, wU64, wU32, wU8, Int.toNat_natCast, toNat_succ, toNat_pred, Int.reduceToNat, Option.getD_some, Option.getD_none, Nat.sub_zero, Nat.zero_add]
  refine ⟨?_, ?_⟩
  · exact ⟨rfl, by rw [← hix]; exact indexP (Q := ⟨Qs, Ql, Qc, none, Qt, false⟩) hs rfl rfl hQc (r := 0) (q := 1) rfl (.of rfl rfl (fun _ _ => rfl)) rfl (.refl _) hl⟩
  refine SG.ret tab_ok Try.func40 rfl ?_
  intro ρ w' v hm hv
  exact Post.mk hm (rsV 0) [frE L] none [0] hv rfl (rows1 ⟨⟨_, rfl, ⟨rfl, rfl, .inl rfl, (fun h => by cases h), id, fun q hq => rfl⟩, rfl⟩, fun _ _ => rfl⟩) rfl (by simp)
theorem deleteP {F : FuncId} {Q : Row} {p : E → Bool} (hs : Says F Q p) (hQo : Q.own = none) (hQn : Q.new = false) (hQc : closedRow Q) {r q : Nat} {R Rq : Row} {L : List E} (hr : Rs[r]? = some (some R)) (hR : RowLe R (newE L)) (hq : Rs[q]? = some (some Rq)) (hRq : RowLe Rq Q) (hne : r ≠ q) (hl : L.length ≤ 837723144960) :
    CallOk Try.prog W B Rs 40 [rsV r, .cv (.one (.clo F [.rp q 0 0 0]))] (mkHd (rsV 0) [frE (L.filter (fun x => !p x))] (some r)) := by
  by_cases hp : L.findIdx p < L.length
  · exact deleteP1 hs hQo hQn hQc hr hR hq hRq hne hl hp
  · have e : L.filter (fun x => !p x) = L := by
      rw [List.filter_eq_self]
      intro x hx
      have h1 : L.findIdx p = L.length := by have := List.findIdx_le_length (p := p) (xs := L); omega
      rw [List.findIdx_eq_length] at h1
      simp [h1 x hx]
    rw [e]
    exact deleteP0 hs hQo hQn hQc hr hR hq hRq hne hl hp
theorem clo_any {ρ : Env} {x : SV} {F : FuncId} {q c : Nat} {vs : List Value} (h : reps ρ [x, .cv (.one (.clo F [.rp q 0 c 0]))] vs) : reps ρ [x, .cv (.one (.clo F [.rp q 0 0 0]))] vs := by
  match vs, h with
  | [v, u], ⟨h1, h2, _⟩ =>
    refine ⟨h1, ?_, trivial⟩
    simp only [SV.rep, Cv.den, At.den, ptDens, rp_zero (a := c) (b := 0)] at h2 ⊢
    exact h2
theorem indexC {F : FuncId} {cs : Nat} {Q : Row} {p : E → Bool} (hs : Says F Q p) (hQo : Q.own = none) (hQn : Q.new = false) (hQc : closedRow Q) {r q : Nat} {R Rq : Row} {L : List E} (hr : Rs[r]? = some (some R)) (hR : RowLe R (rowE L)) (hq : Rs[q]? = some (some Rq)) (hRq : RowLe Rq Q) (hl : L.length ≤ 837723144960) :
    CallOk Try.prog W B Rs 47 [rsV r, .cv (.one (.clo F [.rp q 0 cs 0]))] (mkHd (intV (ixP p L)) []) :=
  (indexP hs hQo hQn hQc hr hR hq hRq hl).args fun ρ vs h => clo_any h
theorem deleteC {F : FuncId} {cs : Nat} {Q : Row} {p : E → Bool} (hs : Says F Q p) (hQo : Q.own = none) (hQn : Q.new = false) (hQc : closedRow Q) {r q : Nat} {R Rq : Row} {L : List E} (hr : Rs[r]? = some (some R)) (hR : RowLe R (newE L)) (hq : Rs[q]? = some (some Rq)) (hRq : RowLe Rq Q) (hne : r ≠ q) (hl : L.length ≤ 837723144960) :
    CallOk Try.prog W B Rs 40 [rsV r, .cv (.one (.clo F [.rp q 0 cs 0]))] (mkHd (rsV 0) [frE (L.filter (fun x => !p x))] (some r)) :=
  (deleteP hs hQo hQn hQc hr hR hq hRq hne hl).args fun ρ vs h => clo_any h
end
end Go.Proofs.Ythdpigdbkljiiaa
