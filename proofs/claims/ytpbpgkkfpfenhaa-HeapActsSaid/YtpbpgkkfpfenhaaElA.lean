/- Rows of elements: their copy, what stands where, what is taken out, whether two are the same. -/
import Derived.Test.YtpbpgkkfpfenhaaInsC
import Derived.Test.YtpbpgkkfpfenhaaEl
namespace Go.Proofs.Ytpbpgkkfpfenhaa
open Go.Sx Go.RowKit
set_option linter.unusedVariables false
set_option linter.unusedSimpArgs false
theorem elist_eq {L M : List E} (h : L.length = M.length) (hg : ∀ j, j < L.length → L.getD j e0 = M.getD j e0) : L = M := by
  apply List.ext_getElem h
  intro j h1 h2
  have := hg j h1
  simpa [List.getD_eq_getElem?_getD, h1, h2] using this
theorem getD_mem {L : List E} {k : Nat} (hk : k < L.length) : L.getD k e0 = L[k] := by simp [List.getD_eq_getElem?_getD, hk]
theorem upto_succ {A : Nat → Prop} {k : Nat} (h : ∀ j, j < k → A j) (hk : A k) : ∀ j, j < k + 1 → A j := fun j hj => by
  rcases Nat.lt_or_ge j k with h' | h'
  · exact h j h'
  · rw [show j = k by omega]; exact hk
/-- Where the first one stands of which p holds; -1: nowhere. -/
def ixP (p : E → Bool) (L : List E) : Int := if L.findIdx p < L.length then (L.findIdx p : Int) else -1
theorem ixP_at {p : E → Bool} {L : List E} {k : Nat} (hk : k < L.length) (hp : p (L.getD k e0) = true) (hn : ∀ j, j < k → p (L.getD j e0) = false) : L.findIdx p = k := by
  rw [List.findIdx_eq hk]
  refine ⟨by rw [getD_mem hk] at hp; exact hp, fun j hj => ?_⟩
  have := hn j hj
  rwa [getD_mem (by omega)] at this
theorem ixP_none {p : E → Bool} {L : List E} {k : Nat} (hk : L.length ≤ k) (hn : ∀ j, j < k → p (L.getD j e0) = false) : L.findIdx p = L.length := by
  rw [List.findIdx_eq_length]
  intro x hx
  obtain ⟨j, hj, rfl⟩ := List.getElem_of_mem hx
  have := hn j (by omega)
  rwa [getD_mem hj] at this
structure DelP (p : E → Bool) (L : List E) (i j : Nat) (C : List E) : Prop where
  len : C.length = L.length
  lt : i < j
  le : j ≤ L.length
  fore : C.take i = (L.take j).filter (fun x => !p x)
  aft : ∀ q, j ≤ q → C.getD q e0 = L.getD q e0
theorem DelP.skip {p : E → Bool} {L : List E} {i j : Nat} {C : List E} (h : DelP p L i j C) (hj : j < L.length) (hp : p (L.getD j e0) = true) : DelP p L i (j + 1) C := by
  refine ⟨h.len, by have := h.lt; omega, hj, ?_, fun q hq => h.aft q (by omega)⟩
  rw [getD_mem hj] at hp
  rw [h.fore, List.take_succ_eq_append_getElem hj, List.filter_append]
  simp [hp]
theorem DelP.put {p : E → Bool} {L : List E} {i j : Nat} {C : List E} (h : DelP p L i j C) (hj : j < L.length) (hp : p (L.getD j e0) = false) : DelP p L (i + 1) (j + 1) (C.set i (L.getD j e0)) := by
  have hlen := h.len
  have hlt := h.lt
  refine ⟨by simp [hlen], by omega, hj, ?_, fun q hq => ?_⟩
  · rw [getD_mem hj] at hp ⊢
    rw [List.take_succ_eq_append_getElem hj, List.filter_append, ← h.fore, List.take_succ_eq_append_getElem (by simp; omega)]
    simp [hp, List.take_set_of_le]
  · simp only [List.getD_eq_getElem?_getD]
    rw [List.getElem?_set_ne (by omega)]
    have := h.aft q (by omega)
    simpa [List.getD_eq_getElem?_getD] using this
theorem take_filt {p : E → Bool} {L : List E} {m : Nat} (hm : m < L.length) (h : p (L.getD m e0) = true) (hb : ∀ j, j < m → p (L.getD j e0) = false) : L.take m = (L.take (m + 1)).filter (fun x => !p x) := by
  rw [getD_mem hm] at h
  rw [List.take_succ_eq_append_getElem hm, List.filter_append]
  simp only [h, List.filter_cons, List.filter_nil, Bool.not_true, Bool.false_eq_true, if_false, List.append_nil]
  symm
  rw [List.filter_eq_self]
  intro x hx
  obtain ⟨j, hj, rfl⟩ := List.getElem_of_mem hx
  have hj' : j < m := by simp at hj; omega
  have := hb j hj'
  rw [getD_mem (by omega)] at this
  simp [this]
theorem setE_cells (L : List E) (k : Nat) (x : E) (hk : k < L.length) (i : Nat) : eC ((L.set k x).getD i e0) = if i = k then eC x else eC (L.getD i e0) := by
  simp only [List.getD_eq_getElem?_getD]
  split
  · rename_i h; subst h
    simp [hk]
  · rename_i h
    rw [List.getElem?_set_ne (Ne.symm h)]
/-- What a function says of an element, with one thing that it remembers. -/
def Says (F : FuncId) (Q : Row) (p : E → Bool) : Prop := ∀ (W : Base) (B : List (Option (List At))) (Rs : List (Option Row)) (x : E), Rs[1]? = some (some Q) → CallOk Try.prog W B Rs F [eV x, .cv (.one (.pt (.rp 1 0 0 0)))] (mkHd (.cv (.one (.v (.bool (p x))))) [])
section
variable {W : Base} {B : List (Option (List At))} {Rs : List (Option Row)}
theorem CallOk.lbv {g : FuncId} {args : List SV} {b : Bool} (h : CallOk Try.prog W B Rs g args (mkHd (.cv (.one (.lb b))) [])) : CallOk Try.prog W B Rs g args (mkHd (.cv (.one (.v (.bool b)))) []) :=
  ⟨h.can, fun s' ρ w vs hm hR hB hk hr => (h.does s' ρ w vs hm hR hB hk hr).mono fun e w' ⟨v, vals, he, hg, hn, hres⟩ => ⟨v, vals, he, hg, hn, hres⟩⟩
theorem CallOk.vlb {g : FuncId} {args : List SV} {b : Bool} (h : CallOk Try.prog W B Rs g args (mkHd (.cv (.one (.v (.bool b)))) [])) : CallOk Try.prog W B Rs g args (mkHd (.cv (.one (.lb b))) []) :=
  ⟨h.can, fun s' ρ w vs hm hR hB hk hr => (h.does s' ρ w vs hm hR hB hk hr).mono fun e w' ⟨v, vals, he, hg, hn, hres⟩ => ⟨v, vals, he, hg, hn, hres⟩⟩
set_option maxRecDepth 100000 in
theorem cloneE {r : Nat} {R : Row} {L : List E} (hr : Rs[r]? = some (some R)) (hR : RowLe R (rowE L)) (hl : L.length ≤ 5864062014700) :
    CallOk Try.prog W B Rs 37 [rsV r] (mkHd (rsV 0) [newE L]) := by
  refine CallOk.enter Try.func37 (by kernel_rfl) rfl [r] [rowE L] [rsV 0] rfl (rows1 (.ro_ hr hR rfl rfl (fun _ _ => rfl))) (fun r h => by cases h) rfl rfl ?_
  intro w blk hblk
  refine SG.walk tab_ok mx 400 [] [] ?_
  conv => whnf
  try dsimp only [rowL, rowN, growOk, hiN, fromL, tightN, maxOk]
  try simp (disch := omega) only [wI, wU64, wU32, wU8, Int.toNat_natCast, toNat_succ, toNat_pred, Int.reduceToNat, Option.getD_some, Option.getD_none, Nat.sub_zero, Nat.zero_add]
  refine ⟨?_, ?_⟩
  · trivial
  refine SG.askNil tab_ok (neg := false) (x := 3) (r := 0) rfl rfl rfl rfl rfl rfl rfl (fun h0 => ?_) ?_
  · have hL : L = [] := List.eq_nil_of_length_eq_zero h0
    subst hL
    refine SG.walk tab_ok mx 400 [] [] ?_
    conv => whnf
    try dsimp only [rowL, rowN, growOk, hiN, fromL, tightN, maxOk]
    try simp (disch := omega) only [wI, wU64, wU32, wU8, Int.toNat_natCast, toNat_succ, toNat_pred, Int.reduceToNat, Option.getD_some, Option.getD_none, Nat.sub_zero, Nat.zero_add]
    refine ⟨?_, ?_⟩
    · trivial
    refine SG.nilRow 2 45 3 rfl ?_
    refine SG.ret tab_ok Try.func37 rfl ?_
    intro ρ w' v hm hv
    exact Post.mk hm (rsV 0) [newE []] none [1] hv rfl (rows1 (.of rfl rfl rfl rfl rfl (fun i hi => by cases hi) (fun _ => rfl))) rfl (by simp)
  · refine SG.walk tab_ok mx 400 [] [] ?_
    conv => whnf
    try dsimp only [rowL, rowN, growOk, hiN, fromL, tightN, maxOk]
    try simp (disch := omega) only [wI, wU64, wU32, wU8, Int.toNat_natCast, toNat_succ, toNat_pred, Int.reduceToNat, Option.getD_some, Option.getD_none, Nat.sub_zero, Nat.zero_add]
    refine ⟨?_, ?_⟩
    · exact ⟨by omega, by omega, by omega⟩
    refine SG.ret tab_ok Try.func37 rfl ?_
    intro ρ w' v hm hv
    exact Post.mk hm (rsV 0) [newE L] none [2] hv rfl (rows1 (.of rfl rfl rfl rfl rfl (fun i hi => rfl) (fun _ => rfl))) rfl (by simp)
set_option maxRecDepth 100000 in
theorem indexP {F : FuncId} {Q : Row} {p : E → Bool} (hs : Says F Q p) (hQo : Q.own = none) (hQn : Q.new = false) (hQc : closedRow Q) {r q : Nat} {R Rq : Row} {L : List E} (hr : Rs[r]? = some (some R)) (hR : RowLe R (rowE L)) (hq : Rs[q]? = some (some Rq)) (hRq : RowLe Rq Q) (hl : L.length ≤ 5864062014700) :
    CallOk Try.prog W B Rs 30 [rsV r, .cv (.one (.clo F [.rp q 0 0 0]))] (mkHd (intV (ixP p L)) []) := by
  refine CallOk.enter Try.func30 (by kernel_rfl) rfl [r, q] [rowE L, Q] [rsV 0, .cv (.one (.clo F [.rp 1 0 0 0]))] rfl (rows2 (.ro_ hr hR rfl rfl (fun _ _ => rfl)) (.ro_ hq hRq hQo hQn hQc)) (fun r h => by cases h) rfl rfl ?_
  intro w blk hblk
  obtain ⟨Qs, Ql, Qc, Qo, Qt, Qn⟩ := Q
  dsimp only at hQo hQn
  subst hQo hQn
  refine SG.walk tab_ok mx 400 [] [] ?_
  conv => whnf
  try dsimp only [rowL, rowN, growOk, hiN, fromL, tightN, maxOk]
  try simp (disch := omega) only [wI, wU64, wU32, wU8, Int.toNat_natCast, toNat_succ, toNat_pred, Int.reduceToNat, Option.getD_some, Option.getD_none, Nat.sub_zero, Nat.zero_add]
  refine ⟨?_, ?_⟩
  · trivial
  refine SG.loop (fun k : Nat => ⟨puts (List.replicate (Try.f30).ntmps .any) [(0, rsV 0), (1, .cv (.one (.clo F [.rp 1 0 0 0]))), (7, intV L.length), (8, intV k)], [], [some (rowE L), some ⟨Qs, Ql, Qc, none, Qt, false⟩], []⟩) (fun k => k ≤ L.length ∧ ∀ j, j < k → p (L.getD j e0) = false) (fun k => L.length - k) (0) (⟨Nat.zero_le _, fun j hj => by omega⟩) (fun h => SG.sub [] [0, 1] ⟨?_, ?_, ?_, by decide, rfl, rfl, rfl, ?_⟩ h) ?_
  · repeat' (first | exact trivial | exact rfl | refine And.intro ?_ ?_)
  · repeat' (first | exact trivial | exact rfl | refine And.intro ?_ ?_)
  · repeat' (first | exact trivial | refine ⟨⟨_, rfl, ⟨rfl, rfl, .inl rfl, (fun h => by first | exact h | cases h), (fun h => by first | exact h | cases h), fun _ _ => rfl⟩, fun _ _ => rfl⟩, ?_⟩ | refine ⟨⟨_, rfl, ⟨rfl, rfl, .inr rfl, (fun h => by first | exact h | cases h), (fun h => by first | exact h | cases h), fun _ _ => rfl⟩, fun _ _ => rfl⟩, ?_⟩ | refine ⟨⟨_, rfl, ⟨rfl, rfl, .inr rfl, (fun h => by first | exact h | cases h), (fun h => by first | exact h | cases h), fun i hi => absurd hi (Nat.not_lt_zero i)⟩, fun i hi => absurd hi (Nat.not_lt_zero i)⟩, ?_⟩ | refine ⟨⟨_, rfl, ⟨rfl, rfl, .inl rfl, (fun h => by first | exact h | cases h), (fun h => by first | exact h | cases h), fun i hi => ren_closed (hQc i hi)⟩, fun i hi => inn_closed (hQc i hi)⟩, ?_⟩)
  · repeat' (first | exact trivial | exact rfl | refine And.intro ?_ ?_)
  intro k hk next
  by_cases hlt : k < L.length
  · by_cases hp : p (L.getD k e0) = true
    · refine SG.walk tab_ok mx 400 [true, true] [mkHd (.cv (.one (.v (.bool (p (L.getD k e0)))))) []] ?_
      conv => whnf
      try dsimp only [rowL, rowN, growOk, hiN, fromL, tightN, maxOk]
      try simp (disch := omega) only [wI, wU64, wU32, wU8, Int.toNat_natCast, toNat_succ, toNat_pred, Int.reduceToNat, Option.getD_some, Option.getD_none, Nat.sub_zero, Nat.zero_add]
      refine ⟨?_, ?_⟩
      · exact ⟨hp, hs _ _ _ (L.getD k e0) rfl, by omega, by omega, by simpa using hlt⟩
      · have hix : ixP p L = k := by unfold ixP; rw [ixP_at hlt hp hk.2, if_pos hlt]
        rw [hix]
        refine SG.ret tab_ok Try.func30 rfl ?_
        intro ρ w' v hm hv
        exact Post.mk hm (intV k) [] none [] hv rfl rows0 rfl (by simp)
    · refine SG.walk tab_ok mx 400 [true, false] [mkHd (.cv (.one (.v (.bool (p (L.getD k e0)))))) []] ?_
      conv => whnf
      try dsimp only [rowL, rowN, growOk, hiN, fromL, tightN, maxOk]
      try simp (disch := omega) only [wI, wU64, wU32, wU8, Int.toNat_natCast, toNat_succ, toNat_pred, Int.reduceToNat, Option.getD_some, Option.getD_none, Nat.sub_zero, Nat.zero_add]
      refine ⟨?_, ?_⟩
      · exact ⟨by simpa using hp, hs _ _ _ (L.getD k e0) rfl, by omega, by omega, by simpa using hlt⟩
      refine SG.sub [] [0, 1] ⟨?_, ?_, ?_, by decide, rfl, rfl, rfl, ?_⟩ (next (k + 1) ⟨hlt, upto_succ hk.2 (by simpa using hp)⟩ (by omega))
      · repeat' (first | exact trivial | exact rfl | refine And.intro ?_ ?_)
      · repeat' (first | exact trivial | exact rfl | refine And.intro ?_ ?_)
      · repeat' (first | exact trivial | refine ⟨⟨_, rfl, ⟨rfl, rfl, .inl rfl, (fun h => by first | exact h | cases h), (fun h => by first | exact h | cases h), fun _ _ => rfl⟩, fun _ _ => rfl⟩, ?_⟩ | refine ⟨⟨_, rfl, ⟨rfl, rfl, .inr rfl, (fun h => by first | exact h | cases h), (fun h => by first | exact h | cases h), fun _ _ => rfl⟩, fun _ _ => rfl⟩, ?_⟩ | refine ⟨⟨_, rfl, ⟨rfl, rfl, .inr rfl, (fun h => by first | exact h | cases h), (fun h => by first | exact h | cases h), fun i hi => absurd hi (Nat.not_lt_zero i)⟩, fun i hi => absurd hi (Nat.not_lt_zero i)⟩, ?_⟩ | refine ⟨⟨_, rfl, ⟨rfl, rfl, .inl rfl, (fun h => by first | exact h | cases h), (fun h => by first | exact h | cases h), fun i hi => ren_closed (hQc i hi)⟩, fun i hi => inn_closed (hQc i hi)⟩, ?_⟩)
      · repeat' (first | exact trivial | exact rfl | refine And.intro ?_ ?_)
  · refine SG.walk tab_ok mx 400 [false] [] ?_
    conv => whnf
    try dsimp only [rowL, rowN, growOk, hiN, fromL, tightN, maxOk]
    try simp (disch := omega) only [wI, wU64, wU32, wU8, Int.toNat_natCast, toNat_succ, toNat_pred, Int.reduceToNat, Option.getD_some, Option.getD_none, Nat.sub_zero, Nat.zero_add]
    refine ⟨?_, ?_⟩
    · simpa using hlt
    · have hix : ixP p L = -1 := by unfold ixP; rw [ixP_none (by omega) hk.2, if_neg (by omega)]
      rw [hix]
      refine SG.ret tab_ok Try.func30 rfl ?_
      intro ρ w' v hm hv
      exact Post.mk hm (intV (-1)) [] none [] hv rfl rows0 rfl (by simp)
end
end Go.Proofs.Ytpbpgkkfpfenhaa
