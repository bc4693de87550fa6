/- Who is dropped. -/
import Derived.Test.YtanckelknhiaaaaTurB
import Derived.Test.YtanckelknhiaaaaSxU
namespace Go.Proofs.Ytanckelknhiaaaa
open Go.Sx Go.RowKit
set_option linter.unusedVariables false
set_option linter.unusedSimpArgs false
section
variable {W : Base} {B : List (Option (List At))} {Rs : List (Option Row)}
abbrev frI (L : List Int) : Row := ⟨1, L.length, fun i => intC (L.getD i 0), none, false, true⟩
theorem kill2 {r q : Nat} (hne : r ≠ q) : ∀ r', some r = some r' → ∀ (k k' : Nat), [r, q][k]? = some r' → [r, q][k']? = some r' → k = k' := by
  intro r' h k k' h1 h2
  injection h with h; subst h
  have key : ∀ k : Nat, [r, q][k]? = some r → k = 0 := fun k h => by
    match k, h with
    | 0, _ => rfl
    | 1, h => simp at h; exact absurd h.symm hne
    | k + 2, h => simp at h
  rw [key k h1, key k' h2]
theorem ix_lt {p : Int} {L : List Int} (hp : p ∈ L) : ixOf p L = (L.idxOf p : Int) ∧ L.idxOf p < L.length := ⟨if_pos hp, List.idxOf_lt_length_iff.2 hp⟩
theorem take_filter {p : Int} {L : List Int} {m : Nat} (hm : m < L.length) (h : L.getD m 0 = p) (hb : ∀ j, j < m → L.getD j 0 ≠ p) : L.take m = (L.take (m + 1)).filter (· ≠ p) := by
  have e : L[m] = p := by simpa [List.getD_eq_getElem?_getD, hm] using h
  rw [List.take_succ_eq_append_getElem hm, List.filter_append, e]
  have h1 : (L.take m).filter (· ≠ p) = L.take m := by
    rw [List.filter_eq_self]
    intro x hx
    obtain ⟨j, hj, rfl⟩ := List.mem_take_iff_getElem.1 hx
    have := hb j (by omega)
    simpa [List.getD_eq_getElem?_getD, show j < L.length by omega] using this
  rw [h1]; simp
theorem idx_before {p : Int} : ∀ {L : List Int} {j : Nat}, j < L.idxOf p → L.getD j 0 ≠ p
  | [], j, h => by simp at h
  | x :: L, 0, h => by
    rw [List.idxOf_cons] at h
    by_cases e : x = p
    · simp [e] at h
    · simpa using e
  | x :: L, j + 1, h => by
    rw [List.idxOf_cons] at h
    by_cases e : x = p
    · simp [e] at h
    · have e' : (x == p) = false := by simpa using e
      rw [e'] at h
      simp only [cond_false] at h
      have := idx_before (p := p) (L := L) (j := j) (by omega)
      simpa using this
structure DelI (p : Int) (L : List Int) (i j : Nat) (C : List Int) : Prop where
  len : C.length = L.length
  le : j ≤ L.length
  lt : i < j
  fore : C.take i = (L.take j).filter (· ≠ p)
  aft : ∀ q, j ≤ q → C.getD q 0 = L.getD q 0
theorem DelI.skip {p : Int} {L C : List Int} {i j : Nat} (h : DelI p L i j C) (hj : j < L.length) (hp : L.getD j 0 = p) : DelI p L i (j + 1) C := by
  refine ⟨h.len, hj, by have := h.lt; omega, ?_, fun q hq => h.aft q (by omega)⟩
  have e : L[j] = p := by simpa [List.getD_eq_getElem?_getD, hj] using hp
  rw [List.take_succ_eq_append_getElem hj, List.filter_append, e, ← h.fore]; simp
theorem DelI.put {p : Int} {L C : List Int} {i j : Nat} (h : DelI p L i j C) (hj : j < L.length) (hp : L.getD j 0 ≠ p) : DelI p L (i + 1) (j + 1) (C.set i (L.getD j 0)) := by
  have hlt := h.lt
  have hlen := h.len
  refine ⟨by simp [hlen], hj, by omega, ?_, fun q hq => ?_⟩
  · have e : L.getD j 0 = L[j] := by simp [List.getD_eq_getElem?_getD, hj]
    rw [e] at hp
    rw [e, List.take_succ_eq_append_getElem hj, List.filter_append, ← h.fore, List.take_succ_eq_append_getElem (by simp; omega)]
    simp [hp, List.take_set_of_le]
  · simp only [List.getD_eq_getElem?_getD]
    rw [List.getElem?_set_ne (by omega)]
    have := h.aft q (by omega)
    simpa [List.getD_eq_getElem?_getD] using this
theorem setI_cells (L : List Int) (k : Nat) (x : Int) (hk : k < L.length) (i : Nat) : intC ((L.set k x).getD i 0) = if i = k then intC x else intC (L.getD i 0) := by
  simp only [List.getD_eq_getElem?_getD]
  split
  · rename_i h; subst h
    simp [hk]
  · rename_i h
    rw [List.getElem?_set_ne (Ne.symm h)]
set_option maxRecDepth 100000 in
theorem deleteF {r q : Nat} {R Rq : Row} {L : List Int} {p : Int} (hr : Rs[r]? = some (some R)) (hR : RowLe R (newI L)) (hq : Rs[q]? = some (some Rq)) (hRq : RowLe Rq (pidRow p)) (hne : r ≠ q) (hl : L.length ≤ 17592186044416) (hp : p ∈ L) :
    CallOk Try.prog W B Rs 22 [rsV r, cloV q] (mkHd (rsV 0) [frI (L.filter (· ≠ p))] (some r)) := by
  refine CallOk.enter Try.func22 (by kernel_rfl) rfl [r, q] [newI L, pidRow p] [rsV 0, cloV 1] rfl (rows2 (.own_ hr hR rfl (fun _ _ => rfl)) (.ro_ hq hRq rfl rfl (fun _ _ => rfl))) (kill2 hne) rfl rfl ?_
  intro w blk hblk
  obtain ⟨hix, hlt0⟩ := ix_lt hp
  generalize hm : L.idxOf p = m at hix hlt0
  have hm0 : L.getD m 0 = p := by subst hm; simp [List.getD_eq_getElem?_getD, hlt0]
  have hmb : ∀ j, j < m → L.getD j 0 ≠ p := fun j hj h => by
    exact idx_before (by rw [hm]; exact hj) h
  have hI : DelI p L m (m + 1) L := ⟨rfl, hlt0, Nat.lt_succ_self _, take_filter hlt0 hm0 hmb, fun _ _ => rfl⟩
  refine SG.walk tab_ok mx 400 [false] [mkHd (intV (m : Int)) []] ?_
  conv => whnf
  try dsimp only [rowL, rowN, growOk, hiN, fromL, tightN, maxOk]
  try simp (disch := omega) only [wI, wU64, wU32, wU8, Int.toNat_natCast, Int.reduceToNat, Option.getD_some, Option.getD_none, Nat.sub_zero, Nat.zero_add]
  refine ⟨?_, ?_⟩
  · exact ⟨by simp only [beq_eq_false_iff_ne, ne_eq]; omega, by rw [← hix]; exact indexF (r := 0) (q := 1) rfl (.of rfl rfl (fun _ _ => rfl)) rfl (.of rfl rfl (fun _ _ => rfl)) hl⟩
  refine SG.loop (fun x : Nat × Nat × List Int => ⟨puts (List.replicate (Try.f22).ntmps .any) [(0, rsV 0), (1, cloV 1), (5, intV x.1), (6, intV x.2.1)], [], [some (newI x.2.2), some (pidRow p)]⟩) (fun x => DelI p L x.1 x.2.1 x.2.2) (fun x => L.length - x.2.1) ((m, m + 1, L)) (hI) (fun h => SG.sub [] [0, 1] ⟨?_, ?_, ?_, by decide, rfl, rfl, rfl⟩ h) ?_
  · repeat' (first | exact trivial | exact rfl | refine And.intro ?_ ?_)
  · repeat' (first | exact trivial | exact rfl | refine And.intro ?_ ?_)
  · repeat' (first | exact trivial | refine ⟨⟨_, rfl, ⟨rfl, rfl, .inl rfl, (fun h => by first | exact h | cases h), (fun h => by first | exact h | cases h), fun _ _ => rfl⟩, fun _ _ => rfl⟩, ?_⟩ | refine ⟨⟨_, rfl, ⟨rfl, rfl, .inr rfl, (fun h => by first | exact h | cases h), (fun h => by first | exact h | cases h), fun _ _ => rfl⟩, fun _ _ => rfl⟩, ?_⟩)
  rintro ⟨i, j, C⟩ hk next
  dsimp only at hk next ⊢
  have hkl := hk.len
  have hkt := hk.lt
  have hkj := hk.le
  by_cases hlt : j < L.length
  · have hCj := hk.aft j (Nat.le_refl _)
    by_cases hpj : L.getD j 0 = p
    · refine SG.walk tab_ok mx 400 [true, false] [mkHd (.cv (.one (.v (.bool (C.getD j 0 == p))))) []] ?_
      conv => whnf
      try dsimp only [rowL, rowN, growOk, hiN, fromL, tightN, maxOk]
      try simp (disch := omega) only [wI, wU64, wU32, wU8, Int.toNat_natCast, Int.reduceToNat, Option.getD_some, Option.getD_none, Nat.sub_zero, Nat.zero_add]
      refine ⟨?_, ?_⟩
      · exact ⟨by rw [hCj]; simpa using hpj, isit (r := 1) rfl (.of rfl rfl (fun _ _ => rfl)), by omega, by omega, by simp only [decide_eq_true_eq]; omega⟩
      refine SG.sub [] [0, 1] ⟨?_, ?_, ?_, by decide, rfl, rfl, rfl⟩ (next (i, j + 1, C) (hk.skip hlt hpj) (by simp; omega))
      · repeat' (first | exact trivial | exact rfl | refine And.intro ?_ ?_)
      · repeat' (first | exact trivial | exact rfl | refine And.intro ?_ ?_)
      · repeat' (first | exact trivial | refine ⟨⟨_, rfl, ⟨rfl, rfl, .inl rfl, (fun h => by first | exact h | cases h), (fun h => by first | exact h | cases h), fun _ _ => rfl⟩, fun _ _ => rfl⟩, ?_⟩ | refine ⟨⟨_, rfl, ⟨rfl, rfl, .inr rfl, (fun h => by first | exact h | cases h), (fun h => by first | exact h | cases h), fun _ _ => rfl⟩, fun _ _ => rfl⟩, ?_⟩)
    · refine SG.walk tab_ok mx 400 [true, true] [mkHd (.cv (.one (.v (.bool (C.getD j 0 == p))))) []] ?_
      conv => whnf
      try dsimp only [rowL, rowN, growOk, hiN, fromL, tightN, maxOk]
      try simp (disch := omega) only [wI, wU64, wU32, wU8, Int.toNat_natCast, Int.reduceToNat, Option.getD_some, Option.getD_none, Nat.sub_zero, Nat.zero_add]
      refine ⟨?_, ?_⟩
      · exact ⟨by omega, by omega, by rw [hCj]; simpa using hpj, isit (r := 1) rfl (.of rfl rfl (fun _ _ => rfl)), by omega, by omega, by simp only [decide_eq_true_eq]; omega⟩
      refine SG.sub [] [0, 1] ⟨?_, ?_, ?_, by decide, rfl, rfl, rfl⟩ (next (i + 1, j + 1, C.set i (C.getD j 0)) (by rw [hCj]; exact hk.put hlt hpj) (by simp; omega))
      · repeat' (first | exact trivial | exact rfl | refine And.intro ?_ ?_)
      · exact trivial
      · refine ⟨⟨_, rfl, ⟨rfl, by show (C.set i (C.getD j 0)).length = C.length; simp, .inr rfl, id, id, fun q hq => setI_cells C i (C.getD j 0) (by omega) q⟩, fun _ _ => rfl⟩, ⟨_, rfl, ⟨rfl, rfl, .inl rfl, id, id, fun _ _ => rfl⟩, fun _ _ => rfl⟩, trivial⟩
  · have hjL : j = L.length := by omega
    have hfin : C.take i = L.filter (· ≠ p) := by rw [hk.fore, hjL, List.take_length]
    refine SG.walk tab_ok mx 14 [false] [] ?_
    conv => whnf
    try dsimp only [rowL, rowN, growOk, hiN, fromL, tightN, maxOk]
    try simp (disch := omega) only [wI, wU64, wU32, wU8, Int.toNat_natCast, Int.reduceToNat, Option.getD_some, Option.getD_none, Nat.sub_zero, Nat.zero_add]
    refine ⟨?_, ?_⟩
    · simp only [decide_eq_false_iff_not]; omega
    refine SG.clearTail tab_ok (x := 36) (y := 37) (d := 38) (r := 0) (n := (i : Int)) rfl rfl rfl rfl rfl rfl rfl rfl rfl rfl rfl rfl rfl rfl rfl rfl rfl rfl (of_decide_eq_true rfl) ⟨by omega, by show (i : Int) < (C.length : Int); omega⟩ ?_
    refine SG.walk tab_ok mx 400 [] [] ?_
    conv => whnf
    try dsimp only [rowL, rowN, growOk, hiN, fromL, tightN, maxOk]
    try simp (disch := omega) only [wI, wU64, wU32, wU8, Int.toNat_natCast, Int.reduceToNat, Option.getD_some, Option.getD_none, Nat.sub_zero, Nat.zero_add]
    refine ⟨?_, ?_⟩
    · exact ⟨by omega, by omega, by omega, trivial⟩
    have hil : i = (L.filter (· ≠ p)).length := by rw [← hfin, List.length_take]; omega
    have hic : ∀ q, q < i → (L.filter (· ≠ p)).getD q 0 = C.getD q 0 := fun q hq => by
      rw [← hfin]; simp [List.getD_eq_getElem?_getD, hq]
    refine SG.ret tab_ok Try.func22 rfl ?_
    intro ρ w' v hm hv
    exact Post.mk hm (rsV 0) [frI (L.filter (· ≠ p))] none [2] hv rfl (rows1 ⟨⟨_, rfl, ⟨rfl, hil.symm, .inl rfl, (fun h => by cases h), id, fun q hq => by dsimp only at hq ⊢; rw [if_pos hq, hic q hq]⟩, rfl⟩, fun _ _ => rfl⟩) rfl (by simp)
set_option maxRecDepth 100000 in
theorem deleteN {r q : Nat} {R Rq : Row} {L : List Int} {p : Int} (hr : Rs[r]? = some (some R)) (hR : RowLe R (newI L)) (hq : Rs[q]? = some (some Rq)) (hRq : RowLe Rq (pidRow p)) (hne : r ≠ q) (hl : L.length ≤ 17592186044416) (hp : ¬ p ∈ L) :
    CallOk Try.prog W B Rs 22 [rsV r, cloV q] (mkHd (rsV 0) [frI L] (some r)) := by
  refine CallOk.enter Try.func22 (by kernel_rfl) rfl [r, q] [newI L, pidRow p] [rsV 0, cloV 1] rfl (rows2 (.own_ hr hR rfl (fun _ _ => rfl)) (.ro_ hq hRq rfl rfl (fun _ _ => rfl))) (kill2 hne) rfl rfl ?_
  intro w blk hblk
  have hix : ixOf p L = -1 := if_neg hp
  refine SG.walk tab_ok mx 400 [true] [mkHd (intV (-1)) []] ?_
  conv => whnf
  try dsimp only [rowL, rowN, growOk, hiN, fromL, tightN, maxOk]
  try simp (disch := omega) only [wI, wU64, wU32, wU8, Int.toNat_natCast, Int.reduceToNat, Option.getD_some, Option.getD_none, Nat.sub_zero, Nat.zero_add]
  refine ⟨?_, ?_⟩
  · exact ⟨rfl, by rw [← hix]; exact indexF (r := 0) (q := 1) rfl (.of rfl rfl (fun _ _ => rfl)) rfl (.of rfl rfl (fun _ _ => rfl)) hl⟩
  refine SG.ret tab_ok Try.func22 rfl ?_
  intro ρ w' v hm hv
  exact Post.mk hm (rsV 0) [frI L] none [0] hv rfl (rows1 ⟨⟨_, rfl, ⟨rfl, rfl, .inl rfl, (fun h => by cases h), id, fun q hq => rfl⟩, rfl⟩, fun _ _ => rfl⟩) rfl (by simp)
theorem deleteA {r q : Nat} {R Rq : Row} {L : List Int} {p : Int} (hr : Rs[r]? = some (some R)) (hR : RowLe R (newI L)) (hq : Rs[q]? = some (some Rq)) (hRq : RowLe Rq (pidRow p)) (hne : r ≠ q) (hl : L.length ≤ 17592186044416) :
    CallOk Try.prog W B Rs 22 [rsV r, cloV q] (mkHd (rsV 0) [frI (L.filter (· ≠ p))] (some r)) := by
  by_cases hp : p ∈ L
  · exact deleteF hr hR hq hRq hne hl hp
  · have e : L.filter (· ≠ p) = L := by
      rw [List.filter_eq_self]
      intro x hx
      simp; rintro rfl; exact hp hx
    rw [e]
    exact deleteN hr hR hq hRq hne hl hp
set_option maxRecDepth 100000 in
theorem dropF {r : Nat} {R : Row} {L : List Int} {l p : Int} (hr : Rs[r]? = some (some R)) (hR : RowLe R (rowI L)) (hl : L.length ≤ 17592186044416) :
    CallOk Try.prog W B Rs 15 [turnV r l, intV p] (mkHd (turnV 0 (if ixOf p L = 0 then 5 else l)) [frI (L.filter (· ≠ p))]) := by
  refine CallOk.enter Try.func15 (by kernel_rfl) rfl [r] [rowI L] [turnV 0 l, intV p] rfl (rows1 (.ro_ hr hR rfl rfl (fun _ _ => rfl))) (fun r h => by cases h) rfl rfl ?_
  intro w blk hblk
  by_cases h0 : ixOf p L = 0
  · rw [if_pos h0]
    refine SG.walk tab_ok mx 400 [true] [mkHd (.cv (.one (.clo 23 [.rp 0 0 1 0]))) [⟨1, 1, fun _ => intC p, none, true, true⟩], mkHd (intV (ixOf p L)) [], mkHd (rsV 0) [newI L], mkHd (.cv (.one (.clo 23 [.rp 0 0 1 0]))) [⟨1, 1, fun _ => intC p, none, true, true⟩], mkHd (rsV 0) [frI (L.filter (· ≠ p))] (some 3)] ?_
    conv => whnf
    try dsimp only [rowL, rowN, growOk, hiN, fromL, tightN, maxOk]
    try simp (disch := omega) only [wI, wU64, wU32, wU8, Int.toNat_natCast, Int.reduceToNat, Option.getD_some, Option.getD_none, Nat.sub_zero, Nat.zero_add]
    refine ⟨?_, ?_⟩
    · refine ⟨deleteA (r := 3) (q := 4) rfl (.refl _) rfl (.of rfl rfl (fun _ _ => rfl)) (by decide) hl, isof, joined1 (q := 2) (a := 0) (L := L) rfl rfl (.of rfl rfl (fun i hi => rfl)) (.of rfl rfl (fun _ _ => rfl)) hl, by simpa using h0, indexF (r := 0) (q := 1) rfl (.of rfl rfl (fun _ _ => rfl)) rfl (.of rfl rfl (fun _ _ => rfl)) hl, isof⟩
    refine SG.ret tab_ok Try.func15 rfl ?_
    intro ρ w' v hm hv
    exact Post.mk hm (turnV 0 5) [frI (L.filter (· ≠ p))] none [5] hv rfl (rows1 ⟨⟨_, rfl, .refl _, rfl⟩, fun _ _ => rfl⟩) rfl (by simp)
  · rw [if_neg h0]
    refine SG.walk tab_ok mx 400 [false] [mkHd (.cv (.one (.clo 23 [.rp 0 0 1 0]))) [⟨1, 1, fun _ => intC p, none, true, true⟩], mkHd (intV (ixOf p L)) [], mkHd (rsV 0) [newI L], mkHd (.cv (.one (.clo 23 [.rp 0 0 1 0]))) [⟨1, 1, fun _ => intC p, none, true, true⟩], mkHd (rsV 0) [frI (L.filter (· ≠ p))] (some 3)] ?_
    conv => whnf
    try dsimp only [rowL, rowN, growOk, hiN, fromL, tightN, maxOk]
    try simp (disch := omega) only [wI, wU64, wU32, wU8, Int.toNat_natCast, Int.reduceToNat, Option.getD_some, Option.getD_none, Nat.sub_zero, Nat.zero_add]
    refine ⟨?_, ?_⟩
    · refine ⟨deleteA (r := 3) (q := 4) rfl (.refl _) rfl (.of rfl rfl (fun _ _ => rfl)) (by decide) hl, isof, joined1 (q := 2) (a := 0) (L := L) rfl rfl (.of rfl rfl (fun i hi => rfl)) (.of rfl rfl (fun _ _ => rfl)) hl, by simpa using h0, indexF (r := 0) (q := 1) rfl (.of rfl rfl (fun _ _ => rfl)) rfl (.of rfl rfl (fun _ _ => rfl)) hl, isof⟩
    refine SG.ret tab_ok Try.func15 rfl ?_
    intro ρ w' v hm hv
    exact Post.mk hm (turnV 0 l) [frI (L.filter (· ≠ p))] none [5] hv rfl (rows1 ⟨⟨_, rfl, .refl _, rfl⟩, fun _ _ => rfl⟩) rfl (by simp)
end
end Go.Proofs.Ytanckelknhiaaaa
