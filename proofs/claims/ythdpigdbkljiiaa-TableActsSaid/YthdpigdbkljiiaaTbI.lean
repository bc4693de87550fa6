/- Tables: statements, on: put in twice. -/
import Derived.Test.YthdpigdbkljiiaaTbG
namespace Go.Proofs.Ythdpigdbkljiiaa
open Go.Sx Go.RowKit
set_option linter.unusedVariables false
set_option linter.unusedSimpArgs false
def eqB (x y : E) : Bool := (x.pid == y.pid && (x.par == y.par && (x.st == y.st && (x.r0 == y.r0 && (x.r1 == y.r1 && (x.r2 == y.r2 && (x.r3 == y.r3 && (x.r4 == y.r4 && (x.r5 == y.r5 && (x.r6 == y.r6 && (x.r7 == y.r7 && (x.pc == y.pc && (x.mem.toList == y.mem.toList && (x.code == y.code && (x.p0 == y.p0 && (x.w0 == y.w0 && (x.p1 == y.p1 && (x.w1 == y.w1 && (x.p2 == y.p2 && (x.w2 == y.w2 && (x.p3 == y.p3 && (x.w3 == y.w3 && (x.n == y.n && (x.a == y.a && (x.b == y.b && x.c == y.c)))))))))))))))))))))))))
theorem eqB_refl (x : E) : eqB x x = true := by simp [eqB]
section
variable {W : Base} {B : List (Option (List At))} {Rs : List (Option Row)}
set_option maxRecDepth 100000 in
theorem sameT {r q : Nat} {R Rq : Row} {L : List E} (hr : Rs[r]? = some (some R)) (hR : RowLe R (rowE L)) (hq : Rs[q]? = some (some Rq)) (hRq : RowLe Rq (rowE L)) (hl : L.length ≤ 837723144960) :
    CallOk Try.prog W B Rs 30 [rsV r, rsV q] (hdB true) := by
  refine CallOk.enter Try.func30 (by kernel_rfl) rfl [r, q] [rowE L, rowE L] [rsV 0, rsV 1] rfl (rows2 (.ro_ hr hR rfl rfl (fun _ _ => rfl)) (.ro_ hq hRq rfl rfl (fun _ _ => rfl))) (fun r h => by cases h) rfl rfl ?_
  intro w blk hblk
  refine SG.walk tab_ok mx 400 [false] [] ?_
  conv => whnf
  try dsimp only [rowL, rowN, growOk, hiN, fromL, tightN, maxOk]
  try simp (disch := omega) only [wI, wU64, wU32, wU8, Int.toNat_natCast, toNat_succ, toNat_pred, Int.reduceToNat, Option.getD_some, Option.getD_none, Nat.sub_zero, Nat.zero_add]
  refine ⟨?_, ?_⟩
  · simp
  refine SG.loop (fun k : Nat => ⟨puts (List.replicate (Try.f30).ntmps .any) [(0, rsV 0), (1, rsV 1), (11, rsV 0), (12, intV L.length), (13, intV k)], [], [some (rowE L), some (rowE L)], []⟩) (fun k => k ≤ L.length) (fun k => L.length - k) (0) (Nat.zero_le _) (fun h => SG.sub [] [0, 1] ⟨?_, ?_, ?_, by decide, rfl, rfl, rfl, ?_⟩ h) ?_
  · repeat' (first | exact trivial | exact rfl | refine And.intro ?_ ?_)
  · repeat' (first | exact trivial | exact rfl | refine And.intro ?_ ?_)
  · repeat' (first | exact trivial | refine ⟨⟨_, rfl, ⟨rfl, rfl, .inl rfl, (fun h => by first | exact h | cases h), (fun h => by first | exact h | cases h), fun _ _ => rfl⟩, fun _ _ => rfl⟩, ?_⟩ | refine ⟨⟨_, rfl, ⟨rfl, rfl, .inr rfl, (fun h => by first | exact h | cases h), (fun h => by first | exact h | cases h), fun _ _ => rfl⟩, fun _ _ => rfl⟩, ?_⟩ | refine ⟨⟨_, rfl, ⟨rfl, rfl, .inr rfl, (fun h => by first | exact h | cases h), (fun h => by first | exact h | cases h), fun i hi => absurd hi (Nat.not_lt_zero i)⟩, fun i hi => absurd hi (Nat.not_lt_zero i)⟩, ?_⟩ | refine ⟨⟨_, rfl, ⟨rfl, rfl, .inl rfl, (fun h => by first | exact h | cases h), (fun h => by first | exact h | cases h), fun i hi => ren_closed (hQc i hi)⟩, fun i hi => inn_closed (hQc i hi)⟩, ?_⟩)
  · repeat' (first | exact trivial | exact rfl | refine And.intro ?_ ?_)
  intro k hk next
  by_cases hlt : k < L.length
  · refine SG.walk tab_ok mx 400 [true, false] [] ?_
    conv => whnf
    try dsimp only [rowL, rowN, growOk, hiN, fromL, tightN, maxOk]
    try simp (disch := omega) only [wI, wU64, wU32, wU8, Int.toNat_natCast, toNat_succ, toNat_pred, Int.reduceToNat, Option.getD_some, Option.getD_none, Nat.sub_zero, Nat.zero_add]
    refine ⟨?_, ?_⟩
    · refine ⟨by simp, ?_⟩
      try simp only [beq_iff_eq, beq_eq_false_iff_ne, bne_iff_ne, bne_eq_false_iff_eq, decide_eq_true_eq, decide_eq_false_iff_not, ne_eq, Bool.not_eq_true', Bool.not_eq_false', Bool.not_eq_eq_eq_not, Bool.not_true, Bool.not_false, true_and, and_true]
      try omega
    refine SG.sub [] [0, 1] ⟨?_, ?_, ?_, by decide, rfl, rfl, rfl, ?_⟩ (next (k + 1) hlt (by omega))
    · repeat' (first | exact trivial | exact rfl | refine And.intro ?_ ?_)
    · repeat' (first | exact trivial | exact rfl | refine And.intro ?_ ?_)
    · repeat' (first | exact trivial | refine ⟨⟨_, rfl, ⟨rfl, rfl, .inl rfl, (fun h => by first | exact h | cases h), (fun h => by first | exact h | cases h), fun _ _ => rfl⟩, fun _ _ => rfl⟩, ?_⟩ | refine ⟨⟨_, rfl, ⟨rfl, rfl, .inr rfl, (fun h => by first | exact h | cases h), (fun h => by first | exact h | cases h), fun _ _ => rfl⟩, fun _ _ => rfl⟩, ?_⟩ | refine ⟨⟨_, rfl, ⟨rfl, rfl, .inr rfl, (fun h => by first | exact h | cases h), (fun h => by first | exact h | cases h), fun i hi => absurd hi (Nat.not_lt_zero i)⟩, fun i hi => absurd hi (Nat.not_lt_zero i)⟩, ?_⟩ | refine ⟨⟨_, rfl, ⟨rfl, rfl, .inl rfl, (fun h => by first | exact h | cases h), (fun h => by first | exact h | cases h), fun i hi => ren_closed (hQc i hi)⟩, fun i hi => inn_closed (hQc i hi)⟩, ?_⟩)
    · repeat' (first | exact trivial | exact rfl | refine And.intro ?_ ?_)
  · refine SG.walk tab_ok mx 400 [false] [] ?_
    conv => whnf
    try dsimp only [rowL, rowN, growOk, hiN, fromL, tightN, maxOk]
    try simp (disch := omega) only [wI, wU64, wU32, wU8, Int.toNat_natCast, toNat_succ, toNat_pred, Int.reduceToNat, Option.getD_some, Option.getD_none, Nat.sub_zero, Nat.zero_add]
    refine ⟨?_, ?_⟩
    · try simp only [beq_iff_eq, beq_eq_false_iff_ne, bne_iff_ne, bne_eq_false_iff_eq, decide_eq_true_eq, decide_eq_false_iff_not, ne_eq, Bool.not_eq_true', Bool.not_eq_false', Bool.not_eq_eq_eq_not, Bool.not_true, Bool.not_false, true_and, and_true]
      try omega
    refine SG.ret tab_ok Try.func30 rfl ?_
    intro ρ w' v hm hv
    exact Post.mk hm (.cv (.one (.lb true))) [] none [] hv rfl rows0 rfl (by simp)
end
theorem put_twice (a : E) (L : List E) : putE a (putE a L) = putE a L := by
  have ha : isP a.pid a = true := by simp [isP]
  have key : ∀ A B : List E, A.find? (isP a.pid) = none → putE a (A ++ a :: B) = A ++ a :: B := fun A B h => by
    have hix : (A ++ a :: B).findIdx (isP a.pid) = A.length := by
      rw [List.findIdx_append]
      have h1 : A.findIdx (isP a.pid) = A.length := by
        rw [List.findIdx_eq_length]
        intro x hx
        have := List.find?_eq_none.1 h x hx
        simpa using this
      rw [h1, if_neg (Nat.lt_irrefl _), List.findIdx_cons, ha]; simp
    unfold putE
    rw [hix, if_pos (by simp)]
    rw [List.set_append_right _ _ (Nat.le_refl _), Nat.sub_self]; rfl
  obtain ⟨A, B, ⟨h1, h2, h3⟩ | ⟨y, h0, h1, h2, h3⟩⟩ := put_form a L
  · rw [h3]
    rw [h2, List.find?_append, Option.or_eq_none_iff] at h1
    exact key A B h1.1
  · rw [h3]; exact key A B h1
theorem put_gone {a : E} {L : List E} (h : hasE a.pid L = false) : (putE a L).filter (fun x => !isP a.pid x) = L := by
  rw [hasE_eq] at h
  have hn : L.find? (isP a.pid) = none := by simpa using h
  obtain ⟨A, B, ⟨h1, h2, h3⟩ | ⟨y, h0, h1, h2, h3⟩⟩ := put_form a L
  · rw [h3, List.filter_append, List.filter_cons_of_neg (by simp [isP]), ← List.filter_append, ← h2]
    rw [List.filter_eq_self]
    intro x hx
    have := List.find?_eq_none.1 hn x hx
    simpa using this
  · exfalso
    have := List.find?_eq_none.1 hn y (by rw [h2]; simp)
    exact this h0
set_option maxRecDepth 100000 in
theorem twice_walk (w : World) (c : Value) (L : List E) (p : E) (hrow : ∀ W' ρ, RowOk W' ρ w c (rowE L)) (hl : L.length ≤ 837723144950) :
    Calls Try.prog 10 #[c, .agg (eG p).toArray] w fun e w' => e = .returned (.bool true) ∧ Below w.heap.size w w' := by
  obtain ⟨A, cap, rfl, _⟩ := (hrow ⟨w, none, [], []⟩ ⟨fun _ => none, fun _ => none⟩).form
  refine calls_top Try.func10 rfl [.slice A L.length cap] [rowE L] [rsV 0, eV p] (.cons hrow rfl .nil) ⟨rfl, rfl, trivial⟩ ?_
  clear hrow
  have hkl := put_len p L
  have h2 := put_twice p L
  have hpt := fun {W : Base} {B : List (Option (List At))} {Rs : List (Option Row)} {R : Row} (h1 : Rs[0]? = some (some R)) (h2 : RowLe R (rowE L)) => @putT W B Rs 0 R L p h1 h2 (by omega)
  have hgn : hasE p.pid L = false → (putE p L).filter (fun x => !isP p.pid x) = L := put_gone
  generalize putE p L = K at *
  have hpt2 := fun {W : Base} {B : List (Option (List At))} {Rs : List (Option Row)} {R : Row} (h1 : Rs[1]? = some (some R)) (h3 : RowLe R (rowE K)) => h2 ▸ @putT W B Rs 1 R K p h1 h3 (by omega)
  obtain ⟨x, hx⟩ : ∃ x, findE p.pid L = x := ⟨_, rfl⟩
  obtain ⟨b, hb⟩ : ∃ b, hasE p.pid L = b := ⟨_, rfl⟩
  cases b with
  | true =>
    refine SG.walk tab_ok mx 400 [] [hdB true, hdE K, hdE K, hdB true, hdFind x true] ?_
    conv => whnf
    try dsimp only [rowL, rowN, growOk, hiN, fromL, tightN, maxOk]
    try simp (disch := omega) only [wI, wU64, wU32, wU8, Int.toNat_natCast, toNat_succ, toNat_pred, Int.reduceToNat, Option.getD_some, Option.getD_none, Nat.sub_zero, Nat.zero_add]
    refine ⟨?_, ?_⟩
    · exact ⟨findM (r := 0) rfl (.of rfl rfl (fun _ _ => rfl)) (by omega) hx hb, sameT (r := 2) (q := 1) (L := K) rfl (.of rfl rfl (fun _ _ => rfl)) rfl (.of rfl rfl (fun _ _ => rfl)) (by omega), hpt2 rfl (.of rfl rfl (fun _ _ => rfl)), hpt rfl (.of rfl rfl (fun _ _ => rfl)), shownE⟩
    refine SG.ret tab_ok Try.func10 rfl ?_
    intro ρ w' v hm hv
    exact top_true hm hv rfl
  | false =>
    have hrm := fun {W : Base} {B : List (Option (List At))} {Rs : List (Option Row)} {R : Row} (h1 : Rs[1]? = some (some R)) (h3 : RowLe R (rowE K)) => (hgn hb) ▸ @removeT W B Rs 1 R K p.pid h1 h3 (by omega)
    refine SG.walk tab_ok mx 400 [] [hdB true, hdE K, hdE K, hdB true, hdFind x false, hdF L, hdB true] ?_
    conv => whnf
    try dsimp only [rowL, rowN, growOk, hiN, fromL, tightN, maxOk]
    try simp (disch := omega) only [wI, wU64, wU32, wU8, Int.toNat_natCast, toNat_succ, toNat_pred, Int.reduceToNat, Option.getD_some, Option.getD_none, Nat.sub_zero, Nat.zero_add]
    refine ⟨?_, ?_⟩
    · exact ⟨sameT (r := 3) (q := 0) (L := L) rfl (.of rfl rfl (fun _ _ => rfl)) rfl (.of rfl rfl (fun _ _ => rfl)) (by omega), hrm rfl (.of rfl rfl (fun _ _ => rfl)), findM (r := 0) rfl (.of rfl rfl (fun _ _ => rfl)) (by omega) hx hb, sameT (r := 2) (q := 1) (L := K) rfl (.of rfl rfl (fun _ _ => rfl)) rfl (.of rfl rfl (fun _ _ => rfl)) (by omega), hpt2 rfl (.of rfl rfl (fun _ _ => rfl)), hpt rfl (.of rfl rfl (fun _ _ => rfl)), shownE⟩
    refine SG.ret tab_ok Try.func10 rfl ?_
    intro ρ w' v hm hv
    exact top_true hm hv rfl
end Go.Proofs.Ythdpigdbkljiiaa
