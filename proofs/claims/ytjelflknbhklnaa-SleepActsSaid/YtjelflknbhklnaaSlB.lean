/- Alarms: who is due; what the document says. -/
import Derived.Test.YtjelflknbhklnaaSlA
namespace Go.Proofs.Ytjelflknbhklnaa
open Go.Sx Go.RowKit
set_option linter.unusedVariables false
set_option linter.unusedSimpArgs false
abbrev intC (x : Int) : List At := [.v (.int .i64 x)]
abbrev rowI (L : List Int) : Row := rowL 1 intC 0 L
abbrev newI (L : List Int) : Row := rowN 1 intC 0 L 3
section
variable {W : Base} {B : List (Option (List At))} {Rs : List (Option Row)}
theorem getD_drop {α : Type} (L : List α) (k i : Nat) (d : α) : (L.drop k).getD i d = L.getD (k + i) d := by simp [List.getD_eq_getElem?_getD]
/-- Whose time hasn't come. -/
def late (n : Int) (x : E) : Bool := decide (x.1 > n)
theorem late_none {n : Int} {L : List E} (h : ∀ j, j < L.length → late n (L.getD j e0) = false) : L.findIdx (late n) = L.length := ixP_none (Nat.le_refl _) h
set_option maxRecDepth 100000 in
theorem dueE {r : Nat} {R : Row} {L : List E} {n : Int} (hr : Rs[r]? = some (some R)) (hR : RowLe R (rowE L)) (hl : L.length ≤ 8796093022100) :
    CallOk Try.prog W B Rs 10 [rsV r, .cv (.one (.v (.int .u64 n)))] (mkHd (.tup [.one (.rs 0), .one (.rs 1)]) [newI ((L.take (L.findIdx (late n))).map (·.2)), newE (L.drop (L.findIdx (late n)))]) := by
  refine CallOk.enter Try.func10 (by kernel_rfl) rfl [r] [rowE L] [rsV 0, .cv (.one (.v (.int .u64 n)))] rfl (rows1 (.ro_ hr hR rfl rfl (fun _ _ => rfl))) (fun r h => by cases h) rfl rfl ?_
  intro w blk hblk
  refine SG.walk tab_ok mx 400 [] [] ?_
  conv => whnf
  try dsimp only [rowL, rowN, growOk, hiN, fromL, tightN, maxOk]
  try simp (disch := omega) only [wI, wU64, wU32, wU8, Int.toNat_natCast, toNat_succ, toNat_pred, Int.reduceToNat, Option.getD_some, Option.getD_none, Nat.sub_zero, Nat.zero_add]
  refine ⟨?_, ?_⟩
  · trivial
  refine SG.nilRow 6 3 1 rfl ?_
  refine SG.norm ?_
  conv => whnf
  refine SG.loop (fun k : Nat => ⟨puts (List.replicate (Try.f10).ntmps .any) [(0, rsV 0), (1, .cv (.one (.v (.int .u64 n)))), (6, rsV 1), (9, intV L.length), (10, intV k)], [], [some (rowE L), some (newI ((L.take k).map (·.2)))], []⟩) (fun k => k ≤ L.length ∧ ∀ j, j < k → late n (L.getD j e0) = false) (fun k => L.length - k) (0) (⟨Nat.zero_le _, fun j hj => by omega⟩) (fun h => SG.sub [] [0, 1] ⟨?_, ?_, ?_, by decide, rfl, rfl, rfl, ?_⟩ h) ?_
  · repeat' (first | exact trivial | exact rfl | refine And.intro ?_ ?_)
  · repeat' (first | exact trivial | exact rfl | refine And.intro ?_ ?_)
  · repeat' (first | exact trivial | refine ⟨⟨_, rfl, ⟨rfl, rfl, .inl rfl, (fun h => by first | exact h | cases h), (fun h => by first | exact h | cases h), fun _ _ => rfl⟩, fun _ _ => rfl⟩, ?_⟩ | refine ⟨⟨_, rfl, ⟨rfl, rfl, .inr rfl, (fun h => by first | exact h | cases h), (fun h => by first | exact h | cases h), fun _ _ => rfl⟩, fun _ _ => rfl⟩, ?_⟩ | refine ⟨⟨_, rfl, ⟨rfl, rfl, .inr rfl, (fun h => by first | exact h | cases h), (fun h => by first | exact h | cases h), fun i hi => absurd hi (Nat.not_lt_zero i)⟩, fun i hi => absurd hi (Nat.not_lt_zero i)⟩, ?_⟩ | refine ⟨⟨_, rfl, ⟨rfl, rfl, .inl rfl, (fun h => by first | exact h | cases h), (fun h => by first | exact h | cases h), fun i hi => ren_closed (hQc i hi)⟩, fun i hi => inn_closed (hQc i hi)⟩, ?_⟩)
  · repeat' (first | exact trivial | exact rfl | refine And.intro ?_ ?_)
  intro k hk next
  by_cases hlt : k < L.length
  · by_cases hp : (L.getD k e0).1 > n
    · have hix : L.findIdx (late n) = k := ixP_at hlt (by simpa [late] using hp) hk.2
      rw [hix]
      refine SG.walk tab_ok mx 400 [true, true] [mkHd (rsV 0) [newE (L.drop k)]] ?_
      conv => whnf
      try dsimp only [rowL, rowN, growOk, hiN, fromL, tightN, maxOk]
      try simp (disch := omega) only [wI, wU64, wU32, wU8, Int.toNat_natCast, toNat_succ, toNat_pred, Int.reduceToNat, Option.getD_some, Option.getD_none, Nat.sub_zero, Nat.zero_add]
      refine ⟨?_, ?_⟩
      · exact ⟨cloneE (r := 2) rfl (.of rfl (by simp) (fun i hi => by rw [getD_drop])) (by simp; omega), ⟨by omega, by omega, by omega, trivial⟩, by simpa using hp, by omega, by omega, by simpa using hlt⟩
      · refine SG.ret tab_ok Try.func10 rfl ?_
        intro ρ w' v hm hv
        exact Post.mk hm (.tup [.one (.rs 0), .one (.rs 1)]) [newI ((L.take k).map (·.2)), newE (L.drop k)] none [1, 3] hv rfl (rows2 (.of rfl rfl rfl rfl rfl (fun i hi => rfl) (fun _ => rfl)) (.of rfl rfl rfl rfl rfl (fun i hi => rfl) (fun _ => rfl))) rfl (by simp)
    · refine SG.walk tab_ok mx 400 [true, false] [] ?_
      conv => whnf
      try dsimp only [rowL, rowN, growOk, hiN, fromL, tightN, maxOk]
      try simp (disch := omega) only [wI, wU64, wU32, wU8, Int.toNat_natCast, toNat_succ, toNat_pred, Int.reduceToNat, Option.getD_some, Option.getD_none, Nat.sub_zero, Nat.zero_add]
      refine ⟨?_, ?_⟩
      · simp only [List.length_map, List.length_take]
        try simp only [beq_iff_eq, beq_eq_false_iff_ne, bne_iff_ne, bne_eq_false_iff_eq, decide_eq_true_eq, decide_eq_false_iff_not, ne_eq, Bool.not_eq_true', Bool.not_eq_false', Bool.not_eq_eq_eq_not, Bool.not_true, Bool.not_false]
        try omega
      refine SG.sub [] [0, 3] ⟨?_, ?_, ?_, by decide, rfl, rfl, rfl, ?_⟩ (next (k + 1) ⟨hlt, upto_succ hk.2 (by simpa [late] using hp)⟩ (by omega))
      · repeat' (first | exact trivial | exact rfl | refine And.intro ?_ ?_)
      · repeat' (first | exact trivial | exact rfl | refine And.intro ?_ ?_)
      · first | refine ⟨⟨_, rfl, ⟨rfl, rfl, .inl rfl, (fun h => by first | exact h | cases h), (fun h => by first | exact h | cases h), fun _ _ => rfl⟩, fun _ _ => rfl⟩, ?_⟩ | refine ⟨⟨_, rfl, ⟨rfl, rfl, .inr rfl, (fun h => by first | exact h | cases h), (fun h => by first | exact h | cases h), fun _ _ => rfl⟩, fun _ _ => rfl⟩, ?_⟩ | refine ⟨⟨_, rfl, ⟨rfl, rfl, .inr rfl, (fun h => by first | exact h | cases h), (fun h => by first | exact h | cases h), fun i hi => absurd hi (Nat.not_lt_zero i)⟩, fun i hi => absurd hi (Nat.not_lt_zero i)⟩, ?_⟩ | refine ⟨⟨_, rfl, ⟨rfl, rfl, .inl rfl, (fun h => by first | exact h | cases h), (fun h => by first | exact h | cases h), fun i hi => ren_closed (hQc i hi)⟩, fun i hi => inn_closed (hQc i hi)⟩, ?_⟩
        refine ⟨⟨_, rfl, (RowLe.snoc (map_take_snoc (d := e0) hlt) rfl (fun i hi => if_pos hi) (by rw [if_neg (Nat.lt_irrefl _), Nat.sub_self]; rfl) (fun _ => rfl)), fun _ _ => rfl⟩, ?_⟩
        exact trivial
      · repeat' (first | exact trivial | exact rfl | refine And.intro ?_ ?_)
  · have hix : L.findIdx (late n) = L.length := late_none fun j hj => hk.2 j (by omega)
    rw [hix]
    refine SG.walk tab_ok mx 400 [false] [] ?_
    conv => whnf
    try dsimp only [rowL, rowN, growOk, hiN, fromL, tightN, maxOk]
    try simp (disch := omega) only [wI, wU64, wU32, wU8, Int.toNat_natCast, toNat_succ, toNat_pred, Int.reduceToNat, Option.getD_some, Option.getD_none, Nat.sub_zero, Nat.zero_add]
    refine ⟨?_, ?_⟩
    · simpa using hlt
    refine SG.nilRow 5 25 2 rfl ?_
    refine SG.norm ?_
    conv => whnf
    have hkl : k = L.length := by omega
    subst hkl
    refine SG.ret tab_ok Try.func10 rfl ?_
    intro ρ w' v hm hv
    exact Post.mk hm (.tup [.one (.rs 0), .one (.rs 1)]) [newI ((L.take L.length).map (·.2)), newE (L.drop L.length)] none [1, 2] hv rfl (rows2 (.of rfl rfl rfl rfl rfl (fun i hi => rfl) (fun _ => rfl)) (.of rfl rfl rfl (by simp) rfl (fun i hi => absurd hi (Nat.not_lt_zero i)) (fun _ => rfl))) rfl (by simp)
end
end Go.Proofs.Ytjelflknbhklnaa
