/- Numbers of two bytes. -/
import Derived.Test.YtlbldfdkicofdaaPpB
import Derived.Test.YtlbldfdkicofdaaSxAA
namespace Go.Proofs.Ytlbldfdkicofdaa
open Go.Sx Go.RowKit
set_option linter.unusedVariables false
set_option linter.unusedSimpArgs false
abbrev bC (x : UInt8) : List At := [.v (.int .u8 (x.toNat : Int))]
abbrev rowBy (l : List UInt8) : Row := rowN 1 bC 0 l 5
abbrev iC (x : Int) : List At := [.v (.int .i64 x)]
abbrev rowIs (l : List Int) : Row := rowL 1 iC 0 l
def u8o (x : Int) : UInt8 := UInt8.ofNat (IntKind.u8.wrap x).toNat
theorem u8o_cell (x : Int) : bC (u8o x) = [.v (.int .u8 (IntKind.u8.wrap x))] := by
  have h : IntKind.u8.wrap x = x % 256 := by rw [IntKind.wrap_u8]
  have : ((u8o x).toNat : Int) = IntKind.u8.wrap x := by
    unfold u8o
    rw [h]
    have h2 : 0 ≤ x % 256 ∧ x % 256 < 256 := by omega
    rw [UInt8.toNat_ofNat']
    omega
  rw [bC, this]
theorem kill2 {r q : Nat} (hne : r ≠ q) : ∀ r', some r = some r' → ∀ (k k' : Nat), [r, q][k]? = some r' → [r, q][k']? = some r' → k = k' := by
  intro r' h k k' h1 h2
  injection h with h; subst h
  have key : ∀ k : Nat, [r, q][k]? = some r → k = 0 := fun k h => by
    match k, h with
    | 0, _ => rfl
    | 1, h => simp at h; exact absurd h.symm hne
    | k + 2, h => simp at h
  rw [key k h1, key k' h2]
def enc2 (n : Int) : List UInt8 := [u8o (n.fdiv 256), u8o n]
section
variable {W : Base} {B : List (Option (List At))} {Rs : List (Option Row)}
set_option maxRecDepth 100000 in
theorem numbersC {r q : Nat} {R Q : Row} {l : List UInt8} {L : List Int} (hne : r ≠ q) (hr : Rs[r]? = some (some R)) (hR : RowLe R (rowBy l)) (hq : Rs[q]? = some (some Q)) (hQ : RowLe Q (rowIs L)) (hl : l.length ≤ 1000000) (hL : L.length ≤ 8) :
    CallOk Try.prog W B Rs 18 [rsV r, rsV q] (mkHd (rsV 0) [rowBy (l ++ L.flatMap enc2)] (some r)) := by
  refine CallOk.enter Try.func18 (by kernel_rfl) rfl [r, q] [rowBy l, rowIs L] [rsV 0, rsV 1] rfl (rows2 (.own_ hr hR rfl (fun _ _ => rfl)) (.ro_ hq hQ rfl rfl (fun _ _ => rfl))) (kill2 hne) rfl rfl ?_
  intro w blk hblk
  refine SG.walk tab_ok mx 400 [] [] ?_
  conv => whnf
  try dsimp only [rowL, rowN, growOk, hiN, fromL, tightN, maxOk]
  refine ⟨?_, ?_⟩
  · repeat' apply And.intro
    all_goals first
      | trivial
      | rfl
      | omega
      | ((try dsimp only [rowL, rowN]); simp only [beq_iff_eq, beq_eq_false_iff_ne, bne_iff_ne, bne_eq_false_iff_eq, decide_eq_true_eq, decide_eq_false_iff_not, ne_eq, Bool.not_eq_true', Bool.not_eq_false', Bool.not_eq_eq_eq_not, Bool.not_true, Bool.not_false, Option.some.injEq, Option.getD_some, Option.getD_none]; omega)
      | (simp; done)
      | (simp; omega)
  refine SG.loop (fun k : Nat => ⟨puts (List.replicate (Try.f18).ntmps .any) [(0, rsV 0), (7, rsV 1), (8, intV L.length), (9, intV k)], [], [some (rowBy (l ++ (L.take k).flatMap enc2)), some (rowIs L)], []⟩) (fun k => k ≤ L.length ∧ (l ++ (L.take k).flatMap enc2).length = l.length + 2 * k) (fun k => L.length - k) (0) (⟨Nat.zero_le _, by simp⟩) (fun h => SG.sub [] [0, 1] ⟨?_, ?_, ?_, by decide, rfl, rfl, rfl, ?_⟩ h) ?_
  · repeat' (first | exact trivial | exact rfl | refine And.intro ?_ ?_)
  · repeat' (first | exact trivial | exact rfl | refine And.intro ?_ ?_)
  · refine ⟨⟨_, rfl, (by simp only [List.take_zero, List.flatMap_nil, List.append_nil]; exact ⟨rfl, rfl, .inr rfl, (fun h => h), (fun _ => rfl), fun _ _ => rfl⟩), fun _ _ => rfl⟩, ?_⟩
    first | refine ⟨⟨_, rfl, ⟨rfl, rfl, .inl rfl, (fun h => by first | exact h | cases h), (fun h => by first | exact h | cases h), fun _ _ => rfl⟩, fun _ _ => rfl⟩, ?_⟩ | refine ⟨⟨_, rfl, ⟨rfl, rfl, .inr rfl, (fun h => by first | exact h | cases h), (fun h => by first | exact h | cases h), fun _ _ => rfl⟩, fun _ _ => rfl⟩, ?_⟩ | refine ⟨⟨_, rfl, ⟨rfl, rfl, .inr rfl, (fun h => by first | exact h | cases h), (fun h => by first | exact h | cases h), fun i hi => absurd hi (Nat.not_lt_zero i)⟩, fun i hi => absurd hi (Nat.not_lt_zero i)⟩, ?_⟩ | refine ⟨⟨_, rfl, ⟨rfl, rfl, .inl rfl, (fun h => by first | exact h | cases h), (fun h => by first | exact h | cases h), fun i hi => ren_closed (hQc i hi)⟩, fun i hi => inn_closed (hQc i hi)⟩, ?_⟩
    exact trivial
  · repeat' (first | exact trivial | exact rfl | refine And.intro ?_ ?_)
  rintro k ⟨hk, hm⟩ next
  try dsimp only at hk hm next ⊢
  by_cases hlt : k < L.length
  · refine SG.walk tab_ok mx 400 [true] [] ?_
    conv => whnf
    try dsimp only [rowL, rowN, growOk, hiN, fromL, tightN, maxOk]
    refine ⟨?_, ?_⟩
    · repeat' apply And.intro
      all_goals first
        | trivial
        | rfl
        | omega
        | ((try dsimp only [rowL, rowN]); simp only [beq_iff_eq, beq_eq_false_iff_ne, bne_iff_ne, bne_eq_false_iff_eq, decide_eq_true_eq, decide_eq_false_iff_not, ne_eq, Bool.not_eq_true', Bool.not_eq_false', Bool.not_eq_eq_eq_not, Bool.not_true, Bool.not_false, Option.some.injEq, Option.getD_some, Option.getD_none]; omega)
        | (simp; done)
        | (simp; omega)
    rw [wI (x := (k : Int) + 1) (by omega) (by omega)]
    have e : l ++ (L.take (k + 1)).flatMap enc2 = ((l ++ (L.take k).flatMap enc2) ++ [u8o ((L.getD k 0).fdiv 256)]) ++ [u8o (L.getD k 0)] := by
      rw [take_snoc (d := 0) hlt]; simp [enc2, - List.getD_eq_getElem?_getD]

    refine SG.sub [] [3, 1] ⟨?_, ?_, ?_, by decide, rfl, rfl, rfl, ?_⟩ (next (k + 1) ⟨hlt, by rw [e]; simp only [List.length_append, List.length_cons, List.length_nil] at hm ⊢; omega⟩ (by omega))
    · repeat' (first | exact trivial | exact rfl | refine And.intro ?_ ?_)
    · repeat' (first | exact trivial | exact rfl | refine And.intro ?_ ?_)
    · refine ⟨⟨_, rfl, (RowLe.snoc2 e rfl (fun i hi => if_pos hi) (by rw [if_neg (Nat.lt_irrefl _), Nat.sub_self]; exact (u8o_cell _).symm) (by rw [if_neg (by omega), Nat.add_sub_cancel_left]; exact (u8o_cell _).symm) (fun _ => rfl)), fun _ _ => rfl⟩, ?_⟩
      first | refine ⟨⟨_, rfl, ⟨rfl, rfl, .inl rfl, (fun h => by first | exact h | cases h), (fun h => by first | exact h | cases h), fun _ _ => rfl⟩, fun _ _ => rfl⟩, ?_⟩ | refine ⟨⟨_, rfl, ⟨rfl, rfl, .inr rfl, (fun h => by first | exact h | cases h), (fun h => by first | exact h | cases h), fun _ _ => rfl⟩, fun _ _ => rfl⟩, ?_⟩ | refine ⟨⟨_, rfl, ⟨rfl, rfl, .inr rfl, (fun h => by first | exact h | cases h), (fun h => by first | exact h | cases h), fun i hi => absurd hi (Nat.not_lt_zero i)⟩, fun i hi => absurd hi (Nat.not_lt_zero i)⟩, ?_⟩ | refine ⟨⟨_, rfl, ⟨rfl, rfl, .inl rfl, (fun h => by first | exact h | cases h), (fun h => by first | exact h | cases h), fun i hi => ren_closed (hQc i hi)⟩, fun i hi => inn_closed (hQc i hi)⟩, ?_⟩
      exact trivial
    · repeat' (first | exact trivial | exact rfl | refine And.intro ?_ ?_)
  · refine SG.walk tab_ok mx 400 [false] [] ?_
    conv => whnf
    try dsimp only [rowL, rowN, growOk, hiN, fromL, tightN, maxOk]
    refine ⟨?_, ?_⟩
    · repeat' apply And.intro
      all_goals first
        | trivial
        | rfl
        | omega
        | ((try dsimp only [rowL, rowN]); simp only [beq_iff_eq, beq_eq_false_iff_ne, bne_iff_ne, bne_eq_false_iff_eq, decide_eq_true_eq, decide_eq_false_iff_not, ne_eq, Bool.not_eq_true', Bool.not_eq_false', Bool.not_eq_eq_eq_not, Bool.not_true, Bool.not_false, Option.some.injEq, Option.getD_some, Option.getD_none]; omega)
        | (simp; done)
        | (simp; omega)
    rw [List.take_of_length_le (by omega)]
    refine SG.ret tab_ok Try.func18 rfl ?_
    intro ρ w' v hm hv
    exact Post.mk hm (rsV 0) [rowBy (l ++ L.flatMap enc2)] none [0] hv rfl (rows1 (.of rfl rfl rfl rfl rfl (fun _ _ => rfl) (fun _ => rfl))) rfl (by simp)
end
end Go.Proofs.Ytlbldfdkicofdaa
