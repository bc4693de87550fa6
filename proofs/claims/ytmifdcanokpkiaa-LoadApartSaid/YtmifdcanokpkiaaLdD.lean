/- Images that are not the same are not packed by the same bytes. -/
import Derived.Test.YtmifdcanokpkiaaLdC
namespace Go.Proofs.Ytmifdcanokpkiaa
open Go.Sx Go.RowKit
set_option linter.unusedVariables false
set_option linter.unusedSimpArgs false
theorem ofNat_inj {n m : Nat} (hn : n < 256) (hm : m < 256) (h : UInt8.ofNat n = UInt8.ofNat m) : n = m := by
  have := congrArg UInt8.toNat h
  rwa [toNat_small hn, toNat_small hm] at this
theorem imL_inj {x y : ByteArray} {t u : List UInt8} (hx : x.size ≤ 64) (hy : y.size ≤ 64) (h : imL x ++ t = imL y ++ u) : x = y ∧ t = u := by
  simp only [imL, List.cons_append, List.cons.injEq] at h
  have e := ofNat_inj (by omega) (by omega) h.1
  obtain ⟨h1, h2⟩ := List.append_inj h.2 (by rw [len_size, len_size, e])
  exact ⟨ByteArray.ext (Array.toList_inj.1 h1), h2⟩
theorem flat_inj {α : Type} {g : α → List UInt8} {ok : α → Prop} (hg : ∀ x y t u, ok x → ok y → g x ++ t = g y ++ u → x = y ∧ t = u) : ∀ (L M : List α) (t u : List UInt8), L.length = M.length → (∀ x ∈ L, ok x) → (∀ x ∈ M, ok x) → L.flatMap g ++ t = M.flatMap g ++ u → L = M ∧ t = u
  | [], [], t, u, _, _, _, h => ⟨rfl, by simpa using h⟩
  | [], _ :: _, _, _, h, _, _, _ => by simp at h
  | _ :: _, [], _, _, h, _, _, _ => by simp at h
  | x :: L, y :: M, t, u, hl, h1, h2, h => by
    simp only [List.flatMap_cons, List.append_assoc] at h
    obtain ⟨rfl, h3⟩ := hg x y _ _ (h1 _ (.head _)) (h2 _ (.head _)) h
    obtain ⟨rfl, h4⟩ := flat_inj hg L M t u (by simpa using hl) (fun z hz => h1 z (.tail _ hz)) (fun z hz => h2 z (.tail _ hz)) h3
    exact ⟨rfl, h4⟩
def okL (L : List ByteArray) : Prop := L.length ≤ 8 ∧ ∀ x ∈ L, x.size ≤ 64
theorem roL_inj {L M : List ByteArray} {t u : List UInt8} (hL : okL L) (hM : okL M) (h : roL L ++ t = roL M ++ u) : L = M ∧ t = u := by
  simp only [roL, List.cons_append, List.cons.injEq] at h
  have h1 := hL.1
  have h2 := hM.1
  exact flat_inj (fun x y t u hx hy h => imL_inj hx hy h) L M t u (ofNat_inj (by omega) (by omega) h.1) hL.2 hM.2 h.2
theorem ok_of {S : List RS} (h : pkE S = 0) : S.length ≤ 4 ∧ ∀ r ∈ S, okL r.L := by
  unfold pkE at h
  split at h
  · omega
  · rename_i hn
    refine ⟨by omega, fun r hr => ?_⟩
    have hb : ¬ badR r = true := fun hb => hn (.inr (List.any_eq_true.2 ⟨r, hr, hb⟩))
    simp only [badR, Bool.or_eq_true, decide_eq_true_eq, List.any_eq_true] at hb
    refine ⟨by omega, fun x hx => ?_⟩
    by_cases hs : x.size > 64
    · exact absurd (.inr ⟨x, hx, by simpa using hs⟩) hb
    · omega
theorem pkL_im (S : List RS) : pkL S = UInt8.ofNat (imS S).length :: (imS S).flatMap roL := by
  simp [pkL, List.flatMap_map]
theorem pkB_iff {S S2 : List RS} (h : pkE S = 0) (h2 : pkE S2 = 0) : pkR S = pkR S2 ↔ imS S = imS S2 := by
  obtain ⟨a1, a2⟩ := ok_of h
  obtain ⟨b1, b2⟩ := ok_of h2
  unfold pkR
  rw [if_pos h, if_pos h2]
  refine ⟨fun e => ?_, fun e => by unfold pkB; rw [pkL_im, pkL_im, e]⟩
  have e1 : pkL S = pkL S2 := by
    have := congrArg (fun b : ByteArray => b.data.toList) e
    simpa [pkB] using this
  rw [pkL_im, pkL_im] at e1
  simp only [List.cons.injEq] at e1
  have hl := ofNat_inj (by simp; omega) (by simp; omega) e1.1
  refine (flat_inj (ok := okL) (fun x y t u hx hy h => roL_inj hx hy h) (imS S) (imS S2) [] [] hl ?_ ?_ (by simpa using e1.2)).1
  · intro x hx; obtain ⟨r, hr, rfl⟩ := List.mem_map.1 hx; exact a2 r hr
  · intro x hx; obtain ⟨r, hr, rfl⟩ := List.mem_map.1 hx; exact b2 r hr
/-- An argument: rows of images. -/
abbrev RowsIn (w : World) (c : Value) (S : List RS) : Prop := ∀ W ρ, (∀ c sz len cells, InnOk ⟨w, none, [], []⟩ c sz len cells → ρ.ι c sz len cells) → RowOk W ρ w c (rowSs S)
theorem pkE_two (S : List RS) : pkE S = 0 ∨ pkE S = 4 := by
  unfold pkE; split <;> simp
set_option maxHeartbeats 4000000 in
set_option maxRecDepth 100000 in
theorem apart_walk (w : World) (A : Option Addr) (n c : Nat) (A2 : Option Addr) (n2 c2 : Nat) (S S2 : List RS) (h : RowsIn w (.slice A n c) S) (h2 : RowsIn w (.slice A2 n2 c2) S2) :
    Calls Try.prog 3 #[.slice A n c, .slice A2 n2 c2] w fun e w' => e = .returned (.bool true) ∧ Below w.heap.size w w' := by
  have htop : TopRows w [.slice A n c, .slice A2 n2 c2] [rowSs S, rowSs S2] := .consI h rfl (.consI h2 rfl .nil)
  refine calls_top Try.func3 rfl _ _ [rsV 0, rsV 1] htop ⟨rfl, rfl, trivial⟩ ?_
  have hsh := fun W' : Base => @shownC W' [] [some (rowSs S), some (rowSs S2)]
  have hp := fun W' : Base => packAny (W := W') (B := []) (Rs := [some (rowSs S), some (rowSs S2)]) (r := 0) (S := S) rfl (.of rfl rfl (fun _ _ => rfl))
  have hp2 := fun W' : Base => packAny (W := W') (B := []) (Rs := [some (rowSs S), some (rowSs S2)]) (r := 1) (S := S2) rfl (.of rfl rfl (fun _ _ => rfl))
  rcases pkE_two S with e | e
  · rcases pkE_two S2 with e2 | e2
    · obtain ⟨a1, a2⟩ := ok_of e
      have hi := pkB_iff e e2
      rw [e] at hp
      rw [e2] at hp2
      by_cases hs : imS S = imS S2
      · refine SG.walk tab_ok mx 400 [true, false, false] [hdV true, hdT [.one (aS (pkR S)), .one (aI 0)], hdT [.one (aS (pkR S2)), .one (aI 0)], hdB true] ?_
        conv => whnf
        try dsimp only [rowL, rowN, growOk, hiN, fromL, tightN, maxOk]
        refine ⟨?_, ?_⟩
        · repeat' apply And.intro
          all_goals first
            | exact hsh _
            | exact hp _
            | exact hp2 _
            | exact sameSYes rfl (.of rfl rfl (fun _ _ => rfl)) rfl (.of rfl rfl (fun _ _ => rfl)) hs a1 (fun r hr => (a2 r hr).1)
            | trivial
            | rfl
            | omega
            | ((try dsimp only [rowL, rowN]); simp only [beq_iff_eq, beq_eq_false_iff_ne, bne_iff_ne, bne_eq_false_iff_eq, decide_eq_true_eq, decide_eq_false_iff_not, ne_eq, Bool.not_eq_true', Bool.not_eq_false', Bool.not_eq_eq_eq_not, Bool.not_true, Bool.not_false, Option.some.injEq, Option.getD_some, Option.getD_none]; omega)
            | (simp; done)
            | (simp; omega)
        refine SG.ret tab_ok Try.func3 rfl ?_
        intro ρ w' v hm hv
        exact top_v hm hv (by rw [show ((pkR S).toList == (pkR S2).toList) = true from eqB_iff.2 (hi.2 hs)]; rfl)
      · refine SG.walk tab_ok mx 400 [true, false, false] [hdV true, hdT [.one (aS (pkR S)), .one (aI 0)], hdT [.one (aS (pkR S2)), .one (aI 0)], hdB false] ?_
        conv => whnf
        try dsimp only [rowL, rowN, growOk, hiN, fromL, tightN, maxOk]
        refine ⟨?_, ?_⟩
        · repeat' apply And.intro
          all_goals first
            | exact hsh _
            | exact hp _
            | exact hp2 _
            | exact sameSNo rfl (.of rfl rfl (fun _ _ => rfl)) rfl (.of rfl rfl (fun _ _ => rfl)) hs a1 (fun r hr => (a2 r hr).1)
            | trivial
            | rfl
            | omega
            | ((try dsimp only [rowL, rowN]); simp only [beq_iff_eq, beq_eq_false_iff_ne, bne_iff_ne, bne_eq_false_iff_eq, decide_eq_true_eq, decide_eq_false_iff_not, ne_eq, Bool.not_eq_true', Bool.not_eq_false', Bool.not_eq_eq_eq_not, Bool.not_true, Bool.not_false, Option.some.injEq, Option.getD_some, Option.getD_none]; omega)
            | (simp; done)
            | (simp; omega)
        refine SG.ret tab_ok Try.func3 rfl ?_
        intro ρ w' v hm hv
        exact top_v hm hv (by rw [show ((pkR S).toList == (pkR S2).toList) = false from Bool.eq_false_iff.2 (fun h => hs (hi.1 (eqB_iff.1 h)))]; rfl)
    · rw [e] at hp
      rw [e2] at hp2
      refine SG.walk tab_ok mx 400 [true, false, true] [hdV true, hdT [.one (aS (pkR S)), .one (aI 0)], hdT [.one (aS (pkR S2)), .one (aI 4)]] ?_
      conv => whnf
      try dsimp only [rowL, rowN, growOk, hiN, fromL, tightN, maxOk]
      refine ⟨?_, ?_⟩
      · repeat' apply And.intro
        all_goals first
          | exact hsh _
          | exact hp _
          | exact hp2 _
          | trivial
          | rfl
          | omega
          | ((try dsimp only [rowL, rowN]); simp only [beq_iff_eq, beq_eq_false_iff_ne, bne_iff_ne, bne_eq_false_iff_eq, decide_eq_true_eq, decide_eq_false_iff_not, ne_eq, Bool.not_eq_true', Bool.not_eq_false', Bool.not_eq_eq_eq_not, Bool.not_true, Bool.not_false, Option.some.injEq, Option.getD_some, Option.getD_none]; omega)
          | (simp; done)
          | (simp; omega)
      refine SG.ret tab_ok Try.func3 rfl ?_
      intro ρ w' v hm hv
      exact top_true hm hv rfl
  · rw [e] at hp
    refine SG.walk tab_ok mx 400 [true, true, true] [hdV true, hdT [.one (aS (pkR S)), .one (aI 4)], hdT [.one (aS (pkR S2)), .one (aI (pkE S2))]] ?_
    conv => whnf
    try dsimp only [rowL, rowN, growOk, hiN, fromL, tightN, maxOk]
    refine ⟨?_, ?_⟩
    · repeat' apply And.intro
      all_goals first
        | exact hsh _
        | exact hp _
        | exact hp2 _
        | trivial
        | rfl
        | omega
        | ((try dsimp only [rowL, rowN]); simp only [beq_iff_eq, beq_eq_false_iff_ne, bne_iff_ne, bne_eq_false_iff_eq, decide_eq_true_eq, decide_eq_false_iff_not, ne_eq, Bool.not_eq_true', Bool.not_eq_false', Bool.not_eq_eq_eq_not, Bool.not_true, Bool.not_false, Option.some.injEq, Option.getD_some, Option.getD_none]; omega)
        | (simp; done)
        | (simp; omega)
    refine SG.ret tab_ok Try.func3 rfl ?_
    intro ρ w' v hm hv
    exact top_true hm hv rfl
end Go.Proofs.Ytmifdcanokpkiaa
