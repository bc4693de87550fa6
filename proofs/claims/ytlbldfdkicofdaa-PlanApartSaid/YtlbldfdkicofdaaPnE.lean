/- Of two plans that may be, and are not the same, the bytes are not. -/
import Derived.Test.YtlbldfdkicofdaaPnD
namespace Go.Proofs.Ytlbldfdkicofdaa
open Go.Sx Go.RowKit
set_option linter.unusedVariables false
set_option linter.unusedSimpArgs false
def eqB (m n : ByteArray) : Bool := m.toList == n.toList
theorem eqB_iff {m n : ByteArray} : eqB m n = true ↔ m = n := by
  unfold eqB
  rw [beq_iff_eq]
  refine ⟨fun h => ?_, fun h => by rw [h]⟩
  rw [ByteArray.toList_eq, ByteArray.toList_eq] at h
  exact ByteArray.ext (Array.toList_inj.1 h)
theorem scanW_mem {np F : Int} : ∀ {L : List Wn} {e : Int}, scanW np F e L = 0 → ∀ w ∈ L, ∃ e', winE np F w e' = 0
  | [], _, _, w, hw => by cases hw
  | x :: l, e, h, w, hw => by
    unfold scanW at h
    split at h
    · rename_i h0
      rcases List.mem_cons.1 hw with rfl | hw
      · exact ⟨e, h0⟩
      · exact scanW_mem h w hw
    · rename_i h0
      exact absurd h h0
theorem nums_ok {P : List Pa} {F : Int} {S : List RW} {C : List Ch} (M : May P F S C) : ∀ n ∈ nums P F S C, okN n := by
  have p4 := M.p4
  have s3 := M.s3
  have c6 := M.c6
  have f1 := M.F1
  have f2 := M.F2
  intro n hn
  simp only [nums, List.mem_append, List.mem_cons, List.mem_flatMap, List.not_mem_nil, or_false] at hn
  unfold okN
  rcases hn with (((( rfl | ⟨x, hx, hn⟩) | (rfl | rfl)) | ⟨r, hr, hn⟩) | rfl) | ⟨c, hc, hn⟩
  · omega
  · have hb : ¬ badPa x = true := fun hb => M.pb (List.any_eq_true.2 ⟨x, hx, hb⟩)
    simp only [badPa, Bool.or_eq_true, decide_eq_true_eq, bne_iff_ne, not_or] at hb
    simp only [paN, List.mem_cons, List.not_mem_nil, or_false] at hn
    rcases hn with rfl | rfl | rfl | rfl <;> omega
  · omega
  · omega
  · have hl := M.l8 r hr
    have hs := M.sc r hr
    simp only [roN, List.mem_cons, List.mem_flatMap] at hn
    rcases hn with rfl | ⟨x, hx, hn⟩
    · omega
    · obtain ⟨e', he⟩ := scanW_mem hs x hx
      have hz := winE_zero he
      simp only [wnN, List.mem_cons, List.not_mem_nil, or_false] at hn
      rcases hn with rfl | rfl | rfl <;> omega
  · omega
  · have hb := M.ch c hc
    simp only [badCh, Bool.or_eq_false_iff, Bool.and_eq_false_iff, decide_eq_false_iff_not, bne_eq_false_iff_eq, beq_eq_false_iff_ne] at hb
    simp only [chN, List.mem_cons, List.not_mem_nil, or_false] at hn
    rcases hn with rfl | rfl | rfl | rfl | rfl <;> omega
theorem pB_iff {P P2 : List Pa} {F F2 : Int} {S S2 : List RW} {C C2 : List Ch} (M : May P F S C) (M2 : May P2 F2 S2 C2) : pB P F S C = pB P2 F2 S2 C2 ↔ (P = P2 ∧ F = F2 ∧ C = C2 ∧ imS S = imS S2) := by
  refine ⟨fun e => ?_, ?_⟩
  · have e1 : byN (nums P F S C) = byN (nums P2 F2 S2 C2) := by
      have := congrArg (fun b : ByteArray => b.data.toList) e
      simpa [pB] using this
    exact nums_inj (byN_inj (nums_ok M) (nums_ok M2) e1)
  · rintro ⟨rfl, rfl, rfl, e⟩
    have hl : S.length = S2.length := by have := congrArg List.length e; simpa using this
    have hf : S.flatMap (fun r => roN r.L) = S2.flatMap (fun r => roN r.L) := by
      have := congrArg (fun l => l.flatMap roN) e
      simpa [List.flatMap_map] using this
    unfold pB nums
    rw [hl, hf]
set_option maxHeartbeats 4000000 in
set_option maxRecDepth 100000 in
theorem apart_walk (w : World) (va vb vc va2 vb2 vc2 : Value) (P P2 : List Pa) (S S2 : List RW) (C C2 : List Ch) (F F2 : Int) (h : PlanIn w va vb vc P S C) (h2 : PlanIn w va2 vb2 vc2 P2 S2 C2) :
    Calls Try.prog 4 #[.agg #[va, .int .i64 F, vb, vc], .agg #[va2, .int .i64 F2, vb2, vc2]] w fun e w' => e = .returned (.bool true) ∧ Below w.heap.size w w' := by
  have hS := h.s
  have hS2 := h2.s
  have htop : TopRows w [va, vb, vc, va2, vb2, vc2] [rowPa P, rowWs S, rowCh C, rowPa P2, rowWs S2, rowCh C2] := .cons h.a rfl (.consI h.b rfl (.cons h.c rfl (.cons h2.a rfl (.consI h2.b rfl (.cons h2.c rfl .nil)))))
  obtain ⟨⟨A1, n1, c1, rfl⟩, ⟨A2, n2, c2, rfl⟩, ⟨A3, n3, c3, rfl⟩⟩ := h.forms
  obtain ⟨⟨A4, n4, c4, rfl⟩, ⟨A5, n5, c5, rfl⟩, ⟨A6, n6, c6, rfl⟩⟩ := h2.forms
  refine calls_top Try.func4 rfl _ _ [planV 0 F 1 2, planV 3 F2 4 5] htop ⟨rfl, rfl, trivial⟩ ?_
  clear h h2 htop
  by_cases k1 : chk P F S C = 0
  · by_cases k2 : chk P2 F2 S2 C2 = 0
    · have M := May.of k1
      have M2 := May.of k2
      have hi := pB_iff M M2
      have p4 := M.p4
      have s3 := M.s3
      have c6 := M.c6
      have l8 : ∀ r ∈ S, r.L.length ≤ 100 := fun r hr => Nat.le_trans (M.l8 r hr) (by omega)
      have lP : P.length ≤ 100 := by omega
      have lS : S.length ≤ 100 := by omega
      have lC : C.length ≤ 100 := by omega
      by_cases hs : P = P2 ∧ F = F2 ∧ C = C2 ∧ imS S = imS S2
      · refine SG.walk tab_ok mx 400 [false, false] [hdB true, hdT [.one (aS (pB P F S C)), .one (aI 0)], hdT [.one (aS (pB P2 F2 S2 C2)), .one (aI 0)], hdB true] ?_
        conv => whnf
        try dsimp only [rowL, rowN, growOk, hiN, fromL, tightN, maxOk]
        refine ⟨?_, ?_⟩
        · repeat' apply And.intro
          all_goals first
            | exact shownC
            | exact bytesYes (thereP rfl rfl rfl) hS k1
            | exact bytesYes (thereP rfl rfl rfl) hS2 k2
            | exact sameYes (thereP rfl rfl rfl) (thereP rfl rfl rfl) hs.1 hs.2.1 hs.2.2.1 hs.2.2.2 lP lS lC l8
            | trivial
            | rfl
            | omega
            | ((try dsimp only [rowL, rowN]); simp only [beq_iff_eq, beq_eq_false_iff_ne, bne_iff_ne, bne_eq_false_iff_eq, decide_eq_true_eq, decide_eq_false_iff_not, ne_eq, Bool.not_eq_true', Bool.not_eq_false', Bool.not_eq_eq_eq_not, Bool.not_true, Bool.not_false, Option.some.injEq, Option.getD_some, Option.getD_none]; omega)
            | (simp; done)
            | (simp; omega)
        refine SG.ret tab_ok Try.func4 rfl ?_
        intro ρ w' v hm hv
        exact top_v hm hv (by rw [show ((pB P F S C).toList == (pB P2 F2 S2 C2).toList) = true from eqB_iff.2 (hi.2 hs)]; rfl)
      · refine SG.walk tab_ok mx 400 [false, false] [hdB true, hdT [.one (aS (pB P F S C)), .one (aI 0)], hdT [.one (aS (pB P2 F2 S2 C2)), .one (aI 0)], hdB false] ?_
        conv => whnf
        try dsimp only [rowL, rowN, growOk, hiN, fromL, tightN, maxOk]
        refine ⟨?_, ?_⟩
        · repeat' apply And.intro
          all_goals first
            | exact shownC
            | exact bytesYes (thereP rfl rfl rfl) hS k1
            | exact bytesYes (thereP rfl rfl rfl) hS2 k2
            | exact sameNo (thereP rfl rfl rfl) (thereP rfl rfl rfl) hs lP lS lC l8
            | trivial
            | rfl
            | omega
            | ((try dsimp only [rowL, rowN]); simp only [beq_iff_eq, beq_eq_false_iff_ne, bne_iff_ne, bne_eq_false_iff_eq, decide_eq_true_eq, decide_eq_false_iff_not, ne_eq, Bool.not_eq_true', Bool.not_eq_false', Bool.not_eq_eq_eq_not, Bool.not_true, Bool.not_false, Option.some.injEq, Option.getD_some, Option.getD_none]; omega)
            | (simp; done)
            | (simp; omega)
        refine SG.ret tab_ok Try.func4 rfl ?_
        intro ρ w' v hm hv
        exact top_v hm hv (by rw [show ((pB P F S C).toList == (pB P2 F2 S2 C2).toList) = false from Bool.eq_false_iff.2 (fun h => hs (hi.1 (eqB_iff.1 h)))]; rfl)
    · have kb : (chk P2 F2 S2 C2 != 0) = true := by simpa using k2
      refine SG.walk tab_ok mx 400 [false, true] [hdB true, hdT [.one (aS (pB P F S C)), .one (aI 0)], hdT [.one (aS ⟨#[]⟩), .one (aI (chk P2 F2 S2 C2))]] ?_
      conv => whnf
      try dsimp only [rowL, rowN, growOk, hiN, fromL, tightN, maxOk]
      refine ⟨?_, ?_⟩
      · repeat' apply And.intro
        all_goals first
          | exact shownC
          | exact bytesYes (thereP rfl rfl rfl) hS k1
          | exact bytesNo (thereP rfl rfl rfl) hS2 rfl k2
          | exact kb
          | trivial
          | rfl
          | omega
          | ((try dsimp only [rowL, rowN]); simp only [beq_iff_eq, beq_eq_false_iff_ne, bne_iff_ne, bne_eq_false_iff_eq, decide_eq_true_eq, decide_eq_false_iff_not, ne_eq, Bool.not_eq_true', Bool.not_eq_false', Bool.not_eq_eq_eq_not, Bool.not_true, Bool.not_false, Option.some.injEq, Option.getD_some, Option.getD_none]; omega)
          | (simp; done)
          | (simp; omega)
      refine SG.ret tab_ok Try.func4 rfl ?_
      intro ρ w' v hm hv
      exact top_true hm hv rfl
  · have kb : (chk P F S C != 0) = true := by simpa using k1
    by_cases k2 : chk P2 F2 S2 C2 = 0
    · refine SG.walk tab_ok mx 400 [true, true] [hdB true, hdT [.one (aS ⟨#[]⟩), .one (aI (chk P F S C))], hdT [.one (aS (pB P2 F2 S2 C2)), .one (aI 0)]] ?_
      conv => whnf
      try dsimp only [rowL, rowN, growOk, hiN, fromL, tightN, maxOk]
      refine ⟨?_, ?_⟩
      · repeat' apply And.intro
        all_goals first
          | exact shownC
          | exact bytesNo (thereP rfl rfl rfl) hS rfl k1
          | exact bytesYes (thereP rfl rfl rfl) hS2 k2
          | exact kb
          | trivial
          | rfl
          | omega
          | ((try dsimp only [rowL, rowN]); simp only [beq_iff_eq, beq_eq_false_iff_ne, bne_iff_ne, bne_eq_false_iff_eq, decide_eq_true_eq, decide_eq_false_iff_not, ne_eq, Bool.not_eq_true', Bool.not_eq_false', Bool.not_eq_eq_eq_not, Bool.not_true, Bool.not_false, Option.some.injEq, Option.getD_some, Option.getD_none]; omega)
          | (simp; done)
          | (simp; omega)
      refine SG.ret tab_ok Try.func4 rfl ?_
      intro ρ w' v hm hv
      exact top_true hm hv rfl
    · refine SG.walk tab_ok mx 400 [true, true] [hdB true, hdT [.one (aS ⟨#[]⟩), .one (aI (chk P F S C))], hdT [.one (aS ⟨#[]⟩), .one (aI (chk P2 F2 S2 C2))]] ?_
      conv => whnf
      try dsimp only [rowL, rowN, growOk, hiN, fromL, tightN, maxOk]
      refine ⟨?_, ?_⟩
      · repeat' apply And.intro
        all_goals first
          | exact shownC
          | exact bytesNo (thereP rfl rfl rfl) hS rfl k1
          | exact bytesNo (thereP rfl rfl rfl) hS2 rfl k2
          | exact kb
          | trivial
          | rfl
          | omega
          | ((try dsimp only [rowL, rowN]); simp only [beq_iff_eq, beq_eq_false_iff_ne, bne_iff_ne, bne_eq_false_iff_eq, decide_eq_true_eq, decide_eq_false_iff_not, ne_eq, Bool.not_eq_true', Bool.not_eq_false', Bool.not_eq_eq_eq_not, Bool.not_true, Bool.not_false, Option.some.injEq, Option.getD_some, Option.getD_none]; omega)
          | (simp; done)
          | (simp; omega)
      refine SG.ret tab_ok Try.func4 rfl ?_
      intro ρ w' v hm hv
      exact top_true hm hv rfl
end Go.Proofs.Ytlbldfdkicofdaa
