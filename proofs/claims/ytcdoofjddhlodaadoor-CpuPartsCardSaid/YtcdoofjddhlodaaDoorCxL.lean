/- Processors: the laws of one instruction. -/
import Derived.Test.YtcdoofjddhlodaaDoorCxF
import Derived.Test.YtcdoofjddhlodaaDoorSxR
import Derived.Test.YtcdoofjddhlodaaDoorIsaOpen
import Derived.OpenShut
namespace Go.Proofs.YtcdoofjddhlodaaDoor
open Go.Sx Go.RowKit
set_option linter.unusedVariables false
set_option linter.unusedSimpArgs false
set_option linter.unusedSectionVars false
abbrev hdV (b : Bool) : Hd := mkHd (.cv (.one (.v (.bool b)))) []
theorem hdSame {P : Program} {W : Base} {B : List (Option (List At))} {Rs : List (Option Row)} {g : FuncId} {args : List SV} {res res' : SV} (H : CallOk P W B Rs g args (mkHd res []))
    (h : ∀ ρ v, (res.ren [] []).rep ρ v → (res'.ren [] []).rep ρ v) : CallOk P W B Rs g args (mkHd res' []) := by
  refine ⟨H.can, fun s' ρ w vs hm hR hB hk hr => Calls.mono (H.does s' ρ w vs hm hR hB hk hr) ?_⟩
  rintro e w' ⟨v, vals, he, hg, hn, hv⟩
  exact ⟨v, vals, he, hg, hn, fun n ρ' hle hs => h ρ' v (hv n ρ' hle hs)⟩
theorem hdB_of {P : Program} {W : Base} {B : List (Option (List At))} {Rs : List (Option Row)} {g : FuncId} {args : List SV} {b c : Bool} (H : CallOk P W B Rs g args (hdV b)) (e : b = c) : CallOk P W B Rs g args (hdB c) := by
  subst e
  exact hdSame H fun ρ v h => h
section
variable {W : Base} {B : List (Option (List At))} {Rs : List (Option Row)}
set_option maxHeartbeats 4000000 in
set_option maxRecDepth 100000 in
theorem shownC (hU : UB W) : CallOk Tryd.prog W B Rs 12 [] (hdB true) := by
  refine hdB_of ?_ (b := true) rfl
  have e1 : ∀ {W : Base} {B : List (Option (List At))} {Rs : List (Option Row)}, UB W → CallOk Tryd.prog W B Rs 13 [cpuS (fun _ => 0) 0, insS 1 1 0 5] (hdT [.agg [aU 0, aU 5, aU 0, aU 0, aU 0, aU 0, aU 0, aU 0, aU 4], .one (.lb true)]) := fun hU => by
    have := doesAlu hU (B := ‹_›) (Rs := ‹_›) (R := fun _ => 0) (p := 0) (o := 1) (a := 1) (b := 0) (i := 5) (fun j hj => by dsimp only; omega) (by decide) (by omega)
    exact this
  have e2 : ∀ {W : Base} {B : List (Option (List At))} {Rs : List (Option Row)}, UB W → CallOk Tryd.prog W B Rs 13 [.cv (.agg [aU 0, aU 5, aU 0, aU 0, aU 0, aU 0, aU 0, aU 0, aU 4]), insS 13 1 0 (-6)] (hdT [.agg [aU 0, aU 4294967295, aU 0, aU 0, aU 0, aU 0, aU 0, aU 0, aU 8], .one (.lb true)]) := fun hU => by
    have := doesAlu hU (B := ‹_›) (Rs := ‹_›) (R := fun j => if j = 1 then 5 else 0) (p := 4) (o := 13) (a := 1) (b := 0) (i := -6) (fun j hj => by dsimp only; split <;> omega) (by decide) (by omega)
    exact this
  refine CallOk.enterK Tryd.func12 (by kernel_rfl) rfl [] [] [] rfl rows0 (fun r h => by cases h) rfl rfl ?_
  intro w blk hblk hK
  have hU := UB.step hU hblk hK
  clear hK
  refine SG.walk tab_ok mx 400 [true, true] [hdT [.agg [aU 0, aU 5, aU 0, aU 0, aU 0, aU 0, aU 0, aU 0, aU 4], .one (.lb true)], hdT [.agg [aU 0, aU 4294967295, aU 0, aU 0, aU 0, aU 0, aU 0, aU 0, aU 8], .one (.lb true)]] ?_
  conv => whnf
  try dsimp only [rowL, rowN, growOk, hiN, fromL, tightN, maxOk]
  refine ⟨?_, ?_⟩
  · repeat' apply And.intro
    all_goals first
      | exact e1 hU
      | exact e2 hU
      | trivial
      | rfl
      | omega
      | ((try dsimp only [rowL, rowN]); simp only [beq_iff_eq, beq_eq_false_iff_ne, bne_iff_ne, bne_eq_false_iff_eq, decide_eq_true_eq, decide_eq_false_iff_not, ne_eq, Bool.not_eq_true', Bool.not_eq_false', Bool.not_eq_eq_eq_not, Bool.not_true, Bool.not_false, Option.some.injEq, Option.getD_some, Option.getD_none]; omega)
      | (simp; done)
      | (simp; omega)
  refine SG.ret tab_ok Tryd.func12 rfl ?_
  intro ρ w' v hm hv
  exact Post.mk hm (.cv (.one (.v (.bool true)))) [] none [] hv rfl rows0 rfl (by simp)
end
abbrev cpuV (R : Nat → Int) (p : Int) : Value := .agg #[.int .u32 (R 0), .int .u32 (R 1), .int .u32 (R 2), .int .u32 (R 3), .int .u32 (R 4), .int .u32 (R 5), .int .u32 (R 6), .int .u32 (R 7), .int .u32 p]
theorem kinds {o a b i : Int} (hm : rMay o a b i = true) (h : ¬ ((14 ≤ o ∧ o ≤ 17) ∨ o = 24)) : (1 ≤ o ∧ o ≤ 13) ∨ (18 ≤ o ∧ o ≤ 23) := by
  obtain ⟨o0, o1, _⟩ := may_range hm
  omega
theorem no_of {o a b i : Int} (h : ¬ (rMay o a b i = true ∧ ¬ ((14 ≤ o ∧ o ≤ 17) ∨ o = 24))) : rMay o a b i = false ∨ (14 ≤ o ∧ o ≤ 17) ∨ o = 24 := by
  cases hm : rMay o a b i with
  | false => exact .inl rfl
  | true => exact .inr (Classical.not_not.1 fun h2 => h ⟨hm, h2⟩)
set_option maxHeartbeats 4000000 in
set_option maxRecDepth 100000 in
theorem does_walk (w : World) (R : Nat → Int) (p o a b i : Int) (hT : UsesAt w) (hR : regs R) :
    Calls Tryd.prog 3 #[cpuV R p, insV o a b i] w fun e w' => e = .returned (.bool true) ∧ Below w.heap.size w w' := by
  have hU : UB ⟨w, none, [], []⟩ := ⟨hT, rfl⟩
  refine calls_top Tryd.func3 rfl [] [] [cpuS R p, insS o a b i] .nil ⟨rfl, rfl, trivial⟩ ?_
  by_cases hd : rMay o a b i = true ∧ ¬ ((14 ≤ o ∧ o ≤ 17) ∨ o = 24)
  · have hk := kinds hd.1 hd.2
    refine SG.walk tab_ok mx 400 [true, true] [hdB true, hdT [.agg (cpuC (doO R p ⟨#[]⟩ o a b i).R (doO R p ⟨#[]⟩ o a b i).p), .one (.lb true)], hdT [.agg (cpuC (doO R p ⟨#[]⟩ o a b i).R (doO R p ⟨#[]⟩ o a b i).p), .one (.lb true)]] ?_
    conv => whnf
    try dsimp only [rowL, rowN, growOk, hiN, fromL, tightN, maxOk]
    refine ⟨?_, ?_⟩
    · repeat' apply And.intro
      all_goals first
        | exact shownC hU
        | exact doesO (m := ⟨#[]⟩) hU hR hd.1 hk
        | exact rDoesO (m := ⟨#[]⟩) hR hd.1 hk
        | trivial
        | rfl
        | omega
        | ((try dsimp only [rowL, rowN]); simp only [beq_iff_eq, beq_eq_false_iff_ne, bne_iff_ne, bne_eq_false_iff_eq, decide_eq_true_eq, decide_eq_false_iff_not, ne_eq, Bool.not_eq_true', Bool.not_eq_false', Bool.not_eq_eq_eq_not, Bool.not_true, Bool.not_false, Option.some.injEq, Option.getD_some, Option.getD_none]; omega)
        | (simp; done)
        | (simp; omega)
    refine SG.ret tab_ok Tryd.func3 rfl ?_
    intro ρ w' v hm hv
    exact top_v hm hv rfl
  · have hn := no_of hd
    refine SG.walk tab_ok mx 400 [true, true] [hdB true, hdT [.agg (cpuC R p), .one (.lb false)], hdT [.agg (cpuC R p), .one (.lb false)]] ?_
    conv => whnf
    try dsimp only [rowL, rowN, growOk, hiN, fromL, tightN, maxOk]
    refine ⟨?_, ?_⟩
    · repeat' apply And.intro
      all_goals first
        | exact shownC hU
        | exact doesNo hU hn
        | exact rDoesNo hn
        | trivial
        | rfl
        | omega
        | ((try dsimp only [rowL, rowN]); simp only [beq_iff_eq, beq_eq_false_iff_ne, bne_iff_ne, bne_eq_false_iff_eq, decide_eq_true_eq, decide_eq_false_iff_not, ne_eq, Bool.not_eq_true', Bool.not_eq_false', Bool.not_eq_eq_eq_not, Bool.not_true, Bool.not_false, Option.some.injEq, Option.getD_some, Option.getD_none]; omega)
        | (simp; done)
        | (simp; omega)
    refine SG.ret tab_ok Tryd.func3 rfl ?_
    intro ρ w' v hm hv
    exact top_v hm hv rfl
set_option maxHeartbeats 4000000 in
set_option maxRecDepth 100000 in
theorem steps_walk (w : World) (R : Nat → Int) (p : Int) (m : ByteArray) (hT : UsesAt w) (hR : regs R) (hp : 0 ≤ p ∧ p < 4294967296) (hm : m.size < 4294967296) :
    Calls Tryd.prog 4 #[cpuV R p, .string m] w fun e w' => e = .returned (.bool true) ∧ Below w.heap.size w w' := by
  have hU : UB ⟨w, none, [], []⟩ := ⟨hT, rfl⟩
  have hms : m.size ≤ 140737488351232 := by omega
  refine calls_top Tryd.func4 rfl [] [] [cpuS R p, strV m] .nil ⟨rfl, rfl, trivial⟩ ?_
  refine SG.walk tab_ok mx 400 [true, true, true] [hdB true, outT (stepO R p m), outT (stepO R p m)] ?_
  conv => whnf
  try dsimp only [rowL, rowN, growOk, hiN, fromL, tightN, maxOk]
  refine ⟨?_, ?_⟩
  · repeat' apply And.intro
    all_goals first
      | exact shownC hU
      | exact stepC hU hms hR hp
      | exact rStepC hm hR hp
      | trivial
      | rfl
      | omega
      | ((try dsimp only [rowL, rowN]); simp only [beq_iff_eq, beq_eq_false_iff_ne, bne_iff_ne, bne_eq_false_iff_eq, decide_eq_true_eq, decide_eq_false_iff_not, ne_eq, Bool.not_eq_true', Bool.not_eq_false', Bool.not_eq_eq_eq_not, Bool.not_true, Bool.not_false, Option.some.injEq, Option.getD_some, Option.getD_none]; omega)
      | (simp; done)
      | (simp; omega)
  refine SG.ret tab_ok Tryd.func4 rfl ?_
  intro ρ w' v hm hv
  exact top_v hm hv (beq_self_eq_true _)
theorem step_cases (R : Nat → Int) (p : Int) (m : ByteArray) : stepO R p m = ⟨R, p, m, 2⟩ ∨ stepO R p m = ⟨R, p, m, 1⟩ ∨ stepO R p m = ⟨R, IntKind.u32.wrap (p + 4), m, 3⟩ ∨ (stepO R p m).t = 0 := by
  unfold stepO
  split
  · split
    · unfold insO
      split
      · unfold movO
        split
        · split
          · exact .inr (.inr (.inr rfl))
          · exact .inl rfl
        · split
          · split
            · exact .inr (.inr (.inr rfl))
            · exact .inl rfl
          · split
            · split
              · exact .inr (.inr (.inr rfl))
              · exact .inl rfl
            · split
              · exact .inr (.inr (.inr rfl))
              · exact .inl rfl
      · split
        · exact .inr (.inr (.inl rfl))
        · refine .inr (.inr (.inr ?_))
          unfold doO
          split <;> rfl
    · exact .inr (.inl rfl)
  · exact .inl rfl
set_option maxHeartbeats 4000000 in
set_option maxRecDepth 100000 in
theorem stays_walk (w : World) (R : Nat → Int) (p : Int) (m : ByteArray) (hT : UsesAt w) (hR : regs R) (hp : 0 ≤ p ∧ p < 4294967296) (hms : m.size ≤ 140737488351232) :
    Calls Tryd.prog 6 #[cpuV R p, .string m] w fun e w' => e = .returned (.bool true) ∧ Below w.heap.size w w' := by
  have hU : UB ⟨w, none, [], []⟩ := ⟨hT, rfl⟩
  have hst := stepC (W := ⟨w, none, [], []⟩) (B := []) (Rs := []) hU hms hR hp
  have hso := stepO_ok (m := m) hR hp
  refine calls_top Tryd.func6 rfl [] [] [cpuS R p, strV m] .nil ⟨rfl, rfl, trivial⟩ ?_
  rcases step_cases R p m with h | h | h | h
  · have st : ∀ {W : Base} {B : List (Option (List At))} {Rs : List (Option Row)}, UB W → CallOk Tryd.prog W B Rs 15 [cpuS R p, strV m] (outT ⟨R, p, m, 2⟩) := fun hU => by rw [← h]; exact stepC hU hms hR hp
    refine SG.walk tab_ok mx 400 [false, true, true, true] [hdB true, outT ⟨R, p, m, 2⟩] ?_
    conv => whnf
    try dsimp only [rowL, rowN, growOk, hiN, fromL, tightN, maxOk]
    refine ⟨?_, ?_⟩
    · repeat' apply And.intro
      all_goals first
        | exact shownC hU
        | exact st hU
        | trivial
        | rfl
        | omega
        | ((try dsimp only [rowL, rowN]); simp only [beq_iff_eq, beq_eq_false_iff_ne, bne_iff_ne, bne_eq_false_iff_eq, decide_eq_true_eq, decide_eq_false_iff_not, ne_eq, Bool.not_eq_true', Bool.not_eq_false', Bool.not_eq_eq_eq_not, Bool.not_true, Bool.not_false, Option.some.injEq, Option.getD_some, Option.getD_none]; omega)
        | (simp; done)
        | (simp; omega)
    refine SG.ret tab_ok Tryd.func6 rfl ?_
    intro ρ w' v hm hv
    exact top_v hm hv (beq_self_eq_true _)
  · have st : ∀ {W : Base} {B : List (Option (List At))} {Rs : List (Option Row)}, UB W → CallOk Tryd.prog W B Rs 15 [cpuS R p, strV m] (outT ⟨R, p, m, 1⟩) := fun hU => by rw [← h]; exact stepC hU hms hR hp
    refine SG.walk tab_ok mx 400 [true, true, true] [hdB true, outT ⟨R, p, m, 1⟩] ?_
    conv => whnf
    try dsimp only [rowL, rowN, growOk, hiN, fromL, tightN, maxOk]
    refine ⟨?_, ?_⟩
    · repeat' apply And.intro
      all_goals first
        | exact shownC hU
        | exact st hU
        | trivial
        | rfl
        | omega
        | ((try dsimp only [rowL, rowN]); simp only [beq_iff_eq, beq_eq_false_iff_ne, bne_iff_ne, bne_eq_false_iff_eq, decide_eq_true_eq, decide_eq_false_iff_not, ne_eq, Bool.not_eq_true', Bool.not_eq_false', Bool.not_eq_eq_eq_not, Bool.not_true, Bool.not_false, Option.some.injEq, Option.getD_some, Option.getD_none]; omega)
        | (simp; done)
        | (simp; omega)
    refine SG.ret tab_ok Tryd.func6 rfl ?_
    intro ρ w' v hm hv
    exact top_v hm hv (beq_self_eq_true _)
  · have st : ∀ {W : Base} {B : List (Option (List At))} {Rs : List (Option Row)}, UB W → CallOk Tryd.prog W B Rs 15 [cpuS R p, strV m] (outT ⟨R, IntKind.u32.wrap (p + 4), m, 3⟩) := fun hU => by rw [← h]; exact stepC hU hms hR hp
    refine SG.walk tab_ok mx 400 [false, false, true, true, true] [hdB true, outT ⟨R, IntKind.u32.wrap (p + 4), m, 3⟩] ?_
    conv => whnf
    try dsimp only [rowL, rowN, growOk, hiN, fromL, tightN, maxOk]
    refine ⟨?_, ?_⟩
    · repeat' apply And.intro
      all_goals first
        | exact shownC hU
        | exact st hU
        | trivial
        | rfl
        | omega
        | ((try dsimp only [rowL, rowN]); simp only [beq_iff_eq, beq_eq_false_iff_ne, bne_iff_ne, bne_eq_false_iff_eq, decide_eq_true_eq, decide_eq_false_iff_not, ne_eq, Bool.not_eq_true', Bool.not_eq_false', Bool.not_eq_eq_eq_not, Bool.not_true, Bool.not_false, Option.some.injEq, Option.getD_some, Option.getD_none]; omega)
        | (simp; done)
        | (simp; omega)
    refine SG.ret tab_ok Tryd.func6 rfl ?_
    intro ρ w' v hm hv
    exact top_v hm hv (beq_self_eq_true _)
  · refine SG.walk tab_ok mx 400 [false, false, false, true] [hdB true, outT (stepO R p m)] ?_
    conv => whnf
    try dsimp only [rowL, rowN, growOk, hiN, fromL, tightN, maxOk]
    refine ⟨?_, ?_⟩
    · repeat' apply And.intro
      all_goals first
        | exact shownC hU
        | exact stepC hU hms hR hp
        | trivial
        | rfl
        | omega
        | ((try dsimp only [rowL, rowN]); simp only [beq_iff_eq, beq_eq_false_iff_ne, bne_iff_ne, bne_eq_false_iff_eq, decide_eq_true_eq, decide_eq_false_iff_not, ne_eq, Bool.not_eq_true', Bool.not_eq_false', Bool.not_eq_eq_eq_not, Bool.not_true, Bool.not_false, Option.some.injEq, Option.getD_some, Option.getD_none]; omega)
        | (simp; done)
        | (simp; omega)
    refine SG.ret tab_ok Tryd.func6 rfl ?_
    intro ρ w' v hm hv
    exact top_v hm hv (by rw [hso.m]; exact beq_self_eq_true _)
open Go.ChangeShapes Go.WideShapes Go.ChangeAt Go.Joins Go.Deep
section
variable {H : Type} {enc : TypeId × Value → H} {W : World} {r : Reach} {b0 base : Nat} {spare : Nat → Bool} {held : Bool}
theorem cU : Tryd.prog.cellsOf 22 = 1 := by kernel_rfl
theorem cC : Tryd.prog.cellsOf 25 = 9 := by kernel_rfl
theorem cA8 : Tryd.prog.cellsOf 23 = 8 := by kernel_rfl
theorem u32Cell {n : Nat} {cs : List Value} {y : DataW H × List MemPlace} (h : DataW.trod enc Tryd.prog W base spare held n 22 cs = some y) : ∃ a, cs = [.int .u32 a] ∧ 0 ≤ a ∧ a < 4294967296 := by
  obtain ⟨a, e, q, wf⟩ := DataW.trod_int Tryd.underlying22 h
  exact ⟨a, e, u32_bounds wf⟩
theorem regCells {n : Nat} {cs : List Value} {y : DataW H × List MemPlace} (h : DataW.trod enc Tryd.prog W base spare held n 23 cs = some y) : ∃ R : Nat → Int, cs = [.int .u32 (R 0), .int .u32 (R 1), .int .u32 (R 2), .int .u32 (R 3), .int .u32 (R 4), .int .u32 (R 5), .int .u32 (R 6), .int .u32 (R 7)] ∧ regs R := by
  obtain ⟨ys, m, _, _, hc, hy, hg⟩ := DataW.trod_array Tryd.underlying23 h
  rw [cA8] at hc
  match cs, hc, ys, hy with
  | [c0, c1, c2, c3, c4, c5, c6, c7], _, [y0, y1, y2, y3, y4, y5, y6, y7], _ =>
    obtain ⟨r0, e0, b0⟩ := u32Cell (cs := [c0]) (y := y0) (by simpa [cU] using hg 0 (by decide))
    obtain ⟨r1, e1, b1⟩ := u32Cell (cs := [c1]) (y := y1) (by simpa [cU] using hg 1 (by decide))
    obtain ⟨r2, e2, b2⟩ := u32Cell (cs := [c2]) (y := y2) (by simpa [cU] using hg 2 (by decide))
    obtain ⟨r3, e3, b3⟩ := u32Cell (cs := [c3]) (y := y3) (by simpa [cU] using hg 3 (by decide))
    obtain ⟨r4, e4, b4⟩ := u32Cell (cs := [c4]) (y := y4) (by simpa [cU] using hg 4 (by decide))
    obtain ⟨r5, e5, b5⟩ := u32Cell (cs := [c5]) (y := y5) (by simpa [cU] using hg 5 (by decide))
    obtain ⟨r6, e6, b6⟩ := u32Cell (cs := [c6]) (y := y6) (by simpa [cU] using hg 6 (by decide))
    obtain ⟨r7, e7, b7⟩ := u32Cell (cs := [c7]) (y := y7) (by simpa [cU] using hg 7 (by decide))
    simp at e0 e1 e2 e3 e4 e5 e6 e7
    subst e0 e1 e2 e3 e4 e5 e6 e7
    refine ⟨fun j => [r0, r1, r2, r3, r4, r5, r6, r7].getD j 0, rfl, fun j hj => ?_⟩
    match j, hj with
    | 0, _ => exact b0
    | 1, _ => exact b1
    | 2, _ => exact b2
    | 3, _ => exact b3
    | 4, _ => exact b4
    | 5, _ => exact b5
    | 6, _ => exact b6
    | 7, _ => exact b7
theorem cpuCells {n : Nat} {cs : List Value} {y : DataW H × List MemPlace} (h : DataW.trod enc Tryd.prog W base spare held n 25 cs = some y) : ∃ (R : Nat → Int) (p : Int), cs = [.int .u32 (R 0), .int .u32 (R 1), .int .u32 (R 2), .int .u32 (R 3), .int .u32 (R 4), .int .u32 (R 5), .int .u32 (R 6), .int .u32 (R 7), .int .u32 p] ∧ regs R ∧ (0 ≤ p ∧ p < 4294967296) := by
  obtain ⟨ys, m, hc, hy, _, hg⟩ := open_subX Tryd.underlying25 h
  rw [cC] at hc
  match cs, hc, ys, hy with
  | [c0, c1, c2, c3, c4, c5, c6, c7, c8], _, [y0, y1], _ =>
    obtain ⟨R, e0, hR⟩ := regCells (cs := [c0, c1, c2, c3, c4, c5, c6, c7]) (by simpa [cA8] using hg 0 _ _ rfl rfl)
    obtain ⟨p, e1, hp⟩ := u32Cell (cs := [c8]) (by simpa [cU] using hg 1 _ _ rfl rfl)
    simp only [List.cons.injEq, and_true] at e0 e1
    obtain ⟨rfl, rfl, rfl, rfl, rfl, rfl, rfl, rfl⟩ := e0
    subst e1
    exact ⟨R, p, rfl, hR, hp⟩
theorem openCpu {v : Value} {dd : DataW H} {p : List MemPlace} (hv : Value.okWide Tryd.prog W r b0 25 v) (h : DataW.Trod enc Tryd.prog W base spare held 25 v dd p) :
    ∃ (R : Nat → Int) (q : Int), v = cpuV R q ∧ regs R ∧ (0 ≤ q ∧ q < 4294967296) := by
  obtain ⟨cs, ys, m, rfl, _⟩ := open_structX Tryd.underlying25 hv h
  obtain ⟨fuel, hf⟩ := h
  obtain ⟨R, q, e, hR, hq⟩ := cpuCells hf
  refine ⟨R, q, ?_, hR, hq⟩
  have e' : cs = [.int .u32 (R 0), .int .u32 (R 1), .int .u32 (R 2), .int .u32 (R 3), .int .u32 (R 4), .int .u32 (R 5), .int .u32 (R 6), .int .u32 (R 7), .int .u32 q] := by simpa [Value.cells] using e
  rw [e']
theorem cI : Tryd.prog.cellsOf 3 = 1 := by kernel_rfl
theorem cS : Tryd.prog.cellsOf 9 = 1 := by kernel_rfl
theorem intCell {n : Nat} {cs : List Value} {y : DataW H × List MemPlace} (h : DataW.trod enc Tryd.prog W base spare held n 3 cs = some y) : ∃ a, cs = [.int .i64 a] := by
  obtain ⟨a, e, q, wf⟩ := DataW.trod_int Tryd.underlying3 h
  exact ⟨a, e⟩
theorem strCell {n : Nat} {cs : List Value} {y : DataW H × List MemPlace} (h : DataW.trod enc Tryd.prog W base spare held n 9 cs = some y) : ∃ s : ByteArray, cs = [.string s] := by
  obtain ⟨s, e, q, _⟩ := DataW.trod_string Tryd.underlying9 h
  exact ⟨s, e⟩
theorem openParts {v : Value} {dd : DataW H} {p : List MemPlace} (hv : Value.okWide Tryd.prog W r b0 39 v) (h : DataW.Trod enc Tryd.prog W base spare held 39 v dd p) :
    ∃ (R : Nat → Int) (q : Int) (m : ByteArray) (a b : Int), v = .agg #[.int .u32 (R 0), .int .u32 (R 1), .int .u32 (R 2), .int .u32 (R 3), .int .u32 (R 4), .int .u32 (R 5), .int .u32 (R 6), .int .u32 (R 7), .int .u32 q, .string m, .int .i64 a, .int .i64 b] ∧ regs R ∧ (0 ≤ q ∧ q < 4294967296) := by
  obtain ⟨cs, ys, m, rfl, hc, hy, rfl, hg⟩ := open_structX Tryd.underlying39 hv h
  rw [show Tryd.prog.cellsOf 39 = 12 by kernel_rfl] at hc
  match cs, hc, ys, hy with
  | [c0, c1, c2, c3, c4, c5, c6, c7, c8, c9, c10, c11], _, [y0, y1, y2, y3], _ =>
    obtain ⟨R, q, e0, hR, hq⟩ := cpuCells (cs := [c0, c1, c2, c3, c4, c5, c6, c7, c8]) (by simpa [cC] using hg 0 _ _ rfl rfl)
    obtain ⟨m, e1⟩ := strCell (cs := [c9]) (by simpa [cS] using hg 1 _ _ rfl rfl)
    obtain ⟨a, e2⟩ := intCell (cs := [c10]) (by simpa [cI] using hg 2 _ _ rfl rfl)
    obtain ⟨b, e3⟩ := intCell (cs := [c11]) (by simpa [cI] using hg 3 _ _ rfl rfl)
    simp only [List.cons.injEq, and_true] at e0 e1 e2 e3
    subst e1 e2 e3
    obtain ⟨rfl, rfl, rfl, rfl, rfl, rfl, rfl, rfl, rfl⟩ := e0
    exact ⟨R, q, m, a, b, rfl, hR, hq⟩
end
end Go.Proofs.YtcdoofjddhlodaaDoor
