/- Processors: an instruction's word in memory. -/
import Derived.Test.YtcdoofjddhlodaaDoorCxL
import Derived.Test.YtcdoofjddhlodaaDoorSxAA
namespace Go.Proofs.YtcdoofjddhlodaaDoor
open Go.Sx Go.RowKit
set_option linter.unusedVariables false
set_option linter.unusedSimpArgs false
set_option linter.unusedSectionVars false
def wordN (o a b i : Int) : Int := o * 16777216 + a * 1048576 + b * 65536 + i % 65536
theorem take_word {o a b i : Int} (h : rMay o a b i = true) : tO (wordN o a b i) = o ∧ tA (wordN o a b i) = a ∧ tB (wordN o a b i) = b ∧ tI (wordN o a b i) = i := by
  obtain ⟨h1, h2, h3, h4, h5, h6, h7, h8⟩ := may_range h
  unfold tO tA tB tI wordN
  refine ⟨by omega, by omega, by omega, by omega⟩
theorem wordN_range {o a b i : Int} (h : rMay o a b i = true) : 0 ≤ wordN o a b i ∧ wordN o a b i < 4294967296 := by
  obtain ⟨h1, h2, h3, h4, h5, h6, h7, h8⟩ := may_range h
  unfold wordN
  omega
theorem tMay_word {o a b i : Int} (h : rMay o a b i = true) : tMay (wordN o a b i) = true := by
  obtain ⟨e1, e2, e3, e4⟩ := take_word h
  unfold tMay
  rw [e1, e2, e3, e4, h]
theorem wrapB (n : Int) : IntKind.u8.wrap n = n % 256 := IntKind.wrap_u8 n
theorem byte_list {N : Int} (h : 0 ≤ N ∧ N < 4294967296) : ((wordB N).data.toList.map fun x => (x.toNat : Int)) = [IntKind.u8.wrap (N.tmod 256), IntKind.u8.wrap ((IntKind.u32.wrap (N.tdiv 256)).tmod 256), IntKind.u8.wrap ((IntKind.u32.wrap (N.tdiv 65536)).tmod 256), IntKind.u8.wrap (IntKind.u32.wrap (N.tdiv 16777216))] := by
  have e1 : N.tdiv 256 = N / 256 := Int.tdiv_eq_ediv_of_nonneg h.1
  have e2 : N.tdiv 65536 = N / 65536 := Int.tdiv_eq_ediv_of_nonneg h.1
  have e3 : N.tdiv 16777216 = N / 16777216 := Int.tdiv_eq_ediv_of_nonneg h.1
  have e0 : N.tmod 256 = N % 256 := Int.tmod_eq_emod_of_nonneg h.1
  rw [wordB_list]
  simp only [List.map_cons, List.map_nil, byteI_toNat, e0, e1, e2, e3, wrapU, wrapB]
  have f1 : (N / 256 % 4294967296).tmod 256 = N / 256 % 4294967296 % 256 := Int.tmod_eq_emod_of_nonneg (by omega)
  have f2 : (N / 65536 % 4294967296).tmod 256 = N / 65536 % 4294967296 % 256 := Int.tmod_eq_emod_of_nonneg (by omega)
  rw [f1, f2]
  simp only [List.cons.injEq, and_true]
  refine ⟨by omega, by omega, by omega, by omega⟩
abbrev rowIns (o a b i : Int) : Row := ⟨4, 1, fun _ => insC o a b i, none, false, false⟩
abbrev rsV (r : Nat) : SV := .cv (.one (.rs r))
section
variable {W : Base} {B : List (Option (List At))} {Rs : List (Option Row)}
set_option maxHeartbeats 4000000 in
set_option maxRecDepth 100000 in
theorem rWordNo {o a b i : Int} (h : rMay o a b i = false) : CallOk Tryd.prog W B Rs 35 [insS o a b i] (hdT [.one (aU 0), .one (aI 1)]) := by
  refine CallOk.enter Tryd.func35 (by kernel_rfl) rfl [] [] [insS o a b i] rfl rows0 (fun r h => by cases h) rfl rfl ?_
  intro w blk hblk
  refine SG.walk tab_ok mx 400 [] [hdB false] ?_
  conv => whnf
  try dsimp only [rowL, rowN, growOk, hiN, fromL, tightN, maxOk]
  refine ⟨?_, ?_⟩
  · exact h ▸ rMayC
  refine SG.ret tab_ok Tryd.func35 rfl ?_
  intro ρ w' v hm hv
  exact Post.mk hm (.tup [.one (aU 0), .one (aI 1)]) [] none [] hv rfl rows0 rfl (by simp)
set_option maxHeartbeats 4000000 in
set_option maxRecDepth 100000 in
theorem rWordYes {o a b i : Int} (h : rMay o a b i = true) : CallOk Tryd.prog W B Rs 35 [insS o a b i] (hdT [.one (aU (wordN o a b i)), .one (aI 0)]) := by
  obtain ⟨h1, h2, h3, h4, h5, h6, h7, h8⟩ := may_range h
  by_cases g : i < 0
  · have hw : IntKind.u32.wrap (IntKind.i64.wrap (IntKind.i64.wrap (IntKind.i64.wrap (IntKind.i64.wrap (16777216 * o) + IntKind.i64.wrap (1048576 * a)) + IntKind.i64.wrap (65536 * b)) + IntKind.i64.wrap (i + 65536))) = wordN o a b i := by
      simp only [IntKind.wrap_i64, wrapU]; unfold wordN; omega
    refine CallOk.enter Tryd.func35 (by kernel_rfl) rfl [] [] [insS o a b i] rfl rows0 (fun r h => by cases h) rfl rfl ?_
    intro w blk hblk
    refine SG.walk tab_ok mx 400 [true] [hdB true] ?_
    conv => whnf
    try dsimp only [rowL, rowN, growOk, hiN, fromL, tightN, maxOk]
    refine ⟨?_, ?_⟩
    · repeat' apply And.intro
      all_goals first
        | exact h ▸ rMayC
        | trivial
        | rfl
        | omega
        | ((try dsimp only [rowL, rowN]); simp only [beq_iff_eq, beq_eq_false_iff_ne, bne_iff_ne, bne_eq_false_iff_eq, decide_eq_true_eq, decide_eq_false_iff_not, ne_eq, Bool.not_eq_true', Bool.not_eq_false', Bool.not_eq_eq_eq_not, Bool.not_true, Bool.not_false, Option.some.injEq, Option.getD_some, Option.getD_none]; omega)
        | (simp; done)
        | (simp; omega)
    rw [← hw]
    refine SG.ret tab_ok Tryd.func35 rfl ?_
    intro ρ w' v hm hv
    exact Post.mk hm (.tup [.one (aU (IntKind.u32.wrap (IntKind.i64.wrap (IntKind.i64.wrap (IntKind.i64.wrap (IntKind.i64.wrap (16777216 * o) + IntKind.i64.wrap (1048576 * a)) + IntKind.i64.wrap (65536 * b)) + IntKind.i64.wrap (i + 65536))))), .one (aI 0)]) [] none [] hv rfl rows0 rfl (by simp)
  · have hw : IntKind.u32.wrap (IntKind.i64.wrap (IntKind.i64.wrap (IntKind.i64.wrap (IntKind.i64.wrap (16777216 * o) + IntKind.i64.wrap (1048576 * a)) + IntKind.i64.wrap (65536 * b)) + i)) = wordN o a b i := by
      simp only [IntKind.wrap_i64, wrapU]; unfold wordN; omega
    refine CallOk.enter Tryd.func35 (by kernel_rfl) rfl [] [] [insS o a b i] rfl rows0 (fun r h => by cases h) rfl rfl ?_
    intro w blk hblk
    refine SG.walk tab_ok mx 400 [false] [hdB true] ?_
    conv => whnf
    try dsimp only [rowL, rowN, growOk, hiN, fromL, tightN, maxOk]
    refine ⟨?_, ?_⟩
    · repeat' apply And.intro
      all_goals first
        | exact h ▸ rMayC
        | trivial
        | rfl
        | omega
        | ((try dsimp only [rowL, rowN]); simp only [beq_iff_eq, beq_eq_false_iff_ne, bne_iff_ne, bne_eq_false_iff_eq, decide_eq_true_eq, decide_eq_false_iff_not, ne_eq, Bool.not_eq_true', Bool.not_eq_false', Bool.not_eq_eq_eq_not, Bool.not_true, Bool.not_false, Option.some.injEq, Option.getD_some, Option.getD_none]; omega)
        | (simp; done)
        | (simp; omega)
    rw [← hw]
    refine SG.ret tab_ok Tryd.func35 rfl ?_
    intro ρ w' v hm hv
    exact Post.mk hm (.tup [.one (aU (IntKind.u32.wrap (IntKind.i64.wrap (IntKind.i64.wrap (IntKind.i64.wrap (IntKind.i64.wrap (16777216 * o) + IntKind.i64.wrap (1048576 * a)) + IntKind.i64.wrap (65536 * b)) + i)))), .one (aI 0)]) [] none [] hv rfl rows0 rfl (by simp)
set_option maxHeartbeats 4000000 in
set_option maxRecDepth 100000 in
theorem rBytesNo {r : Nat} {R : Row} {o a b i : Int} (hr : Rs[r]? = some (some R)) (hR : RowLe R (rowIns o a b i)) (h : rMay o a b i = false) : CallOk Tryd.prog W B Rs 19 [rsV r] (hdT [.one (.v (.string ⟨#[]⟩)), .one (aI 1)]) := by
  refine CallOk.enter Tryd.func19 (by kernel_rfl) rfl [r] [rowIns o a b i] [rsV 0] rfl (rows1 (.ro_ hr hR rfl rfl (fun _ _ => rfl))) (fun r h => by cases h) rfl rfl ?_
  intro w blk hblk
  refine SG.walk tab_ok mx 400 [] [] ?_
  conv => whnf
  try dsimp only [rowL, rowN, growOk, hiN, fromL, tightN, maxOk]
  refine ⟨?_, ?_⟩
  · trivial
  refine SG.good (fun _ _ => .loop) ?_
  refine SG.walk tab_ok mx 400 [true, true] [hdT [.one (aU 0), .one (aI 1)]] ?_
  conv => whnf
  try dsimp only [rowL, rowN, growOk, hiN, fromL, tightN, maxOk]
  refine ⟨?_, ?_⟩
  · repeat' apply And.intro
    all_goals first
      | exact rWordNo h
      | trivial
      | rfl
      | omega
      | ((try dsimp only [rowL, rowN]); simp only [beq_iff_eq, beq_eq_false_iff_ne, bne_iff_ne, bne_eq_false_iff_eq, decide_eq_true_eq, decide_eq_false_iff_not, ne_eq, Bool.not_eq_true', Bool.not_eq_false', Bool.not_eq_eq_eq_not, Bool.not_true, Bool.not_false, Option.some.injEq, Option.getD_some, Option.getD_none]; omega)
      | (simp; done)
      | (simp; omega)
  refine SG.ret tab_ok Tryd.func19 rfl ?_
  intro ρ w' v hm hv
  exact Post.mk hm (.tup [.one (.v (.string ⟨#[]⟩)), .one (aI 1)]) [] none [] hv rfl rows0 rfl (by simp)
set_option maxHeartbeats 4000000 in
set_option maxRecDepth 100000 in
theorem rBytesYes {r : Nat} {R : Row} {o a b i : Int} (hr : Rs[r]? = some (some R)) (hR : RowLe R (rowIns o a b i)) (h : rMay o a b i = true) : CallOk Tryd.prog W B Rs 19 [rsV r] (hdT [.one (.v (.string (wordB (wordN o a b i)))), .one (aI 0)]) := by
  refine CallOk.enter Tryd.func19 (by kernel_rfl) rfl [r] [rowIns o a b i] [rsV 0] rfl (rows1 (.ro_ hr hR rfl rfl (fun _ _ => rfl))) (fun r h => by cases h) rfl rfl ?_
  intro w blk hblk
  refine SG.walk tab_ok mx 400 [] [] ?_
  conv => whnf
  try dsimp only [rowL, rowN, growOk, hiN, fromL, tightN, maxOk]
  refine ⟨?_, ?_⟩
  · trivial
  refine SG.nilRow 4 5 1 rfl ?_
  refine SG.norm ?_
  conv => whnf
  refine SG.good (fun _ _ => .loop) ?_
  refine SG.walk tab_ok mx 400 [true, false] [hdT [.one (aU (wordN o a b i)), .one (aI 0)]] ?_
  conv => whnf
  try dsimp only [rowL, rowN, growOk, hiN, fromL, tightN, maxOk]
  refine ⟨?_, ?_⟩
  · repeat' apply And.intro
    all_goals first
      | exact rWordYes h
      | trivial
      | rfl
      | omega
      | ((try dsimp only [rowL, rowN]); simp only [beq_iff_eq, beq_eq_false_iff_ne, bne_iff_ne, bne_eq_false_iff_eq, decide_eq_true_eq, decide_eq_false_iff_not, ne_eq, Bool.not_eq_true', Bool.not_eq_false', Bool.not_eq_eq_eq_not, Bool.not_true, Bool.not_false, Option.some.injEq, Option.getD_some, Option.getD_none]; omega)
      | (simp; done)
      | (simp; omega)
  refine SG.good (fun _ _ => .inLoop) ?_
  refine SG.walk tab_ok mx 400 [false] [] ?_
  conv => whnf
  try dsimp only [rowL, rowN, growOk, hiN, fromL, tightN, maxOk]
  refine ⟨?_, ?_⟩
  · repeat' apply And.intro
    all_goals first
      | trivial
      | rfl
      | omega
      | ((try dsimp only [rowL, rowN]); simp only [beq_iff_eq, beq_eq_false_iff_ne, bne_iff_ne, bne_eq_false_iff_eq, decide_eq_true_eq, decide_eq_false_iff_not, ne_eq, Bool.not_eq_true', Bool.not_eq_false', Bool.not_eq_eq_eq_not, Bool.not_true, Bool.not_false, Option.some.injEq, Option.getD_some, Option.getD_none]; omega)
      | (simp; done)
      | (simp; omega)
  refine SG.convBytes tab_ok (wordB (wordN o a b i)).data.toList (r := 3) rfl rfl rfl rfl rfl rfl rfl rfl rfl rfl rfl rfl rfl (fun j hj => ?_) ?_
  · have bl := byte_list (wordN_range h)
    have e : ((wordB (wordN o a b i)).data.toList.map fun x => (x.toNat : Int))[j]? = some ((wordB (wordN o a b i)).data.toList[j].toNat : Int) := by
      rw [List.getElem?_map, List.getElem?_eq_getElem hj]; rfl
    rw [bl] at e
    have hj4 : j < 4 := hj
    have hjc : j = 0 ∨ j = 1 ∨ j = 2 ∨ j = 3 := by omega
    rcases hjc with rfl | rfl | rfl | rfl <;> (rw [← Option.some.inj e]; rfl)
  refine SG.norm ?_
  conv => whnf
  refine SG.walk tab_ok mx 400 [] [] ?_
  conv => whnf
  try dsimp only [rowL, rowN, growOk, hiN, fromL, tightN, maxOk]
  refine ⟨?_, ?_⟩
  · trivial
  refine SG.ret tab_ok Tryd.func19 rfl ?_
  intro ρ w' v hm hv
  exact Post.mk hm (.tup [.one (.v (.string (wordB (wordN o a b i)))), .one (aI 0)]) [] none [] hv rfl rows0 rfl (by simp)
end
theorem len_size' (m : ByteArray) : m.data.toList.length = m.size := Array.length_toList
/-- As many noughts. -/
def zB (n : Nat) : ByteArray := ⟨(List.replicate n 0).toArray⟩
theorem zB_list (n : Nat) : (zB n).data.toList = List.replicate n 0 := by simp [zB]
theorem zB_size (n : Nat) : (zB n).size = n := by rw [← len_size', zB_list, List.length_replicate]
theorem ba_ext {x y : ByteArray} (h : x.data.toList = y.data.toList) : x = y := by
  cases x; cases y
  simp only at h
  congr 1
  exact Array.ext' h
theorem ba_app (x y : ByteArray) : (x ++ y).data.toList = x.data.toList ++ y.data.toList := by
  rw [ByteArray.data_append, Array.toList_append]
theorem zB_four (k : Nat) : zB (4 * k) ++ ⟨#[0, 0, 0, 0]⟩ = zB (4 * (k + 1)) := by
  refine ba_ext ?_
  rw [ba_app, zB_list, zB_list, show 4 * (k + 1) = 4 * k + 4 by omega, ← List.replicate_append_replicate]
  rfl
theorem size_app (x y : ByteArray) : (x ++ y).size = x.size + y.size := by
  rw [← len_size', ← len_size', ← len_size', ba_app, List.length_append]
theorem byte_far (k j : Nat) (s : ByteArray) : byteV (zB k ++ s) (k + j) = byteV s j := by
  unfold byteV
  rw [ba_app, zB_list, List.getD_eq_getElem?_getD, List.getD_eq_getElem?_getD, List.getElem?_append_right (by simp), List.length_replicate, Nat.add_sub_cancel_left]
theorem load_word {N : Int} (h : 0 ≤ N ∧ N < 4294967296) (k : Nat) : loadE (zB (4 * k) ++ wordB N) ((4 * k : Nat) : Int) = 0 ∧ loadN (zB (4 * k) ++ wordB N) ((4 * k : Nat) : Int) = N := by
  have hs : standsB (zB (4 * k) ++ wordB N) ((4 * k : Nat) : Int) = true := by
    unfold standsB
    have h4 := size_app (zB (4 * k)) (wordB N)
    rw [zB_size, wordB_size] at h4
    refine decide_eq_true ⟨by omega, by rw [h4]; omega⟩
  unfold loadE loadN
  rw [if_pos hs, if_pos hs]
  refine ⟨rfl, ?_⟩
  rw [Int.toNat_natCast]
  unfold wordV
  have b0 := byte_far (4 * k) 0 (wordB N)
  have b1 := byte_far (4 * k) 1 (wordB N)
  have b2 := byte_far (4 * k) 2 (wordB N)
  have b3 := byte_far (4 * k) 3 (wordB N)
  rw [Nat.add_zero] at b0
  rw [b0, b1, b2, b3]
  unfold byteV
  rw [wordB_list]
  simp only [List.getD_cons_zero, List.getD_cons_succ, byteI_toNat]
  omega
theorem insE {r : Nat} {R : Row} {Rs : List (Option Row)} {W : Base} {B : List (Option (List At))} {o a b i : Int} (hr : Rs[r]? = some (some R)) (hR : RowLe R (rowIns o a b i)) (h : ¬ rMay o a b i = true) : CallOk Tryd.prog W B Rs 19 [rsV r] (hdT [.one (.v (.string ⟨#[]⟩)), .one (aI 1)]) := rBytesNo hr hR (Bool.eq_false_iff.2 h)
set_option maxHeartbeats 4000000 in
set_option maxRecDepth 100000 in
theorem plain_walk (w : World) (R : Nat → Int) (p o a b i ws : Int) (hT : UsesAt w) (hR : regs R) :
    Calls Tryd.prog 9 #[cpuV R p, insV o a b i, .int .i64 ws] w fun e w' => e = .returned (.bool true) ∧ Below w.heap.size w w' := by
  have hU : UB ⟨w, none, [], []⟩ := ⟨hT, rfl⟩
  refine calls_top Tryd.func9 rfl [] [] [cpuS R p, insS o a b i, intV ws] .nil ⟨rfl, rfl, rfl, trivial⟩ ?_
  have rl : ∀ x : Row, x.sz = 4 → x.len = 1 → x.cells 0 = insC o a b i → RowLe x (rowIns o a b i) := fun x h1 h2 h3 => ⟨h1.symm, h2.symm, .inl rfl, (fun h => by cases h), (fun h => by cases h), fun j hj => by
    have hj0 : j = 0 := by omega
    subst hj0
    exact h3.symm⟩
  by_cases hm : rMay o a b i = true
  · by_cases h1 : ws < 0
    · refine SG.walk tab_ok mx 400 [false, true] [hdB true, hdT [.one (.v (.string (wordB (wordN o a b i)))), .one (aI 0)]] ?_
      conv => whnf
      try dsimp only [rowL, rowN, growOk, hiN, fromL, tightN, maxOk]
      refine ⟨?_, ?_⟩
      · repeat' apply And.intro
        all_goals first
          | exact shownC hU
          | exact rBytesYes rfl (rl _ rfl rfl rfl) hm
          | trivial
          | rfl
          | omega
          | ((try dsimp only [rowL, rowN]); simp only [beq_iff_eq, beq_eq_false_iff_ne, bne_iff_ne, bne_eq_false_iff_eq, decide_eq_true_eq, decide_eq_false_iff_not, ne_eq, Bool.not_eq_true', Bool.not_eq_false', Bool.not_eq_eq_eq_not, Bool.not_true, Bool.not_false, Option.some.injEq, Option.getD_some, Option.getD_none]; omega)
          | (simp; done)
          | (simp; omega)
      refine SG.ret tab_ok Tryd.func9 rfl ?_
      intro ρ w' v hm hv
      exact top_true hm hv rfl
    by_cases h2 : ws > 50
    · refine SG.walk tab_ok mx 400 [false, false, true] [hdB true, hdT [.one (.v (.string (wordB (wordN o a b i)))), .one (aI 0)]] ?_
      conv => whnf
      try dsimp only [rowL, rowN, growOk, hiN, fromL, tightN, maxOk]
      refine ⟨?_, ?_⟩
      · repeat' apply And.intro
        all_goals first
          | exact shownC hU
          | exact rBytesYes rfl (rl _ rfl rfl rfl) hm
          | trivial
          | rfl
          | omega
          | ((try dsimp only [rowL, rowN]); simp only [beq_iff_eq, beq_eq_false_iff_ne, bne_iff_ne, bne_eq_false_iff_eq, decide_eq_true_eq, decide_eq_false_iff_not, ne_eq, Bool.not_eq_true', Bool.not_eq_false', Bool.not_eq_eq_eq_not, Bool.not_true, Bool.not_false, Option.some.injEq, Option.getD_some, Option.getD_none]; omega)
          | (simp; done)
          | (simp; omega)
      refine SG.ret tab_ok Tryd.func9 rfl ?_
      intro ρ w' v hm hv
      exact top_true hm hv rfl
    obtain ⟨N, rfl⟩ := Int.eq_ofNat_of_zero_le (show 0 ≤ ws by omega)
    refine SG.walk tab_ok mx 400 [false, false, false] [hdB true, hdT [.one (.v (.string (wordB (wordN o a b i)))), .one (aI 0)]] ?_
    conv => whnf
    try dsimp only [rowL, rowN, growOk, hiN, fromL, tightN, maxOk]
    refine ⟨?_, ?_⟩
    · repeat' apply And.intro
      all_goals first
        | exact shownC hU
        | exact rBytesYes rfl (rl _ rfl rfl rfl) hm
        | trivial
        | rfl
        | omega
        | ((try dsimp only [rowL, rowN]); simp only [beq_iff_eq, beq_eq_false_iff_ne, bne_iff_ne, bne_eq_false_iff_eq, decide_eq_true_eq, decide_eq_false_iff_not, ne_eq, Bool.not_eq_true', Bool.not_eq_false', Bool.not_eq_eq_eq_not, Bool.not_true, Bool.not_false, Option.some.injEq, Option.getD_some, Option.getD_none]; omega)
        | (simp; done)
        | (simp; omega)
    refine SG.loop (fun k : Nat => ⟨puts (List.replicate (Tryd.f9).ntmps .any) [(2, intV N), (3, bpV 0), (4, bpV 1), (7, trueV), (8, strV (wordB (wordN o a b i))), (10, strV (zB (4 * k))), (11, intV k)], [some (cpuC R p), some (insC o a b i)], [], []⟩) (fun k => k ≤ N) (fun k => N - k) (0) (Nat.zero_le _) (fun h => SG.sub [0, 1] [] ⟨?_, ?_, ?_, by decide, rfl, rfl, rfl, ?_⟩ h) ?_
    · repeat' (first | exact trivial | exact rfl | refine And.intro ?_ ?_)
    · repeat' (first | exact trivial | exact rfl | refine And.intro ?_ ?_)
    · repeat' (first | exact trivial | refine ⟨⟨_, rfl, ⟨rfl, rfl, .inl rfl, (fun h => by first | exact h | cases h), (fun h => by first | exact h | cases h), fun _ _ => rfl⟩, fun _ _ => rfl⟩, ?_⟩ | refine ⟨⟨_, rfl, ⟨rfl, rfl, .inr rfl, (fun h => by first | exact h | cases h), (fun h => by first | exact h | cases h), fun _ _ => rfl⟩, fun _ _ => rfl⟩, ?_⟩ | refine ⟨⟨_, rfl, ⟨rfl, rfl, .inr rfl, (fun h => by first | exact h | cases h), (fun h => by first | exact h | cases h), fun i hi => absurd hi (Nat.not_lt_zero i)⟩, fun i hi => absurd hi (Nat.not_lt_zero i)⟩, ?_⟩ | refine ⟨⟨_, rfl, ⟨rfl, rfl, .inl rfl, (fun h => by first | exact h | cases h), (fun h => by first | exact h | cases h), fun i hi => ren_closed (hQc i hi)⟩, fun i hi => inn_closed (hQc i hi)⟩, ?_⟩)
    · repeat' (first | exact trivial | exact rfl | refine And.intro ?_ ?_)
    intro k hk next
    have hzs : (zB (4 * k)).size = 4 * k := zB_size _
    by_cases hlt : k < N
    · refine SG.walk tab_ok mx 400 [true] [] ?_
      conv => whnf
      try dsimp only [rowL, rowN, growOk, hiN, fromL, tightN, maxOk]
      refine ⟨?_, ?_⟩
      · have hz4 : (⟨#[0, 0, 0, 0]⟩ : ByteArray).size = 4 := rfl
        simp only [hzs, hz4]
        repeat' apply And.intro
        all_goals first
          | trivial
          | rfl
          | omega
          | ((try dsimp only [rowL, rowN]); simp only [beq_iff_eq, beq_eq_false_iff_ne, bne_iff_ne, bne_eq_false_iff_eq, decide_eq_true_eq, decide_eq_false_iff_not, ne_eq, Bool.not_eq_true', Bool.not_eq_false', Bool.not_eq_eq_eq_not, Bool.not_true, Bool.not_false, Option.some.injEq, Option.getD_some, Option.getD_none]; omega)
          | (simp; done)
          | (simp; omega)
      rw [zB_four, show IntKind.i64.wrap ((k : Int) + 1) = ((k + 1 : Nat) : Int) from by rw [wI (by omega) (by omega)]; simp]
      refine SG.sub [0, 1] [] ⟨?_, ?_, ?_, by decide, rfl, rfl, rfl, ?_⟩ (next (k + 1) hlt (by omega))
      · repeat' (first | exact trivial | exact rfl | refine And.intro ?_ ?_)
      · repeat' (first | exact trivial | exact rfl | refine And.intro ?_ ?_)
      · repeat' (first | exact trivial | refine ⟨⟨_, rfl, ⟨rfl, rfl, .inl rfl, (fun h => by first | exact h | cases h), (fun h => by first | exact h | cases h), fun _ _ => rfl⟩, fun _ _ => rfl⟩, ?_⟩ | refine ⟨⟨_, rfl, ⟨rfl, rfl, .inr rfl, (fun h => by first | exact h | cases h), (fun h => by first | exact h | cases h), fun _ _ => rfl⟩, fun _ _ => rfl⟩, ?_⟩ | refine ⟨⟨_, rfl, ⟨rfl, rfl, .inr rfl, (fun h => by first | exact h | cases h), (fun h => by first | exact h | cases h), fun i hi => absurd hi (Nat.not_lt_zero i)⟩, fun i hi => absurd hi (Nat.not_lt_zero i)⟩, ?_⟩ | refine ⟨⟨_, rfl, ⟨rfl, rfl, .inl rfl, (fun h => by first | exact h | cases h), (fun h => by first | exact h | cases h), fun i hi => ren_closed (hQc i hi)⟩, fun i hi => inn_closed (hQc i hi)⟩, ?_⟩)
      · repeat' (first | exact trivial | exact rfl | refine And.intro ?_ ?_)
    obtain rfl : k = N := by omega
    have hrg := wordN_range hm
    obtain ⟨l1, l2⟩ := load_word hrg k
    obtain ⟨t1, t2, t3, t4⟩ := take_word hm
    have hw4 : IntKind.i64.wrap (4 * (k : Int)) = ((4 * k : Nat) : Int) := by rw [wI (by omega) (by omega)]; omega
    have hw5 : IntKind.u32.wrap ((4 * k : Nat) : Int) = ((4 * k : Nat) : Int) := by rw [wU32 (by omega) (by omega)]
    have hsz := size_app (zB (4 * k)) (wordB (wordN o a b i))
    rw [hzs, wordB_size] at hsz
    have hst : stepO R ((4 * k : Nat) : Int) (zB (4 * k) ++ wordB (wordN o a b i)) = insO R ((4 * k : Nat) : Int) (zB (4 * k) ++ wordB (wordN o a b i)) o a b i := by
      unfold stepO
      rw [if_pos l1, l2, if_pos (tMay_word hm), t1, t2, t3, t4]
    have hms : (zB (4 * k) ++ wordB (wordN o a b i)).size ≤ 140737488351232 := by omega
    have hsm : (zB (4 * k)).size + (wordB (wordN o a b i)).size ≤ 9223372036854775807 := by rw [hzs, wordB_size]; omega
    have hkk0 : decide ((k : Int) < (k : Int)) = false := by simp
    have hpp : 0 ≤ ((4 * k : Nat) : Int) ∧ ((4 * k : Nat) : Int) < 4294967296 := by omega
    obtain ⟨x, hx⟩ : ∃ x, insO R ((4 * k : Nat) : Int) (zB (4 * k) ++ wordB (wordN o a b i)) o a b i = x := ⟨_, rfl⟩
    rw [hx] at hst
    have stp : ∀ {W : Base} {B : List (Option (List At))} {Rs : List (Option Row)}, UB W → CallOk Tryd.prog W B Rs 15 [cpuS R ((4 * k : Nat) : Int), strV (zB (4 * k) ++ wordB (wordN o a b i))] (outT x) := fun hU => by rw [← hst]; exact stepC hU hms hR hpp
    obtain ⟨M, hM⟩ : ∃ M, zB (4 * k) ++ wordB (wordN o a b i) = M := ⟨_, rfl⟩
    by_cases hd : (14 ≤ o ∧ o ≤ 17) ∨ o = 24
    · have hn : rMay o a b i = false ∨ (14 ≤ o ∧ o ≤ 17) ∨ o = 24 := .inr hd
      refine SG.walk tab_ok mx 400 [false] [hdT [.agg (cpuC R ((4 * k : Nat) : Int)), .one (.lb false)], outT x] ?_
      conv => whnf
      try dsimp only [rowL, rowN, growOk, hiN, fromL, tightN, maxOk]
      refine ⟨?_, ?_⟩
      · simp only [hw4, hw5]
        repeat' apply And.intro
        all_goals first
          | exact doesNo hU hn
          | exact stp hU
          | exact hsm
          | exact hkk0
          | trivial
          | rfl
          | omega
          | ((try dsimp only [rowL, rowN]); simp only [beq_iff_eq, beq_eq_false_iff_ne, bne_iff_ne, bne_eq_false_iff_eq, decide_eq_true_eq, decide_eq_false_iff_not, ne_eq, Bool.not_eq_true', Bool.not_eq_false', Bool.not_eq_eq_eq_not, Bool.not_true, Bool.not_false, Option.some.injEq, Option.getD_some, Option.getD_none]; omega)
          | (simp; done)
          | (simp; omega)
      refine SG.ret tab_ok Tryd.func9 rfl ?_
      intro ρ w' v hm hv
      exact top_true hm hv rfl
    · have hkk := kinds hm hd
      have hxd : x = doO R ((4 * k : Nat) : Int) (zB (4 * k) ++ wordB (wordN o a b i)) o a b i := by
        rw [← hx]; unfold insO; rw [if_neg (fun h => hd (.inl h)), if_neg (fun h => hd (.inr h))]
      have hxm : x.m = zB (4 * k) ++ wordB (wordN o a b i) ∧ x.t = 0 := by rw [hxd]; unfold doO; split <;> exact ⟨rfl, rfl⟩
      have dx : ∀ {W : Base} {B : List (Option (List At))} {Rs : List (Option Row)}, UB W → CallOk Tryd.prog W B Rs 13 [cpuS R ((4 * k : Nat) : Int), insS o a b i] (hdT [.agg (cpuC x.R x.p), .one (.lb true)]) := fun hU => by rw [hxd]; exact doesO hU hR hm hkk
      refine SG.walk tab_ok mx 400 [false, true, true] [hdT [.agg (cpuC x.R x.p), .one (.lb true)], outT x] ?_
      conv => whnf
      try dsimp only [rowL, rowN, growOk, hiN, fromL, tightN, maxOk]
      refine ⟨?_, ?_⟩
      · have hkm : (x.m.toList == (zB (4 * k) ++ wordB (wordN o a b i)).toList) = true := by rw [hxm.1]; exact beq_self_eq_true _
        simp only [hw4, hw5]
        repeat' apply And.intro
        all_goals first
          | exact dx hU
          | exact stp hU
          | exact hsm
          | exact hkk0
          | exact hkm
          | trivial
          | rfl
          | omega
          | ((try dsimp only [rowL, rowN]); simp only [beq_iff_eq, beq_eq_false_iff_ne, bne_iff_ne, bne_eq_false_iff_eq, decide_eq_true_eq, decide_eq_false_iff_not, ne_eq, Bool.not_eq_true', Bool.not_eq_false', Bool.not_eq_eq_eq_not, Bool.not_true, Bool.not_false, Option.some.injEq, Option.getD_some, Option.getD_none]; omega)
          | (simp; done)
          | (simp; omega)
      refine SG.ret tab_ok Tryd.func9 rfl ?_
      intro ρ w' v hm hv
      exact top_v hm hv (by rw [hxm.2]; rfl)
  · refine SG.walk tab_ok mx 400 [true] [hdB true, hdT [.one (.v (.string ⟨#[]⟩)), .one (aI 1)]] ?_
    conv => whnf
    try dsimp only [rowL, rowN, growOk, hiN, fromL, tightN, maxOk]
    refine ⟨?_, ?_⟩
    · repeat' apply And.intro
      all_goals first
        | exact shownC hU
        | exact insE rfl (rl _ rfl rfl rfl) hm
        | trivial
        | rfl
        | omega
        | ((try dsimp only [rowL, rowN]); simp only [beq_iff_eq, beq_eq_false_iff_ne, bne_iff_ne, bne_eq_false_iff_eq, decide_eq_true_eq, decide_eq_false_iff_not, ne_eq, Bool.not_eq_true', Bool.not_eq_false', Bool.not_eq_eq_eq_not, Bool.not_true, Bool.not_false, Option.some.injEq, Option.getD_some, Option.getD_none]; omega)
        | (simp; done)
        | (simp; omega)
    refine SG.ret tab_ok Tryd.func9 rfl ?_
    intro ρ w' v hm hv
    exact top_true hm hv rfl
end Go.Proofs.YtcdoofjddhlodaaDoor
