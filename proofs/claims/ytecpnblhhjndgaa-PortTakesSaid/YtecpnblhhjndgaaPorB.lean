/- Peek; Same. -/
import Derived.Test.YtecpnblhhjndgaaPorA
namespace Go.Proofs.Ytecpnblhhjndgaa
open Go.RowKit
set_option linter.unusedVariables false

set_option maxHeartbeats 400000 in
theorem peek_none (k f t s d l : Int) (v : Value) (w : World) (h : RowM w v []) :
    Calls Try.prog 16 #[chanV k f t s d, boxV v l] w fun e w' => e = .returned (.tuple #[msgV 0 ⟨#[]⟩, .bool false]) ∧ Below w.heap.size w w' := by
  obtain ⟨A, cap, rfl, _, _⟩ := Sl.slice h
  go_enter Try.func16, Try.ntmps16
  go_wp2
  refine bodyPost_ret (v := .tuple #[msgV 0 ⟨#[]⟩, .bool false]) (by simp [results, Try.results16, go_sem]) rfl ⟨rfl, ?_⟩
  repeat (first
    | exact Below.refl _ _
    | refine Below.drew ?_
    | refine below_drewN ?_ _
    | refine below_drewN ?_ _
    | refine Below.alloc ?_ (by first | omega | (simp; omega) | simp) _
    | refine Below.setCell ?_ (by first | omega | (simp; omega) | simp) _)

theorem cells_alloc {w : World} {b o : Nat} {C : List Value} (hb : b < w.heap.size) (hc : ∀ j u, C[j]? = some u → w.cell? ⟨b, o + j, none⟩ = some u) (O : Obj) : ∀ j u, C[j]? = some u → (w.alloc O).cell? ⟨b, o + j, none⟩ = some u :=
  fun j u hu => (World.cell?_alloc_past _ _ _ hb).trans (hc j u hu)

set_option maxHeartbeats 400000 in
theorem peek_some (k f t s d l : Int) (v : Value) (x : Msg) (L : List Msg) (w : World) (h : RowM w v L) (hm : L.length ≤ 5864062014805) (hx : L[0]? = some x) :
    Calls Try.prog 16 #[chanV k f t s d, boxV v l] w fun e w' => e = .returned (.tuple #[msgV x.1 x.2, .bool true]) ∧ Below w.heap.size w w' := by
  have hl0 : 0 < L.length := (List.getElem?_eq_some_iff.1 hx).1
  rcases Sl.open_ h with ⟨h0, _⟩ | ⟨h0, b, o, cap, rfl, hnc, hcm, hlt, hcell⟩
  · omega
  obtain ⟨c0, c1⟩ := RowM.cells hcell 0 x hx
  simp only [Nat.zero_mul, Nat.add_zero] at c0 c1
  generalize hN : L.length = N at *
  have hz : ((N : Int) == 0) = false := by simp; omega
  have HN := Lib.hid hN
  clear hN hcell hx
  obtain ⟨l1, l2, l3, l4, l5, l6, l7⟩ := lts hlt
  go_enter Try.func16, Try.ntmps16
  go_wp2
  refine bodyPost_ret (v := .tuple #[msgV x.1 x.2, .bool true]) (by simp [results, Try.results16, go_sem]) rfl ⟨rfl, ?_⟩
  repeat (first
    | exact Below.refl _ _
    | refine Below.drew ?_
    | refine below_drewN ?_ _
    | refine below_drewN ?_ _
    | refine Below.alloc ?_ (by first | omega | (simp; omega) | simp) _
    | refine Below.setCell ?_ (by first | omega | (simp; omega) | simp) _)

set_option maxHeartbeats 400000 in
theorem has_any (v : Value) (l : Int) (L : List Msg) (k : Nat) (a : Int) (s : ByteArray) (y : Msg) (w : World) (h : RowM w v L) (hm : L.length ≤ 5864062014805) (hk : L[k]? = some y) :
    Calls Try.prog 21 #[boxV v l, .int .i64 k, msgV a s] w fun e w' => e = .returned (.bool (msgEq y.1 y.2 a s)) ∧ Below w.heap.size w w' := by
  have hkl : k < L.length := (List.getElem?_eq_some_iff.1 hk).1
  rcases Sl.open_ h with ⟨h0, _⟩ | ⟨h0, b, o, cap, rfl, hnc, hcm, hlt, hcell⟩
  · omega
  obtain ⟨c0, c1⟩ := RowM.cells hcell k y hk
  generalize hN : L.length = N at *
  have hd : decide ((k : Int) < (N : Int)) = true := by simpa using hkl
  have g1 : (0 : Int) ≤ (k : Int) := by omega
  have g2 : (k : Int) < (N : Int) := by omega
  have heq := @eql_msg
  have HN := Lib.hid hN
  clear hN hcell
  go_enter Try.func21, Try.ntmps21
  go_wp2
  go_quiet (fail)
  go_wp2
  go_ret
  refine ⟨rfl, ?_⟩
  repeat (first
    | exact Below.refl _ _
    | refine Below.drew ?_
    | refine below_drewN ?_ _
    | refine below_drewN ?_ _
    | refine Below.alloc ?_ (by first | omega | (simp; omega) | simp) _
    | refine Below.setCell ?_ (by first | omega | (simp; omega) | simp) _)

set_option maxHeartbeats 400000 in
theorem same_len (v v' : Value) (l l' : Int) (L L' : List Msg) (w : World) (h : RowM w v L) (h' : RowM w v' L') (hm : L.length ≤ 5864062014805) (hm' : L'.length ≤ 5864062014805) (hne : L.length ≠ L'.length) :
    Calls Try.prog 18 #[boxV v l, boxV v' l'] w fun e w' => e = .returned (.bool false) ∧ Below w.heap.size w w' := by
  obtain ⟨A, cap, rfl, _, _⟩ := Sl.slice h
  obtain ⟨A', cap', rfl, _, _⟩ := Sl.slice h'
  have hd : ((L.length : Int) == (L'.length : Int)) = false := by simp; omega
  go_enter Try.func18, Try.ntmps18
  go_wp2
  go_ret
  refine ⟨rfl, ?_⟩
  repeat (first
    | exact Below.refl _ _
    | refine Below.drew ?_
    | refine below_drewN ?_ _
    | refine below_drewN ?_ _
    | refine Below.alloc ?_ (by first | omega | (simp; omega) | simp) _
    | refine Below.setCell ?_ (by first | omega | (simp; omega) | simp) _)
set_option maxHeartbeats 400000 in
theorem same_lost (v v' : Value) (l l' : Int) (L L' : List Msg) (w : World) (h : RowM w v L) (h' : RowM w v' L') (hm : L.length ≤ 5864062014805) (hm' : L'.length ≤ 5864062014805) (he : L.length = L'.length) (hne : l ≠ l') :
    Calls Try.prog 18 #[boxV v l, boxV v' l'] w fun e w' => e = .returned (.bool false) ∧ Below w.heap.size w w' := by
  obtain ⟨A, cap, rfl, _, _⟩ := Sl.slice h
  obtain ⟨A', cap', rfl, _, _⟩ := Sl.slice h'
  have hd : ((L.length : Int) == (L'.length : Int)) = true := by simp; omega
  have hd2 : (l == l') = false := by simpa using hne
  have HE := Lib.hid he
  clear he
  go_enter Try.func18, Try.ntmps18
  go_wp2
  go_ret
  refine ⟨rfl, ?_⟩
  repeat (first
    | exact Below.refl _ _
    | refine Below.drew ?_
    | refine below_drewN ?_ _
    | refine below_drewN ?_ _
    | refine Below.alloc ?_ (by first | omega | (simp; omega) | simp) _
    | refine Below.setCell ?_ (by first | omega | (simp; omega) | simp) _)
abbrev hasF (v : Value) (l : Int) : Value := .func (.func 21) #[boxV v l] #[]
theorem has_at (v : Value) (l : Int) (L : List Msg) (k : Nat) (a : Int) (s : ByteArray) (y : Msg) (r : Bool) (w : World) (h : RowM w v L) (hm : L.length ≤ 5864062014805) (hk : L[k]? = some y) (hr : msgEq y.1 y.2 a s = r) :
    Calls Try.prog 21 #[boxV v l, .int .i64 k, msgV a s] w fun e w' => e = .returned (.bool r) ∧ Below w.heap.size w w' := by
  subst hr
  exact has_any v l L k a s y w h hm hk

/-- The rows agree up to a place. -/
def agreeTo (L L' : List Msg) (k : Nat) : Prop := ∀ j, j < k → L[j]? = L'[j]?
theorem agree_all {L L' : List Msg} (he : L.length = L'.length) (h : agreeTo L L' L.length) : L = L' := by
  apply List.ext_getElem? 
  intro j
  by_cases hj : j < L.length
  · exact h j hj
  · rw [List.getElem?_eq_none (by omega), List.getElem?_eq_none (by omega)]

theorem agree_succ {L L' : List Msg} {k : Nat} {x y : Msg} (h : agreeTo L L' k) (hx : L[k]? = some x) (hy : L'[k]? = some y) (hr : msgEq y.1 y.2 x.1 x.2 = true) : agreeTo L L' (k + 1) := by
  intro j hj
  by_cases e : j = k
  · subst e
    rw [msgEq_iff, decide_eq_true_eq] at hr
    rw [hx, hy, hr]
  · exact h j (by omega)
theorem agree_not {L L' : List Msg} {k : Nat} {x y : Msg} (hx : L[k]? = some x) (hy : L'[k]? = some y) (hr : msgEq y.1 y.2 x.1 x.2 = false) : decide (L = L') = false := by
  rw [decide_eq_false_iff_not]
  rintro rfl
  rw [msgEq_iff, decide_eq_false_iff_not] at hr
  rw [hx] at hy
  injection hy with e
  exact hr e.symm

set_option maxHeartbeats 1000000 in
theorem all_any (v v' : Value) (l : Int) (L L' : List Msg) (w : World) (h : RowM w v L) (h' : RowM w v' L') (hm : L.length ≤ 5864062014805) (hm' : L'.length ≤ 5864062014805) (he : L.length = L'.length) :
    Calls Try.prog 20 #[v, hasF v' l] w fun e w' => e = .returned (.bool (decide (L = L'))) ∧ Below w.heap.size w w' := by
  have HE := Lib.hid he
  have H' := Lib.hid h'
  rcases Sl.open_ h with ⟨h0, _, A, cap, rfl, _, _⟩ | ⟨h0, b, o, cap, rfl, hnc, hcm, hlt, hcell⟩
  · have e1 : L = [] := List.eq_nil_of_length_eq_zero h0
    have e2 : L' = [] := List.eq_nil_of_length_eq_zero (by omega)
    subst e1 e2
    clear he h h' h0
    go_enter Try.func20, Try.ntmps20
    go_wp2
    refine wp_loop_rounds 1 ?_
    rw [rounds_succ]
    go_wp2
    go_ret
    refine ⟨rfl, ?_⟩
    repeat (first
      | exact Below.refl _ _
      | refine Below.drew ?_
      | refine below_drewN ?_ _
      | refine below_drewN ?_ _
      | refine Below.alloc ?_ (by first | omega | (simp; omega) | simp) _
      | refine Below.setCell ?_ (by first | omega | (simp; omega) | simp) _)
  · have HC := Lib.hid hcell
    have H := Lib.hid h
    have HL := Lib.hid hlt
    clear hcell he h h' hlt
    generalize hN : L.length = N at *
    have HN := Lib.hid hN
    clear hN
    go_enter Try.func20, Try.ntmps20
    go_wp2
    go_loopw [9] (fun i wr => ∃ k : Nat, i = .int .i64 k ∧ Hid (k ≤ N) ∧ Hid (agreeTo L L' k) ∧ Hid (Below w.heap.size w wr)) (fun i _ => N - (intOf i).toNat)
    case atStart => exact ⟨0, rfl, Nat.zero_le _, fun j hj => absurd hj (by omega), Below.refl _ _⟩
    case round =>
      obtain ⟨k, rfl, HK, HG, HB⟩ := hrel
      by_cases hlt : k < N
      · have hkl : k < L.length := by rw [HN.out]; exact hlt
        obtain ⟨x, hx⟩ : ∃ x, L[k]? = some x := ⟨_, List.getElem?_eq_getElem hkl⟩
        obtain ⟨y, hy⟩ : ∃ y, L'[k]? = some y := ⟨_, List.getElem?_eq_getElem (by rw [← HE.out]; exact hlt)⟩
        obtain ⟨c0, c1⟩ := RowM.cells HC.out k x hx
        have d0 : wr.cell? ⟨b, o + k * 2, none⟩ = some (.int .u64 x.1) := (HB.out.cell HL.out).trans c0
        have d1 : wr.cell? ⟨b, o + k * 2 + 1, none⟩ = some (.string x.2) := (HB.out.cell HL.out).trans c1
        have hd : decide ((k : Int) < (N : Int)) = true := by simpa using hlt
        have HX := Lib.hid hx
        have HY := Lib.hid hy
        clear c0 c1 hx hy hkl
        cases hr : msgEq y.1 y.2 x.1 x.2 with
        | true =>
          have HR := Lib.hid hr
          clear hr
          go_wp2_with fail
          refine (has_at v' l L' k x.1 x.2 y true _ (H'.out.below (by first | exact HB.out | exact HB.out.alloc HB.out.size _ | trace_state)) hm' HY.out HR.out).mono ?_
          rintro e w1 ⟨rfl, hb1⟩
          go_wp2_with fail
          case roundEnd =>
            exact ⟨⟨k + 1, by push_cast; rfl, hlt, agree_succ HG.out HX.out HY.out HR.out, (HB.out.alloc HB.out.size _).trans (hb1.mono (by have := HB.out.size; simp; omega))⟩, by simp only [intOf]; omega⟩
        | false =>
          have HR := Lib.hid hr
          clear hr
          go_wp2_with fail
          refine (has_at v' l L' k x.1 x.2 y false _ (H'.out.below (by first | exact HB.out | exact HB.out.alloc HB.out.size _)) hm' HY.out HR.out).mono ?_
          rintro e w1 ⟨rfl, hb1⟩
          go_wp2
          go_ret
          refine ⟨ret_bool ?_, (HB.out.alloc HB.out.size _).trans (hb1.mono (by have := HB.out.size; simp; omega))⟩
          exact (agree_not HX.out HY.out HR.out).symm
      · have hd : decide ((k : Int) < (N : Int)) = false := by simpa using hlt
        have hd2 : decide (k < N) = false := by simpa using hlt
        have hk : k = N := by have := HK.out; omega
        have HG2 : Hid (L = L') := agree_all (by rw [HN.out]; exact HE.out) (by rw [HN.out, ← hk]; exact HG.out)
        clear hk hlt
        go_wp2
        go_ret
        exact ⟨ret_bool (by simp [HG2.out]), HB.out⟩

theorem same_any (v v' : Value) (l l' : Int) (L L' : List Msg) (w : World) (h : RowM w v L) (h' : RowM w v' L') (hm : L.length ≤ 5864062014805) (hm' : L'.length ≤ 5864062014805) :
    Calls Try.prog 18 #[boxV v l, boxV v' l'] w fun e w' => e = .returned (.bool (decide (L = L' ∧ l = l'))) ∧ Below w.heap.size w w' := by
  by_cases he : L.length = L'.length
  · by_cases hl : l = l'
    · subst hl
      obtain ⟨A, cap, rfl, _, _⟩ := Sl.slice h
      obtain ⟨A', cap', rfl, _, _⟩ := Sl.slice h'
      have hd : ((L.length : Int) == (L'.length : Int)) = true := by simp; omega
      have HE := Lib.hid he
      have H := Lib.hid h
      have H' := Lib.hid h'
      clear he h h'
      go_enter Try.func18, Try.ntmps18
      go_wp2_with fail
      refine (all_any _ _ l L L' _ (H.out.below (((Below.refl _ _).alloc (Nat.le_refl _) _).alloc (by simp) _)) (H'.out.below (((Below.refl _ _).alloc (Nat.le_refl _) _).alloc (by simp) _)) hm hm' HE.out).mono ?_
      rintro e w1 ⟨rfl, hb1⟩
      have s1 := hb1.size
      simp at s1
      go_wp2
      go_ret
      refine ⟨ret_bool (by simp), ?_⟩
      repeat (first
        | exact Below.refl _ _
        | exact hb1
        | refine Below.drew ?_
        | refine below_drewN ?_ _
        | refine below_drewN ?_ _
        | refine Below.alloc ?_ (by first | omega | (simp; omega) | simp) _
        | refine Below.setCell ?_ (by first | omega | (simp; omega) | simp) _
        | refine Below.trans ?_ (hb1.mono (by first | omega | (simp; omega) | simp)))
    · have e0 : decide (L = L' ∧ l = l') = false := by simp [hl]
      rw [e0]
      exact same_lost v v' l l' L L' w h h' hm hm' he hl
  · have e0 : decide (L = L' ∧ l = l') = false := by
      rw [decide_eq_false_iff_not]
      rintro ⟨rfl, _⟩
      exact he rfl
    rw [e0]
    exact same_len v v' l l' L L' w h h' hm hm' he
end Go.Proofs.Ytecpnblhhjndgaa
