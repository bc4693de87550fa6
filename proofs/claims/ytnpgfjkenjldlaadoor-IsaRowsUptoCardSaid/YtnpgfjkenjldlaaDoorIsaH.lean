/- isa.Bytes: a program's bytes. -/
import Derived.Test.YtnpgfjkenjldlaaDoorIsaF
import Derived.Test.YtnpgfjkenjldlaaDoorIsaD
namespace Go.Proofs.YtnpgfjkenjldlaaDoor
open Go.RowKit
set_option linter.unusedVariables false

/-- The cells of a program at an address: instruction k's four. -/
def insAt (w : World) (b o : Nat) (L : List (Int × Int × Int × Int)) : Prop :=
  ∀ (k : Nat) (x : Int × Int × Int × Int), L[k]? = some x →
    w.cell? ⟨b, o + k * 4, none⟩ = some (.int .i64 x.1) ∧ w.cell? ⟨b, o + k * 4 + 1, none⟩ = some (.int .i64 x.2.1) ∧ w.cell? ⟨b, o + k * 4 + 2, none⟩ = some (.int .i64 x.2.2.1) ∧ w.cell? ⟨b, o + k * 4 + 3, none⟩ = some (.int .i64 x.2.2.2)
def okI (x : Int × Int × Int × Int) : Bool := rMay x.1 x.2.1 x.2.2.1 x.2.2.2
def byL (n : Int) : List Value := [.int .u8 (n % 256), .int .u8 (n / 256 % 256), .int .u8 (n / 65536 % 256), .int .u8 (n / 16777216)]
def bytC : List (Int × Int × Int × Int) → List Value
  | [] => []
  | x :: L => byL (wordN x.1 x.2.1 x.2.2.1 x.2.2.2) ++ bytC L
theorem infoByte : (Tryd.prog.info? 5).map (fun i => (i.zero, i.size, i.bytes)) = some (some (.int .u8 0), 1, 1) := by kernel_rfl

theorem bytC_append (A B : List (Int × Int × Int × Int)) : bytC (A ++ B) = bytC A ++ bytC B := by
  induction A with
  | nil => rfl
  | cons x A ih => simp only [List.cons_append, bytC, ih, List.append_assoc]
theorem bytC_take {L : List (Int × Int × Int × Int)} {k : Nat} {x : Int × Int × Int × Int} (h : L[k]? = some x) : bytC (L.take (k + 1)) = bytC (L.take k) ++ byL (wordN x.1 x.2.1 x.2.2.1 x.2.2.2) := by
  rw [List.take_add_one, h, bytC_append]
  simp [bytC]

def byteI (v : Int) : UInt8 := UInt8.ofNat (v % 256).toNat
theorem byteI_toNat (v : Int) : ((byteI v).toNat : Int) = v % 256 := by
  unfold byteI
  have : (v % 256).toNat < 256 := by omega
  simp [UInt8.toNat_ofNat']
  omega
def byU (n : Int) : List UInt8 := [byteI n, byteI (n / 256), byteI (n / 65536), byteI (n / 16777216)]
def bytU : List (Int × Int × Int × Int) → List UInt8
  | [] => []
  | x :: L => byU (wordN x.1 x.2.1 x.2.2.1 x.2.2.2) ++ bytU L
def cellU (x : UInt8) : Value := .int .u8 (x.toNat : Int)
theorem byL_U (n : Int) (h0 : 0 ≤ n) (h1 : n < 4294967296) : byL n = (byU n).map cellU := by
  simp only [byL, byU, List.map_cons, List.map_nil, cellU, byteI_toNat]
  rw [show n / 16777216 % 256 = n / 16777216 by omega]
theorem word_lt {x0 x1 x2 x3 : Int} (h : rMay x0 x1 x2 x3 = true) : 0 ≤ wordN x0 x1 x2 x3 ∧ wordN x0 x1 x2 x3 < 4294967296 := by
  have hr := may_range h
  unfold wordN; omega
theorem bytC_U : ∀ (L : List (Int × Int × Int × Int)), (∀ x ∈ L, okI x = true) → bytC L = (bytU L).map cellU
  | [], _ => rfl
  | x :: L, h => by
    have hw := word_lt (show rMay x.1 x.2.1 x.2.2.1 x.2.2.2 = true from h x (by simp))
    simp only [bytC, bytU, List.map_append]
    rw [byL_U _ hw.1 hw.2, bytC_U L (fun y hy => h y (by simp [hy]))]
theorem bytU_len : ∀ (L : List (Int × Int × Int × Int)), (bytU L).length = 4 * L.length
  | [] => rfl
  | x :: L => by simp only [bytU, List.length_append, bytU_len L, byU, List.length_cons, List.length_nil]; omega

/-- The string of a row of bytes that the call owns. -/
theorem own_string {W : World} {base n : Nat} {v : Value} (l : List UInt8) (h : W.ownsRow base 5 1 v n (l.map cellU)) :
    (convert 55 9 v).run Tryd.prog W = .ok (.string ⟨l.toArray⟩) W := by
  have hl : l.length = n := by simpa using h.1
  rcases h.2 with ⟨rfl, hn⟩ | ⟨g, cap, cur, hv, hb, hg, h1, h2, h3, h4⟩
  · obtain rfl : l = [] := List.eq_nil_of_length_eq_zero (by omega)
    rw [run_convert_bytes_string W _ _ 5 none 0 0 Tryd.underlying55 Tryd.underlying5 Tryd.underlying9]
    rfl
  · subst hv
    subst hl
    exact run_convert_bytes_back (P := Tryd.prog) W 55 9 5 ⟨g, 0, none⟩ cap l Tryd.underlying55 Tryd.underlying5 Tryd.underlying9 (fun j hj => h.cells rfl j _ (by simp [List.getElem?_eq_getElem hj, cellU]))

set_option maxHeartbeats 400000 in
theorem bytes_ok (b o cap : Nat) (L : List (Int × Int × Int × Int)) (w : World) (hT : UsesAt w) (hb : b < w.heap.size) (hs : L.length ≤ 1048576) (hL : insAt w b o L) (hM : ∀ x ∈ L, okI x = true) :
    Calls Tryd.prog 18 #[.slice (some ⟨b, o, none⟩) L.length cap] w fun e w' => e = .returned (.tuple #[.string ⟨(bytU L).toArray⟩, .int .i64 0]) ∧ Below w.heap.size w w' := by
  have HT := Lib.hid hT
  have HM := Lib.hid hM
  have HLc := Lib.hid hL
  have Hb := Lib.hid hb
  clear hT hM hL hb
  obtain ⟨i0, hi, hzz⟩ := Option.map_eq_some_iff.1 infoByte
  simp only [Prod.mk.injEq] at hzz
  obtain ⟨hz0, hz1, hz2⟩ := hzz
  obtain ⟨W1, hmk, hown1, hg1⟩ := run_make_own (P := Tryd.prog) w w.heap.size 55 5 i0 _ 1 Tryd.underlying55 hi hz0 hz1 .i64 .i64 (4 * L.length) (by rw [hz2]; omega) (by unfold maxLen; omega) (Nat.le_refl _)
  have HG := Lib.hid hg1
  have HO := Lib.hid hown1
  have HI := Lib.hid (And.intro hi (And.intro hz0 (And.intro hz1 hz2)))
  clear hg1 hown1 hi hz0 hz1 hz2
  rw [show ((4 * L.length : Nat) : Int) = 4 * (L.length : Int) by omega] at hmk
  go_enter Tryd.func18, Tryd.ntmps18
  go_wp2
  clear hmk
  go_loopw [4, 15] (fun bs at_ wr => ∃ k : Nat, at_ = .int .i64 k ∧ Hid (k ≤ L.length) ∧ Hid (wr.ownsRow w.heap.size 5 1 bs (4 * k) (bytC (L.take k))) ∧ Hid (Below w.heap.size w wr)) (fun _ at_ _ => L.length - (intOf at_).toNat)
  case atStart => exact ⟨0, rfl, Nat.zero_le _, HO.out, (Below.refl _ _).grown HG.out (Nat.le_refl _) (fun k hk => by cases hk)⟩
  case round =>
    obtain ⟨k, rfl, HK, HOW, HB⟩ := hrel
    by_cases hlt : k < L.length
    · have hd : decide ((k : Int) < (L.length : Int)) = true := by simpa using hlt
      obtain ⟨x, hx⟩ : ∃ x, L[k]? = some x := ⟨_, List.getElem?_eq_getElem hlt⟩
      have HX := Lib.hid hx
      have HR : Hid (okI x = true) := HM.out x (List.mem_of_getElem? hx)
      obtain ⟨c0, c1, c2, c3⟩ := HLc.out k _ hx
      obtain ⟨x0, x1, x2, x3⟩ := x
      have d0 : wr.cell? ⟨b, o + k * 4, none⟩ = some (.int .i64 x0) := (HB.out.cell Hb.out).trans c0
      have d1 : wr.cell? ⟨b, o + k * 4 + 1, none⟩ = some (.int .i64 x1) := (HB.out.cell Hb.out).trans c1
      have d2 : wr.cell? ⟨b, o + k * 4 + 2, none⟩ = some (.int .i64 x2) := (HB.out.cell Hb.out).trans c2
      have d3 : wr.cell? ⟨b, o + k * 4 + 3, none⟩ = some (.int .i64 x3) := (HB.out.cell Hb.out).trans c3
      clear c0 c1 c2 c3 hx
      have hbl : b < wr.heap.size := Nat.lt_of_lt_of_le Hb.out HB.out.size
      have HL : Hid (4 * k + 4 ≤ 4 * L.length) := (by omega : 4 * k + 4 ≤ 4 * L.length)
      have hr := may_range (show rMay x0 x1 x2 x3 = true from HR.out)
      have hw0 : 0 ≤ wordN x0 x1 x2 x3 ∧ wordN x0 x1 x2 x3 < 4294967296 := by unfold wordN; omega
      have HW := Lib.hid hw0
      clear hr hw0
      have HU : Hid (∀ o : Obj, UsesAt (wr.alloc o)) := fun o => (HT.out.below HB.out).below ((Below.refl _ _).alloc (Nat.le_refl _) _)
      go_wp2_with fail
      refine (word_yes _ _ _ _ _ (HU.out _) HR.out).mono ?_
      rintro e w2 ⟨rfl, hb2⟩
      have hb3 : Below wr.heap.size wr w2 := ((Below.refl _ wr).alloc (Nat.le_refl _) _).trans (hb2.mono (by simp))
      have HO2 := Lib.hid (ownsRow_below HOW.out hb3)
      have HB2 : Hid (Below w.heap.size w w2) := HB.out.trans (hb3.mono HB.out.size)
      clear hb2 hb3
      obtain ⟨hw1, hw2⟩ := HW.out
      go_wp2_with (at_builtin; refine wpList_append_own _ rfl _ _ 55 rfl w.heap.size 5 i0 _ 1 1 Tryd.underlying55 HI.out.1 HI.out.2.1 HI.out.2.2.1 HI.out.2.2.2 rfl (by decide) _ (4 * k) _ rfl (ownsRow_below HO2.out ?_) ⟨w2.heap.size, 0, none⟩ 4 4 (byL (wordN x0 x1 x2 x3)) rfl rfl ?_ ?_ ?_ ?_ ?_ ?_)
      · exact (Below.refl _ _).alloc (Nat.le_refl _) _
      · intro j u hu
        rcases j with _ | _ | _ | _ | j
        all_goals simp [byL] at hu
        all_goals subst hu
        all_goals simp [Addr.add]
      · intro u hu
        simp only [byL, List.mem_cons, List.not_mem_nil, or_false] at hu
        rcases hu with rfl | rfl | rfl | rfl <;> rfl
      · have := HL.out; unfold maxLen; omega
      · have := HL.out; omega
      · have := HB2.out.size; simp; omega
      · intro v' w3 ho3 hg3 _
        have HO3 := Lib.hid ho3
        have HB3 : Hid (Below w.heap.size w w3) := (HB2.out.alloc HB2.out.size _).grown hg3 (by have := HB2.out.size; simp; omega) (ownsRow_block HOW.out)
        clear ho3 hg3
        go_wp2_with fail
        case roundEnd =>
          refine ⟨⟨k + 1, by push_cast; rfl, hlt, ?_, HB3.out⟩, ?_⟩
          · rw [bytC_take HX.out]
            exact HO3.out
          · simp only [intOf]
            omega
    · have hd : decide ((k : Int) < (L.length : Int)) = false := by simpa using hlt
      have hd2 : decide (k < L.length) = false := by simpa using hlt
      have hkn : k = L.length := by have := HK.out; omega
      subst hkn
      have how := HOW.out
      rw [List.take_length, bytC_U L HM.out] at how
      have hconv := own_string (bytU L) how
      clear hlt how
      go_wp2_with fail
      all_goals go_ret2
      all_goals exact ⟨rfl, HB.out⟩
end Go.Proofs.YtnpgfjkenjldlaaDoor
