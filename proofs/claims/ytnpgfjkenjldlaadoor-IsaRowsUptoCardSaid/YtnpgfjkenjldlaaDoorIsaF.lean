/- isa.Back: the program of bytes. -/
import Derived.Test.YtnpgfjkenjldlaaDoorIsaD1
import Derived.Lib.Strings
namespace Go.Proofs.YtnpgfjkenjldlaaDoor
open Go.RowKit
set_option linter.unusedVariables false

def bV (s : ByteArray) (k : Nat) : Int := ((s.data.toList.getD k 0).toNat : Int)
def wV (s : ByteArray) (k : Nat) : Int := bV s k + 256 * bV s (k + 1) + 65536 * bV s (k + 2) + 16777216 * bV s (k + 3)
theorem bV_bounds (m : ByteArray) (k : Nat) : 0 ≤ bV m k ∧ bV m k < 256 := by
  unfold bV
  have := (m.data.toList.getD k 0).toNat_lt
  omega
theorem wV_bounds (m : ByteArray) (a : Nat) : 0 ≤ wV m a ∧ wV m a < 4294967296 := by
  have b0 := bV_bounds m a
  have b1 := bV_bounds m (a + 1)
  have b2 := bV_bounds m (a + 2)
  have b3 := bV_bounds m (a + 3)
  unfold wV; omega
theorem bV_get (m : ByteArray) (k : Nat) (h : k < m.size) : bV m k = (m[k].toNat : Int) := by
  have h' : k < m.data.toList.length := by rw [← Lib.size_eq]; exact h
  unfold bV
  rw [List.getD_eq_getElem?_getD, List.getElem?_eq_getElem h']
  rfl
theorem wor {b0 b1 b2 b3 : Int} (h0 : 0 ≤ b0 ∧ b0 < 256) (h1 : 0 ≤ b1 ∧ b1 < 256) (h2 : 0 ≤ b2 ∧ b2 < 256) (h3 : 0 ≤ b3 ∧ b3 < 256) :
    bits BinOp.or IntKind.u32 (bits BinOp.or IntKind.u32 (bits BinOp.or IntKind.u32 b0 (b1 * 256)) (b2 * 65536)) (b3 * 16777216) = b0 + 256 * b1 + 65536 * b2 + 16777216 * b3 := by
  have comm : ∀ x y : Int, 0 ≤ x → x < 2 ^ 32 → 0 ≤ y → y < 2 ^ 32 → bits BinOp.or IntKind.u32 x y = bits BinOp.or IntKind.u32 y x := fun x y hx hx' hy hy' => by
    obtain ⟨a, rfl⟩ := Int.eq_ofNat_of_zero_le hx
    obtain ⟨b, rfl⟩ := Int.eq_ofNat_of_zero_le hy
    rw [(bits_nat .u32 32 (by decide) wraps_u32 a b (by omega) (by omega)).2, (bits_nat .u32 32 (by decide) wraps_u32 b a (by omega) (by omega)).2, Nat.or_comm]
  rw [comm b0 (b1 * 256) (by omega) (by omega) (by omega) (by omega), bits_join .u32 32 (by decide) wraps_u32 8 (b1 * 256) b0 (by omega) (by omega) (by omega) (by omega) (by omega) (by omega)]
  rw [comm _ (b2 * 65536) (by omega) (by omega) (by omega) (by omega), bits_join .u32 32 (by decide) wraps_u32 16 (b2 * 65536) _ (by omega) (by omega) (by omega) (by omega) (by omega) (by omega)]
  rw [comm _ (b3 * 16777216) (by omega) (by omega) (by omega) (by omega), bits_join .u32 32 (by decide) wraps_u32 24 (b3 * 16777216) _ (by omega) (by omega) (by omega) (by omega) (by omega) (by omega)]
  omega

/-- The cells of one instruction; of the first k words' instructions. -/
def insL (n : Int) : List Value := [.int .i64 (tO n), .int .i64 (tA n), .int .i64 (tB n), .int .i64 (tI n)]
def backC (s : ByteArray) : Nat → List Value
  | 0 => []
  | k + 1 => backC s k ++ insL (wV s (4 * k))

theorem infoIns : (Tryd.prog.info? 23).map (fun i => (i.zero, i.size, i.bytes)) = some (some (.agg #[.int .i64 0, .int .i64 0, .int .i64 0, .int .i64 0]), 4, 32) := by kernel_rfl

theorem ownsRow_below {w w' : World} {base e size n : Nat} {v : Value} {xs : List Value} (h : w.ownsRow base e size v n xs) (hb : Below w.heap.size w w') : w'.ownsRow base e size v n xs := by
  obtain ⟨hl, h | ⟨g, cap, cur, hv, hg, hh, r⟩⟩ := h
  · exact ⟨hl, .inl h⟩
  · refine ⟨hl, .inr ⟨g, cap, cur, hv, hg, ?_, r⟩⟩
    rw [hb.block g (by
      by_cases hlt : g < w.heap.size
      · exact hlt
      · rw [Array.getElem?_eq_none (by omega)] at hh; cases hh)]
    exact hh
theorem ownsRow_block {w : World} {base e size n : Nat} {v : Value} {xs : List Value} (h : w.ownsRow base e size v n xs) : ∀ k, v.ownBlock = some k → base ≤ k := by
  obtain ⟨hl, ⟨rfl, _⟩ | ⟨g, cap, cur, rfl, hg, _⟩⟩ := h
  · intro k hk; cases hk
  · intro k hk
    simp [Value.ownBlock] at hk
    omega

theorem wV_or (s : ByteArray) (p : Nat) (h : p + 3 < s.size) :
    bits BinOp.or IntKind.u32 (bits BinOp.or IntKind.u32 (bits BinOp.or IntKind.u32 ((s[p]'(by omega)).toNat % 4294967296 : Int) (((s[p + 1]'(by omega)).toNat : Int) % 4294967296 * 256 % 4294967296)) (((s[p + 2]'(by omega)).toNat : Int) % 4294967296 * 65536 % 4294967296)) (((s[p + 3]'h).toNat : Int) % 4294967296 * 16777216 % 4294967296) = wV s p := by
  have b0 := bV_bounds s p
  have b1 := bV_bounds s (p + 1)
  have b2 := bV_bounds s (p + 2)
  have b3 := bV_bounds s (p + 3)
  rw [← bV_get s p (by omega), ← bV_get s (p + 1) (by omega), ← bV_get s (p + 2) (by omega), ← bV_get s (p + 3) h]
  rw [show bV s p % 4294967296 = bV s p by omega, show bV s (p + 1) % 4294967296 * 256 % 4294967296 = bV s (p + 1) * 256 by omega, show bV s (p + 2) % 4294967296 * 65536 % 4294967296 = bV s (p + 2) * 65536 by omega, show bV s (p + 3) % 4294967296 * 16777216 % 4294967296 = bV s (p + 3) * 16777216 by omega]
  exact wor b0 b1 b2 b3

set_option maxHeartbeats 400000 in
theorem back_more (s : ByteArray) (w : World) (hs : s.size ≤ 1048576) (h4 : s.size % 4 ≠ 0) :
    Calls Tryd.prog 20 #[.string s] w fun e w' => e = .returned (.tuple #[.slice none 0 0, .int .i64 2]) ∧ w = w' := by
  go_enter Tryd.func20, Tryd.ntmps20
  go_wp2
  all_goals go_ret2
  all_goals exact ⟨rfl, rfl⟩

set_option maxHeartbeats 400000 in
theorem back_ok (s : ByteArray) (n : Nat) (w : World) (hT : UsesAt w) (hs : s.size ≤ 4194304) (h4 : s.size = 4 * n) (hM : ∀ k, k < n → tMay (wV s (4 * k)) = true) :
    Calls Tryd.prog 20 #[.string s] w fun e w' => (∃ v, e = .returned (.tuple #[v, .int .i64 0]) ∧ w'.ownsRow w.heap.size 23 4 v n (backC s n)) ∧ Below w.heap.size w w' := by
  have HT := Lib.hid hT
  have HM := Lib.hid hM
  have H4 := Lib.hid h4
  have hq : (s.size : Int) % 4 = 0 := by omega
  have hd : (s.size : Int) / 4 = (n : Int) := by omega
  clear hT hM h4
  obtain ⟨i0, hi, hzz⟩ := Option.map_eq_some_iff.1 infoIns
  simp only [Prod.mk.injEq] at hzz
  obtain ⟨hz0, hz1, hz2⟩ := hzz
  obtain ⟨W1, hmk, hown1, hg1⟩ := run_make_own (P := Tryd.prog) w w.heap.size 37 23 i0 _ 4 Tryd.underlying37 hi hz0 hz1 .i64 .i64 n (by rw [hz2]; omega) (by unfold maxLen; omega) (Nat.le_refl _)
  have HG := Lib.hid hg1
  have HO := Lib.hid hown1
  have HI := Lib.hid (And.intro hi (And.intro hz0 (And.intro hz1 hz2)))
  clear hg1 hown1 hi hz0 hz1 hz2
  go_enter Tryd.func20, Tryd.ntmps20
  go_wp2
  clear hmk hd hq
  go_loopw [4, 5] (fun l at_ wr => ∃ k p : Nat, Hid (p = 4 * k) ∧ Hid (k ≤ n) ∧ at_ = .int .i64 p ∧ Hid (wr.ownsRow w.heap.size 23 4 l k (backC s k)) ∧ Hid (Below w.heap.size w wr)) (fun _ at_ _ => 4 * n - (intOf at_).toNat)
  case atStart => exact ⟨0, 0, rfl, Nat.zero_le _, rfl, HO, (Below.refl _ _).grown HG.out (Nat.le_refl _) (fun k hk => by cases hk)⟩
  case round =>
    obtain ⟨k, p, HP, HK, rfl, HOW, HB⟩ := hrel
    by_cases hlt : p < s.size
    · have hd : decide ((p : Int) < (s.size : Int)) = true := by simpa using hlt
      have h4' := H4.out
      have hp := HP.out
      have g0 : (p : Int) < (s.size : Int) := by omega
      have g1 : (p : Int) + 1 < (s.size : Int) := by omega
      have g2 : (p : Int) + 2 < (s.size : Int) := by omega
      have g3 : (p : Int) + 3 < (s.size : Int) := by omega
      have e1 : (0 : Int) ≤ (p : Int) + 1 := by omega
      have e2 : (0 : Int) ≤ (p : Int) + 2 := by omega
      have e3 : (0 : Int) ≤ (p : Int) + 3 := by omega
      clear h4' hp hlt
      go_wp2_with fail
      go_region
      have EW := wV_or s p (by omega)
      simp only [EW]
      clear EW
      have hk : k < n := by have := HP.out; have := H4.out; omega
      have HK1 := Lib.hid hk
      have hwb := wV_bounds s p
      have HW := Lib.hid hwb
      have HTM : Hid (tMay (wV s p) = true) := by have := HM.out k hk; rw [← HP.out] at this; exact this
      have HU : Hid (UsesAt wr.drew) := (HT.out.below HB.out).below (Below.refl _ _).drew
      clear hk hwb
      go_wp2_with fail
      refine (take_yes _ _ HU.out HW.out.1 HW.out.2 HTM.out).mono ?_
      rintro e w2 ⟨rfl, hb2⟩
      have hb3 : Below wr.heap.size wr w2 := (Below.refl _ wr).drew.trans hb2
      have HO2 := Lib.hid (ownsRow_below HOW.out hb3)
      have HB2 : Hid (Below w.heap.size w w2) := HB.out.trans (hb3.mono HB.out.size)
      clear hb2 hb3
      have HL : Hid (4 * k + 4 ≤ 4 * n) := by have := HK1.out; exact (by omega : 4 * k + 4 ≤ 4 * n)
      go_wp2_with (at_builtin; refine wpList_append_own _ rfl _ _ 37 rfl w.heap.size 23 i0 _ 4 32 Tryd.underlying37 HI.out.1 HI.out.2.1 HI.out.2.2.1 HI.out.2.2.2 rfl (by decide) _ k (backC s k) rfl (ownsRow_below HO2.out ?_) ⟨w2.heap.size + 1, 0, none⟩ 1 1 (insL (wV s p)) rfl rfl ?_ ?_ ?_ ?_ ?_ ?_)
      · exact ((Below.refl _ _).alloc (Nat.le_refl _) _).alloc (by simp) _
      · intro j u hu
        rcases j with _ | _ | _ | _ | j
        all_goals simp [insL] at hu
        all_goals subst hu
        all_goals simp [Addr.add]
      · intro u hu
        simp only [insL, List.mem_cons, List.not_mem_nil, or_false] at hu
        rcases hu with rfl | rfl | rfl | rfl <;> rfl
      · have := HK1.out; have := H4.out; unfold maxLen; omega
      · have := HK1.out; have := H4.out; omega
      · have := HB2.out.size; simp; omega
      · intro v' w3 ho3 hg3 _
        have HO3 := Lib.hid ho3
        have HB3 : Hid (Below w.heap.size w w3) := ((HB2.out.alloc HB2.out.size _).alloc (by have := HB2.out.size; simp; omega) _).grown hg3 (by have := HB2.out.size; simp; omega) (ownsRow_block HOW.out)
        clear ho3 hg3
        go_wp2_with fail
        case roundEnd =>
          have hp := HP.out
          refine ⟨⟨k + 1, p + 4, (by omega : p + 4 = 4 * (k + 1)), HK1.out, by push_cast; rfl, ?_, HB3.out⟩, ?_⟩
          · have ho := HO3.out
            rw [hp] at ho
            exact ho
          · have := HL.out
            simp only [intOf]
            omega
    · have hd : decide ((p : Int) < (s.size : Int)) = false := by simpa using hlt
      have hd2 : decide (p < s.size) = false := by simpa using hlt
      have hkn : k = n := by have := HP.out; have := H4.out; have := HK.out; omega
      subst hkn
      clear hlt
      go_wp2_with fail
      all_goals go_ret2
      all_goals exact ⟨⟨_, rfl, HOW.out⟩, HB.out⟩
end Go.Proofs.YtnpgfjkenjldlaaDoor
