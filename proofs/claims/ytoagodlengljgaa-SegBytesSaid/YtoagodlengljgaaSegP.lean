/- The law SegBytes, walked. -/
import Derived.Test.YtoagodlengljgaaSegL
import Derived.Test.YtoagodlengljgaaSegM
namespace Go.Proofs.Ytoagodlengljgaa
open Go.RowKit
set_option linter.unusedVariables false

set_option maxHeartbeats 1000000 in
theorem bytes_no (m : ByteArray) (a : Nat) (w : World) (h1 : (a : Int) < 4294967296) (hm : m.size ≤ 140737488351232) (c1 : ¬ (a % 4 = 0 ∧ a + 4 ≤ m.size)) :
    Calls Try.prog 6 #[.string m, .int .u32 a] w fun e w' => e = .returned (.bool true) ∧ Below w.heap.size w w' := by
  have C1 := Lib.hid c1
  clear c1
  go_enter Try.func6, Try.ntmps6
  go_wp2_with fail
  refine (shown_any _).mono ?_
  rintro e w1 ⟨rfl, hb1⟩
  have HB : Hid (Below w.heap.size w w1) := hb1
  clear hb1
  go_wp2_with fail
  refine (load_no _ _ _ (by omega) h1 hm (stands_of_not C1.out)).mono ?_
  rintro e w2 ⟨rfl, rfl⟩
  go_wp2
  all_goals go_ret
  all_goals exact ⟨ret_bool (by simp), HB.out⟩

def vdiv (v : Int) : Nat → Int
  | 0 => v
  | k + 1 => vdiv v k / 256
theorem vdiv_range (v : Int) (h0 : 0 ≤ v) (h1 : v < 4294967296) : ∀ k, 0 ≤ vdiv v k ∧ vdiv v k < 4294967296
  | 0 => ⟨h0, h1⟩
  | k + 1 => by have := vdiv_range v h0 h1 k; simp only [vdiv]; omega
theorem vdiv_byte (m : ByteArray) (a k : Nat) (hk : k < 4) : byteV m (a + k) = vdiv (wordV m a) k % 256 := by
  have b0 := byteV_bounds m a
  have b1 := byteV_bounds m (a + 1)
  have b2 := byteV_bounds m (a + 2)
  have b3 := byteV_bounds m (a + 3)
  match k, hk with
  | 0, _ => simp only [vdiv, wordV, Nat.add_zero]; omega
  | 1, _ => simp only [vdiv, wordV]; omega
  | 2, _ => simp only [vdiv, wordV]; omega
  | 3, _ => simp only [vdiv, wordV]; omega
theorem wordV_range (m : ByteArray) (a : Nat) : 0 ≤ wordV m a ∧ wordV m a < 4294967296 := by
  have b0 := byteV_bounds m a
  have b1 := byteV_bounds m (a + 1)
  have b2 := byteV_bounds m (a + 2)
  have b3 := byteV_bounds m (a + 3)
  unfold wordV; omega
theorem byte_at (m : ByteArray) (x : Int) (j : Nat) (b : Int) (w : World) (hx : x = (j : Int)) (h1 : (j : Int) < 4294967296) (hm : m.size ≤ 140737488351232) (hc : j < m.size) (hb : byteV m j = b) :
    Calls Try.prog 15 #[.string m, .int .u32 x] w fun e w' => e = .returned (.tuple #[.int .u32 b, .int .i64 0]) ∧ w = w' := by
  subst hx; subst hb
  exact byte_yes m j w h1 hm hc

set_option maxHeartbeats 1000000 in
theorem bytes_yes (m : ByteArray) (a : Nat) (w : World) (h1 : (a : Int) < 4294967296) (hm : m.size ≤ 140737488351232) (c1 : a % 4 = 0 ∧ a + 4 ≤ m.size) :
    Calls Try.prog 6 #[.string m, .int .u32 a] w fun e w' => e = .returned (.bool true) ∧ Below w.heap.size w w' := by
  have C1 := Lib.hid c1
  clear c1
  go_enter Try.func6, Try.ntmps6
  go_wp2_with fail
  refine (shown_any _).mono ?_
  rintro e w1 ⟨rfl, hb1⟩
  go_wp2_with fail
  refine (load_yes _ _ _ h1 hm C1.out.1 C1.out.2).mono ?_
  rintro e w2 ⟨rfl, hb2⟩
  have HB : Hid (Below w.heap.size w w2) := hb1.trans (hb2.mono hb1.size)
  clear hb1 hb2
  have H5 : a + 4 ≤ m.size := C1.out.2
  have HR := Lib.hid (vdiv_range (wordV m a) (wordV_range m a).1 (wordV_range m a).2)
  generalize hV : wordV m a = V at *
  have HV := Lib.hid hV
  clear hV
  go_wp2_with fail
  go_loop [6, 8] (fun v i => ∃ k : Nat, k ≤ 4 ∧ i = .int .u32 k ∧ v = .int .u32 (vdiv V k)) (fun _ i => 4 - (intOf i).toNat)
  case atStart => exact ⟨0, by omega, rfl, rfl⟩
  case round =>
    rename_i hww
    clear hww
    obtain ⟨k, hk, rfl, rfl⟩ := hrel
    obtain ⟨r1, r2⟩ := HR.out k
    have HM := Lib.hid hm
    clear hm
    generalize hx : vdiv V k = x at *
    have HX := Lib.hid hx
    clear hx
    by_cases hlt : k < 4
    · have hd : decide ((k : Int) < 4) = true := by simp; omega
      go_wp2_with fail
      refine (byte_at m _ (a + k) (x % 256) _ (by have := C1.out.1; omega) (by have := C1.out.1; omega) HM.out (by omega) (by rw [← HX.out, ← HV.out]; exact vdiv_byte m a k hlt)).mono ?_
      rintro e w' ⟨rfl, rfl⟩
      go_wp2
      all_goals
        go_round
        case rel => exact ⟨k + 1, by omega, by go_num, by rw [vdiv, HX.out]⟩
        case measure => simp [intOf]; omega
    · have hd : decide ((k : Int) < 4) = false := by simp; omega
      go_wp2
      go_ret
      exact ⟨rfl, HB.out⟩

theorem bytes_walk (m : ByteArray) (a : Nat) (w : World) (h1 : (a : Int) < 4294967296) (hm : m.size ≤ 140737488351232) :
    Calls Try.prog 6 #[.string m, .int .u32 a] w fun e w' => e = .returned (.bool true) ∧ Below w.heap.size w w' := by
  by_cases c1 : a % 4 = 0 ∧ a + 4 ≤ m.size
  · exact bytes_yes m a w h1 hm c1
  · exact bytes_no m a w h1 hm c1
end Go.Proofs.Ytoagodlengljgaa
