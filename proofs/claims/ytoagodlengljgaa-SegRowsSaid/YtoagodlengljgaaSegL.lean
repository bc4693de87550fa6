/- The document's example, and the laws SegBounds, SegOne, SegBack, SegCopies, SegWords, walked. -/
import Derived.Test.YtoagodlengljgaaSegD
namespace Go.Proofs.Ytoagodlengljgaa
open Go.RowKit
set_option linter.unusedVariables false

def abB : ByteArray := ⟨#[97, 98]⟩

set_option maxHeartbeats 400000 in
theorem shown_any (w : World) :
    Calls Try.prog 10 #[] w fun e w' => e = .returned (.bool true) ∧ Below w.heap.size w w' := by
  have e1 : (makeB 8 abB).size = 8 := makeB_size 8 abB (by decide)
  have e2 : wordV (makeB 8 abB) 0 = 25185 := by decide
  have E1 := Lib.hid e1
  have E2 := Lib.hid e2
  clear e1 e2
  go_enter Try.func10, Try.ntmps10
  go_wp2_with fail
  refine (make_yes 8 abB w (by decide) (by decide)).mono ?_
  rintro e w1 ⟨rfl, hb1⟩
  generalize hM : makeB 8 abB = M at *
  have HM := Lib.hid hM
  clear hM
  go_wp2_with fail
  refine (load_yes M 0 w1 (by decide) (by rw [E1.out]; decide) (by decide) (by rw [E1.out]; decide)).mono ?_
  rw [E2.out]
  rintro e w2 ⟨rfl, hb2⟩
  go_wp2_with fail
  refine (load_no M 2 w2 (by decide) (by decide) (by rw [E1.out]; decide) (by simp [standsB])).mono ?_
  rintro e w2' ⟨rfl, rfl⟩
  go_wp2_with fail
  refine (load_no M 8 w2 (by decide) (by decide) (by rw [E1.out]; decide) (by unfold standsB; rw [E1.out]; decide)).mono ?_
  rintro e w2' ⟨rfl, rfl⟩
  have HB := Lib.hid (hb1.trans (hb2.mono hb1.size))
  clear hb1 hb2
  go_wp2
  all_goals go_ret
  all_goals exact ⟨rfl, HB.out⟩

set_option maxHeartbeats 1000000 in
theorem bounds_111 (m : ByteArray) (a n : Nat) (w : World) (h1 : (a : Int) < 4294967296) (h2 : (n : Int) < 4294967296) (hm : m.size ≤ 140737488351232) (c1 : a < m.size) (c2 : a + n ≤ m.size) (c3 : a % 4 = 0 ∧ a + 4 ≤ m.size) :
    Calls Try.prog 9 #[.string m, .int .u32 a, .int .u32 n] w fun e w' => e = .returned (.bool true) ∧ Below w.heap.size w w' := by
  have C3 := Lib.hid c3
  have d1 : decide ((a : Int) < (m.size : Int)) = true := by simp; omega
  have d2 : decide ((a : Int) + (n : Int) ≤ (m.size : Int)) = true := by simp; omega
  have d3 : (a : Int) % 4 = 0 := by omega
  have d4 : decide ((a : Int) + 4 ≤ (m.size : Int)) = true := by simp; omega
  have d5 : (a : Int) + 4 ≤ (m.size : Int) := by omega
  clear c3
  go_enter Try.func9, Try.ntmps9
  go_wp2_with fail
  refine (shown_any _).mono ?_
  rintro e w1 ⟨rfl, hb1⟩
  go_wp2_with fail
  refine (byte_yes _ _ _ h1 hm c1).mono ?_
  rintro e w' ⟨rfl, rfl⟩
  go_wp2_with fail
  refine (out_yes _ _ _ _ h1 h2 hm c2).mono ?_
  rintro e w' ⟨rfl, rfl⟩
  go_wp2_with fail
  refine (load_yes _ _ _ h1 hm C3.out.1 C3.out.2).mono ?_
  rintro e w2 ⟨rfl, hb2⟩
  have HB := Lib.hid (hb1.trans (hb2.mono hb1.size))
  clear hb1 hb2
  go_wp2
  all_goals go_ret
  all_goals exact ⟨rfl, HB.out⟩

set_option maxHeartbeats 1000000 in
theorem bounds_110 (m : ByteArray) (a n : Nat) (w : World) (h1 : (a : Int) < 4294967296) (h2 : (n : Int) < 4294967296) (hm : m.size ≤ 140737488351232) (c1 : a < m.size) (c2 : a + n ≤ m.size) (c3 : ¬ (a % 4 = 0 ∧ a + 4 ≤ m.size)) :
    Calls Try.prog 9 #[.string m, .int .u32 a, .int .u32 n] w fun e w' => e = .returned (.bool true) ∧ Below w.heap.size w w' := by
  have C3 := Lib.hid c3
  have d1 : decide ((a : Int) < (m.size : Int)) = true := by simp; omega
  have d2 : decide ((a : Int) + (n : Int) ≤ (m.size : Int)) = true := by simp; omega
  clear c3
  go_enter Try.func9, Try.ntmps9
  go_wp2_with fail
  refine (shown_any _).mono ?_
  rintro e w1 ⟨rfl, hb1⟩
  go_wp2_with fail
  refine (byte_yes _ _ _ h1 hm c1).mono ?_
  rintro e w' ⟨rfl, rfl⟩
  go_wp2_with fail
  refine (out_yes _ _ _ _ h1 h2 hm c2).mono ?_
  rintro e w' ⟨rfl, rfl⟩
  go_wp2_with fail
  refine (load_no _ _ _ (by omega) h1 hm (stands_of_not C3.out)).mono ?_
  rintro e w' ⟨rfl, rfl⟩
  have HB := Lib.hid hb1
  clear hb1
  have D : ¬ ((a : Int) % 4 = 0 ∧ (a : Int) + 4 ≤ (m.size : Int)) := by have := C3.out; omega
  by_cases k : (a : Int) % 4 = 0
  · have d4 : decide ((a : Int) + 4 ≤ (m.size : Int)) = false := by simp; omega
    clear D
    go_wp2
    all_goals go_ret
    all_goals exact ⟨rfl, HB.out⟩
  · clear D
    go_wp2
    all_goals go_ret
    all_goals exact ⟨rfl, HB.out⟩

set_option maxHeartbeats 1000000 in
theorem bounds_101 (m : ByteArray) (a n : Nat) (w : World) (h1 : (a : Int) < 4294967296) (h2 : (n : Int) < 4294967296) (hm : m.size ≤ 140737488351232) (c1 : a < m.size) (c2 : ¬ a + n ≤ m.size) (c3 : a % 4 = 0 ∧ a + 4 ≤ m.size) :
    Calls Try.prog 9 #[.string m, .int .u32 a, .int .u32 n] w fun e w' => e = .returned (.bool true) ∧ Below w.heap.size w w' := by
  have C3 := Lib.hid c3
  have d1 : decide ((a : Int) < (m.size : Int)) = true := by simp; omega
  have d2 : decide ((a : Int) + (n : Int) ≤ (m.size : Int)) = false := by simp; omega
  have d3 : (a : Int) % 4 = 0 := by omega
  have d4 : decide ((a : Int) + 4 ≤ (m.size : Int)) = true := by simp; omega
  have d5 : (a : Int) + 4 ≤ (m.size : Int) := by omega
  clear c3
  go_enter Try.func9, Try.ntmps9
  go_wp2_with fail
  refine (shown_any _).mono ?_
  rintro e w1 ⟨rfl, hb1⟩
  go_wp2_with fail
  refine (byte_yes _ _ _ h1 hm c1).mono ?_
  rintro e w' ⟨rfl, rfl⟩
  go_wp2_with fail
  refine (out_no _ _ _ _ h1 h2 hm c2).mono ?_
  rintro e w' ⟨rfl, rfl⟩
  go_wp2_with fail
  refine (load_yes _ _ _ h1 hm C3.out.1 C3.out.2).mono ?_
  rintro e w2 ⟨rfl, hb2⟩
  have HB := Lib.hid (hb1.trans (hb2.mono hb1.size))
  clear hb1 hb2
  go_wp2
  all_goals go_ret
  all_goals exact ⟨rfl, HB.out⟩

set_option maxHeartbeats 1000000 in
theorem bounds_100 (m : ByteArray) (a n : Nat) (w : World) (h1 : (a : Int) < 4294967296) (h2 : (n : Int) < 4294967296) (hm : m.size ≤ 140737488351232) (c1 : a < m.size) (c2 : ¬ a + n ≤ m.size) (c3 : ¬ (a % 4 = 0 ∧ a + 4 ≤ m.size)) :
    Calls Try.prog 9 #[.string m, .int .u32 a, .int .u32 n] w fun e w' => e = .returned (.bool true) ∧ Below w.heap.size w w' := by
  have C3 := Lib.hid c3
  have d1 : decide ((a : Int) < (m.size : Int)) = true := by simp; omega
  have d2 : decide ((a : Int) + (n : Int) ≤ (m.size : Int)) = false := by simp; omega
  clear c3
  go_enter Try.func9, Try.ntmps9
  go_wp2_with fail
  refine (shown_any _).mono ?_
  rintro e w1 ⟨rfl, hb1⟩
  go_wp2_with fail
  refine (byte_yes _ _ _ h1 hm c1).mono ?_
  rintro e w' ⟨rfl, rfl⟩
  go_wp2_with fail
  refine (out_no _ _ _ _ h1 h2 hm c2).mono ?_
  rintro e w' ⟨rfl, rfl⟩
  go_wp2_with fail
  refine (load_no _ _ _ (by omega) h1 hm (stands_of_not C3.out)).mono ?_
  rintro e w' ⟨rfl, rfl⟩
  have HB := Lib.hid hb1
  clear hb1
  have D : ¬ ((a : Int) % 4 = 0 ∧ (a : Int) + 4 ≤ (m.size : Int)) := by have := C3.out; omega
  by_cases k : (a : Int) % 4 = 0
  · have d4 : decide ((a : Int) + 4 ≤ (m.size : Int)) = false := by simp; omega
    clear D
    go_wp2
    all_goals go_ret
    all_goals exact ⟨rfl, HB.out⟩
  · clear D
    go_wp2
    all_goals go_ret
    all_goals exact ⟨rfl, HB.out⟩

set_option maxHeartbeats 1000000 in
theorem bounds_011 (m : ByteArray) (a n : Nat) (w : World) (h1 : (a : Int) < 4294967296) (h2 : (n : Int) < 4294967296) (hm : m.size ≤ 140737488351232) (c1 : ¬ a < m.size) (c2 : a + n ≤ m.size) (c3 : a % 4 = 0 ∧ a + 4 ≤ m.size) :
    Calls Try.prog 9 #[.string m, .int .u32 a, .int .u32 n] w fun e w' => e = .returned (.bool true) ∧ Below w.heap.size w w' := by
  have C3 := Lib.hid c3
  have d1 : decide ((a : Int) < (m.size : Int)) = false := by simp; omega
  have d2 : decide ((a : Int) + (n : Int) ≤ (m.size : Int)) = true := by simp; omega
  have d3 : (a : Int) % 4 = 0 := by omega
  have d4 : decide ((a : Int) + 4 ≤ (m.size : Int)) = true := by simp; omega
  have d5 : (a : Int) + 4 ≤ (m.size : Int) := by omega
  clear c3
  go_enter Try.func9, Try.ntmps9
  go_wp2_with fail
  refine (shown_any _).mono ?_
  rintro e w1 ⟨rfl, hb1⟩
  go_wp2_with fail
  refine (byte_no _ _ _ h1 hm c1).mono ?_
  rintro e w' ⟨rfl, rfl⟩
  go_wp2_with fail
  refine (out_yes _ _ _ _ h1 h2 hm c2).mono ?_
  rintro e w' ⟨rfl, rfl⟩
  go_wp2_with fail
  refine (load_yes _ _ _ h1 hm C3.out.1 C3.out.2).mono ?_
  rintro e w2 ⟨rfl, hb2⟩
  have HB := Lib.hid (hb1.trans (hb2.mono hb1.size))
  clear hb1 hb2
  go_wp2
  all_goals go_ret
  all_goals exact ⟨rfl, HB.out⟩

set_option maxHeartbeats 1000000 in
theorem bounds_010 (m : ByteArray) (a n : Nat) (w : World) (h1 : (a : Int) < 4294967296) (h2 : (n : Int) < 4294967296) (hm : m.size ≤ 140737488351232) (c1 : ¬ a < m.size) (c2 : a + n ≤ m.size) (c3 : ¬ (a % 4 = 0 ∧ a + 4 ≤ m.size)) :
    Calls Try.prog 9 #[.string m, .int .u32 a, .int .u32 n] w fun e w' => e = .returned (.bool true) ∧ Below w.heap.size w w' := by
  have C3 := Lib.hid c3
  have d1 : decide ((a : Int) < (m.size : Int)) = false := by simp; omega
  have d2 : decide ((a : Int) + (n : Int) ≤ (m.size : Int)) = true := by simp; omega
  clear c3
  go_enter Try.func9, Try.ntmps9
  go_wp2_with fail
  refine (shown_any _).mono ?_
  rintro e w1 ⟨rfl, hb1⟩
  go_wp2_with fail
  refine (byte_no _ _ _ h1 hm c1).mono ?_
  rintro e w' ⟨rfl, rfl⟩
  go_wp2_with fail
  refine (out_yes _ _ _ _ h1 h2 hm c2).mono ?_
  rintro e w' ⟨rfl, rfl⟩
  go_wp2_with fail
  refine (load_no _ _ _ (by omega) h1 hm (stands_of_not C3.out)).mono ?_
  rintro e w' ⟨rfl, rfl⟩
  have HB := Lib.hid hb1
  clear hb1
  have D : ¬ ((a : Int) % 4 = 0 ∧ (a : Int) + 4 ≤ (m.size : Int)) := by have := C3.out; omega
  by_cases k : (a : Int) % 4 = 0
  · have d4 : decide ((a : Int) + 4 ≤ (m.size : Int)) = false := by simp; omega
    clear D
    go_wp2
    all_goals go_ret
    all_goals exact ⟨rfl, HB.out⟩
  · clear D
    go_wp2
    all_goals go_ret
    all_goals exact ⟨rfl, HB.out⟩

set_option maxHeartbeats 1000000 in
theorem bounds_001 (m : ByteArray) (a n : Nat) (w : World) (h1 : (a : Int) < 4294967296) (h2 : (n : Int) < 4294967296) (hm : m.size ≤ 140737488351232) (c1 : ¬ a < m.size) (c2 : ¬ a + n ≤ m.size) (c3 : a % 4 = 0 ∧ a + 4 ≤ m.size) :
    Calls Try.prog 9 #[.string m, .int .u32 a, .int .u32 n] w fun e w' => e = .returned (.bool true) ∧ Below w.heap.size w w' := by
  have C3 := Lib.hid c3
  have d1 : decide ((a : Int) < (m.size : Int)) = false := by simp; omega
  have d2 : decide ((a : Int) + (n : Int) ≤ (m.size : Int)) = false := by simp; omega
  have d3 : (a : Int) % 4 = 0 := by omega
  have d4 : decide ((a : Int) + 4 ≤ (m.size : Int)) = true := by simp; omega
  have d5 : (a : Int) + 4 ≤ (m.size : Int) := by omega
  clear c3
  go_enter Try.func9, Try.ntmps9
  go_wp2_with fail
  refine (shown_any _).mono ?_
  rintro e w1 ⟨rfl, hb1⟩
  go_wp2_with fail
  refine (byte_no _ _ _ h1 hm c1).mono ?_
  rintro e w' ⟨rfl, rfl⟩
  go_wp2_with fail
  refine (out_no _ _ _ _ h1 h2 hm c2).mono ?_
  rintro e w' ⟨rfl, rfl⟩
  go_wp2_with fail
  refine (load_yes _ _ _ h1 hm C3.out.1 C3.out.2).mono ?_
  rintro e w2 ⟨rfl, hb2⟩
  have HB := Lib.hid (hb1.trans (hb2.mono hb1.size))
  clear hb1 hb2
  go_wp2
  all_goals go_ret
  all_goals exact ⟨rfl, HB.out⟩

set_option maxHeartbeats 1000000 in
theorem bounds_000 (m : ByteArray) (a n : Nat) (w : World) (h1 : (a : Int) < 4294967296) (h2 : (n : Int) < 4294967296) (hm : m.size ≤ 140737488351232) (c1 : ¬ a < m.size) (c2 : ¬ a + n ≤ m.size) (c3 : ¬ (a % 4 = 0 ∧ a + 4 ≤ m.size)) :
    Calls Try.prog 9 #[.string m, .int .u32 a, .int .u32 n] w fun e w' => e = .returned (.bool true) ∧ Below w.heap.size w w' := by
  have C3 := Lib.hid c3
  have d1 : decide ((a : Int) < (m.size : Int)) = false := by simp; omega
  have d2 : decide ((a : Int) + (n : Int) ≤ (m.size : Int)) = false := by simp; omega
  clear c3
  go_enter Try.func9, Try.ntmps9
  go_wp2_with fail
  refine (shown_any _).mono ?_
  rintro e w1 ⟨rfl, hb1⟩
  go_wp2_with fail
  refine (byte_no _ _ _ h1 hm c1).mono ?_
  rintro e w' ⟨rfl, rfl⟩
  go_wp2_with fail
  refine (out_no _ _ _ _ h1 h2 hm c2).mono ?_
  rintro e w' ⟨rfl, rfl⟩
  go_wp2_with fail
  refine (load_no _ _ _ (by omega) h1 hm (stands_of_not C3.out)).mono ?_
  rintro e w' ⟨rfl, rfl⟩
  have HB := Lib.hid hb1
  clear hb1
  have D : ¬ ((a : Int) % 4 = 0 ∧ (a : Int) + 4 ≤ (m.size : Int)) := by have := C3.out; omega
  by_cases k : (a : Int) % 4 = 0
  · have d4 : decide ((a : Int) + 4 ≤ (m.size : Int)) = false := by simp; omega
    clear D
    go_wp2
    all_goals go_ret
    all_goals exact ⟨rfl, HB.out⟩
  · clear D
    go_wp2
    all_goals go_ret
    all_goals exact ⟨rfl, HB.out⟩

theorem bounds_walk (m : ByteArray) (a n : Nat) (w : World) (h1 : (a : Int) < 4294967296) (h2 : (n : Int) < 4294967296) (hm : m.size ≤ 140737488351232) :
    Calls Try.prog 9 #[.string m, .int .u32 a, .int .u32 n] w fun e w' => e = .returned (.bool true) ∧ Below w.heap.size w w' := by
  by_cases c1 : a < m.size <;> by_cases c2 : a + n ≤ m.size <;> by_cases c3 : a % 4 = 0 ∧ a + 4 ≤ m.size
  · exact bounds_111 m a n w h1 h2 hm c1 c2 c3
  · exact bounds_110 m a n w h1 h2 hm c1 c2 c3
  · exact bounds_101 m a n w h1 h2 hm c1 c2 c3
  · exact bounds_100 m a n w h1 h2 hm c1 c2 c3
  · exact bounds_011 m a n w h1 h2 hm c1 c2 c3
  · exact bounds_010 m a n w h1 h2 hm c1 c2 c3
  · exact bounds_001 m a n w h1 h2 hm c1 c2 c3
  · exact bounds_000 m a n w h1 h2 hm c1 c2 c3
end Go.Proofs.Ytoagodlengljgaa
