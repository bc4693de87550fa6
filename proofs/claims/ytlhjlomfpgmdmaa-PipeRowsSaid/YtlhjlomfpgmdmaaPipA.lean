/- Pipes as values; what is written into one, and read from it. -/
import Derived.Test.YtlhjlomfpgmdmaaBase
import Derived.Lib.Strings
namespace Go.Proofs.Ytlhjlomfpgmdmaa
open Go.RowKit
set_option linter.unusedVariables false

abbrev pipV (d : ByteArray) (r x : Int) : Value := .agg #[.string d, .int .i64 r, .int .i64 x]

theorem ba_empty : ByteArray.empty = ⟨#[]⟩ := rfl
theorem isEmpty_yes {s : ByteArray} (h : s.size = 0) : s.toList.isEmpty = true := by
  rw [ByteArray.toList_eq, List.isEmpty_iff, ← List.length_eq_zero_iff, ← Lib.size_eq]; exact h
theorem isEmpty_no {s : ByteArray} (h : 0 < s.size) : s.toList.isEmpty = false := by
  rw [ByteArray.toList_eq, List.isEmpty_eq_false_iff, ← List.length_pos_iff, ← Lib.size_eq]; exact h

set_option maxHeartbeats 400000 in
theorem write_empty (d s : ByteArray) (r x : Int) (w : World) (h : s.size = 0) :
    Calls Try.prog 12 #[pipV d r x, .string s] w fun e w' => e = .returned (.tuple #[pipV d r x, .int .i64 0, .int .i64 0]) ∧ Below w.heap.size w w' := by
  have he := isEmpty_yes h
  go_enter Try.func12, Try.ntmps12
  go_wp2
  refine bodyPost_ret (v := .tuple #[pipV d r x, .int .i64 0, .int .i64 0]) (by simp [results, Try.results12, go_sem]) rfl ⟨rfl, ?_⟩
  exact ((Below.refl _ _).alloc (Nat.le_refl _) _).alloc (by simp) _
set_option maxHeartbeats 400000 in
theorem write_end (d s : ByteArray) (r x : Int) (w : World) (h : 0 < s.size) (hr : r ≤ 0) :
    Calls Try.prog 12 #[pipV d r x, .string s] w fun e w' => e = .returned (.tuple #[pipV d r x, .int .i64 0, .int .i64 14]) ∧ Below w.heap.size w w' := by
  have he := isEmpty_no h
  go_enter Try.func12, Try.ntmps12
  go_wp2
  refine bodyPost_ret (v := .tuple #[pipV d r x, .int .i64 0, .int .i64 14]) (by simp [results, Try.results12, go_sem]) rfl ⟨rfl, ?_⟩
  exact ((Below.refl _ _).alloc (Nat.le_refl _) _).alloc (by simp) _
set_option maxHeartbeats 400000 in
theorem write_again (d s : ByteArray) (r x : Int) (w : World) (h : 0 < s.size) (hr : 0 < r) (hd : 8 ≤ d.size) :
    Calls Try.prog 12 #[pipV d r x, .string s] w fun e w' => e = .returned (.tuple #[pipV d r x, .int .i64 0, .int .i64 6]) ∧ Below w.heap.size w w' := by
  have he := isEmpty_no h
  have hd' : (8 : Int) ≤ (d.size : Int) := by omega
  go_enter Try.func12, Try.ntmps12
  go_wp2
  refine bodyPost_ret (v := .tuple #[pipV d r x, .int .i64 0, .int .i64 6]) (by simp [results, Try.results12, go_sem]) rfl ⟨rfl, ?_⟩
  exact ((Below.refl _ _).alloc (Nat.le_refl _) _).alloc (by simp) _
set_option maxHeartbeats 400000 in
theorem write_all (d s : ByteArray) (r x : Int) (w : World) (h : 0 < s.size) (hr : 0 < r) (hd : d.size < 8) (hs : s.size ≤ 8 - d.size) :
    Calls Try.prog 12 #[pipV d r x, .string s] w fun e w' => e = .returned (.tuple #[pipV (d ++ s) r x, .int .i64 s.size, .int .i64 0]) ∧ Below w.heap.size w w' := by
  have he := isEmpty_no h
  have hd' : (d.size : Int) < 8 := by omega
  have hs' : (s.size : Int) ≤ 8 - (d.size : Int) := by omega
  have hx : s.extract 0 s.size = s := ByteArray.extract_zero_size
  have ha := fun W => run_string_add_sum (P := Try.prog) W d s (by omega)
  go_enter Try.func12, Try.ntmps12
  go_wp2
  go_region
  all_goals go_wp2
  all_goals refine bodyPost_ret (v := .tuple #[pipV (d ++ s) r x, .int .i64 s.size, .int .i64 0]) (by simp [results, Try.results12, go_sem]) rfl ⟨rfl, ?_⟩
  all_goals exact ((((Below.refl _ _).alloc (Nat.le_refl _) _).alloc (by simp) _).drew)
set_option maxHeartbeats 400000 in
theorem write_part (d s : ByteArray) (r x : Int) (w : World) (h : 0 < s.size) (hr : 0 < r) (hd : d.size < 8) (hs : 8 - d.size < s.size) :
    Calls Try.prog 12 #[pipV d r x, .string s] w fun e w' => e = .returned (.tuple #[pipV (d ++ s.extract 0 (8 - d.size)) r x, .int .i64 (8 - d.size), .int .i64 0]) ∧ Below w.heap.size w w' := by
  have he := isEmpty_no h
  have hd' : (d.size : Int) < 8 := by omega
  have hs' : 8 - (d.size : Int) < (s.size : Int) := by omega
  go_enter Try.func12, Try.ntmps12
  go_wp2
  go_region
  all_goals go_wp2
  all_goals refine bodyPost_ret (v := .tuple #[pipV (d ++ s.extract 0 (8 - d.size)) r x, .int .i64 (8 - d.size), .int .i64 0]) (by simp [results, Try.results12, go_sem]) rfl ⟨rfl, ?_⟩
  all_goals exact ((((Below.refl _ _).alloc (Nat.le_refl _) _).alloc (by simp) _).drew)


set_option maxHeartbeats 400000 in
theorem read_neg (d : ByteArray) (r x : Int) (n : Int) (w : World) (h : n < 0) :
    Calls Try.prog 14 #[pipV d r x, .int .i64 n] w fun e w' => e = .returned (.tuple #[pipV d r x, .string ⟨#[]⟩, .int .i64 1]) ∧ Below w.heap.size w w' := by
  go_enter Try.func14, Try.ntmps14
  go_wp2
  refine bodyPost_ret (v := .tuple #[pipV d r x, .string ⟨#[]⟩, .int .i64 1]) (by simp [results, Try.results14, go_sem]) rfl ⟨rfl, ?_⟩
  exact ((Below.refl _ _).alloc (Nat.le_refl _) _).alloc (by simp) _

set_option maxHeartbeats 400000 in
theorem read_zero (d : ByteArray) (r x : Int) (w : World) :
    Calls Try.prog 14 #[pipV d r x, .int .i64 0] w fun e w' => e = .returned (.tuple #[pipV d r x, .string ⟨#[]⟩, .int .i64 0]) ∧ Below w.heap.size w w' := by
  go_enter Try.func14, Try.ntmps14
  go_wp2
  refine bodyPost_ret (v := .tuple #[pipV d r x, .string ⟨#[]⟩, .int .i64 0]) (by simp [results, Try.results14, go_sem]) rfl ⟨rfl, ?_⟩
  exact ((Below.refl _ _).alloc (Nat.le_refl _) _).alloc (by simp) _

set_option maxHeartbeats 400000 in
theorem read_again (d : ByteArray) (r x : Int) (n : Int) (w : World) (h : 0 < n) (hd : d.size = 0) (hx : 0 < x) :
    Calls Try.prog 14 #[pipV d r x, .int .i64 n] w fun e w' => e = .returned (.tuple #[pipV d r x, .string ⟨#[]⟩, .int .i64 6]) ∧ Below w.heap.size w w' := by
  have he := isEmpty_yes hd
  have hn : ¬ n < 0 := by omega
  have hz : (n == 0) = false := by simp; omega
  go_enter Try.func14, Try.ntmps14
  go_wp2
  refine bodyPost_ret (v := .tuple #[pipV d r x, .string ⟨#[]⟩, .int .i64 6]) (by simp [results, Try.results14, go_sem]) rfl ⟨rfl, ?_⟩
  exact ((Below.refl _ _).alloc (Nat.le_refl _) _).alloc (by simp) _

set_option maxHeartbeats 400000 in
theorem read_end (d : ByteArray) (r x : Int) (n : Int) (w : World) (h : 0 < n) (hd : d.size = 0) (hx : x ≤ 0) :
    Calls Try.prog 14 #[pipV d r x, .int .i64 n] w fun e w' => e = .returned (.tuple #[pipV d r x, .string ⟨#[]⟩, .int .i64 0]) ∧ Below w.heap.size w w' := by
  have he := isEmpty_yes hd
  have hn : ¬ n < 0 := by omega
  have hz : (n == 0) = false := by simp; omega
  go_enter Try.func14, Try.ntmps14
  go_wp2
  refine bodyPost_ret (v := .tuple #[pipV d r x, .string ⟨#[]⟩, .int .i64 0]) (by simp [results, Try.results14, go_sem]) rfl ⟨rfl, ?_⟩
  exact ((Below.refl _ _).alloc (Nat.le_refl _) _).alloc (by simp) _

set_option maxHeartbeats 400000 in
theorem read_part (d : ByteArray) (r x : Int) (n : Nat) (w : World) (h : 0 < n) (hd : n ≤ d.size) (hm : d.size ≤ 9223372036854775807) :
    Calls Try.prog 14 #[pipV d r x, .int .i64 n] w fun e w' => e = .returned (.tuple #[pipV (d.extract n d.size) r x, .string (d.extract 0 n), .int .i64 0]) ∧ Below w.heap.size w w' := by
  have he := isEmpty_no (s := d) (by omega)
  have hn : ¬ (n : Int) < 0 := by omega
  have hz : ((n : Int) == 0) = false := by simp; omega
  have hdn : (n : Int) ≤ (d.size : Int) := by omega
  go_enter Try.func14, Try.ntmps14
  go_wp2
  refine bodyPost_ret (v := .tuple #[pipV (d.extract n d.size) r x, .string (d.extract 0 n), .int .i64 0]) (by simp [results, Try.results14, go_sem]) rfl ⟨rfl, ?_⟩
  exact ((Below.refl _ _).alloc (Nat.le_refl _) _).alloc (by simp) _

set_option maxHeartbeats 400000 in
theorem read_all (d : ByteArray) (r x : Int) (n : Int) (w : World) (h : (d.size : Int) < n) (hd : 0 < d.size) (hm : d.size ≤ 9223372036854775807) :
    Calls Try.prog 14 #[pipV d r x, .int .i64 n] w fun e w' => e = .returned (.tuple #[pipV ⟨#[]⟩ r x, .string d, .int .i64 0]) ∧ Below w.heap.size w w' := by
  have he := isEmpty_no hd
  have hn : ¬ n < 0 := by omega
  have hz : (n == 0) = false := by simp; omega
  have h1 : d.extract 0 d.size = d := ByteArray.extract_zero_size
  have h2 : d.extract d.size d.size = ⟨#[]⟩ := by simp [ba_empty]
  go_enter Try.func14, Try.ntmps14
  go_wp2
  refine bodyPost_ret (v := .tuple #[pipV ⟨#[]⟩ r x, .string d, .int .i64 0]) (by simp [results, ba_empty, Try.results14, go_sem]) rfl ⟨rfl, ?_⟩
  exact ((Below.refl _ _).alloc (Nat.le_refl _) _).alloc (by simp) _

/-- What is in the pipe behind a Write, how much was written, what is answered; likewise of a Read. -/
def wD (d s : ByteArray) (r : Int) : ByteArray := if s.size = 0 ∨ r ≤ 0 ∨ 8 ≤ d.size then d else d ++ s.extract 0 (min s.size (8 - d.size))
def wK (d s : ByteArray) (r : Int) : Nat := if s.size = 0 ∨ r ≤ 0 ∨ 8 ≤ d.size then 0 else min s.size (8 - d.size)
def wE (d s : ByteArray) (r : Int) : Int := if s.size = 0 then 0 else if r ≤ 0 then 14 else if 8 ≤ d.size then 6 else 0
def rD (d : ByteArray) (n : Int) : ByteArray := if n ≤ 0 then d else d.extract (min n.toNat d.size) d.size
def rS (d : ByteArray) (n : Int) : ByteArray := if n ≤ 0 then ⟨#[]⟩ else d.extract 0 (min n.toNat d.size)
def rE (d : ByteArray) (x n : Int) : Int := if n < 0 then 1 else if n = 0 then 0 else if d.size = 0 ∧ 0 < x then 6 else 0

theorem ba_nil {d : ByteArray} (h : d.size = 0) : d = ⟨#[]⟩ := by
  apply ByteArray.ext
  exact Array.eq_empty_of_size_eq_zero h

theorem ba_cut (a b : Nat) : ByteArray.extract ⟨#[]⟩ a b = ⟨#[]⟩ := by
  apply ba_nil
  rw [ByteArray.size_extract]
  have h : (⟨#[]⟩ : ByteArray).size = 0 := rfl
  omega
theorem write_any (d s : ByteArray) (r x : Int) (w : World) :
    Calls Try.prog 12 #[pipV d r x, .string s] w fun e w' => e = .returned (.tuple #[pipV (wD d s r) r x, .int .i64 (wK d s r), .int .i64 (wE d s r)]) ∧ Below w.heap.size w w' := by
  by_cases h0 : s.size = 0
  · have e1 : wD d s r = d := if_pos (.inl h0)
    have e2 : wK d s r = 0 := if_pos (.inl h0)
    have e3 : wE d s r = 0 := if_pos h0
    rw [e1, e2, e3]
    exact write_empty d s r x w h0
  by_cases h1 : r ≤ 0
  · have e1 : wD d s r = d := if_pos (.inr (.inl h1))
    have e2 : wK d s r = 0 := if_pos (.inr (.inl h1))
    have e3 : wE d s r = 14 := by unfold wE; rw [if_neg h0, if_pos h1]
    rw [e1, e2, e3]
    exact write_end d s r x w (by omega) h1
  by_cases h2 : 8 ≤ d.size
  · have e1 : wD d s r = d := if_pos (.inr (.inr h2))
    have e2 : wK d s r = 0 := if_pos (.inr (.inr h2))
    have e3 : wE d s r = 6 := by unfold wE; rw [if_neg h0, if_neg h1, if_pos h2]
    rw [e1, e2, e3]
    exact write_again d s r x w (by omega) (by omega) h2
  have hn : ¬ (s.size = 0 ∨ r ≤ 0 ∨ 8 ≤ d.size) := by omega
  have e1 : wD d s r = d ++ s.extract 0 (min s.size (8 - d.size)) := if_neg hn
  have e2 : wK d s r = min s.size (8 - d.size) := if_neg hn
  have e3 : wE d s r = 0 := by unfold wE; rw [if_neg h0, if_neg h1, if_neg h2]
  rw [e1, e2, e3]
  by_cases h3 : s.size ≤ 8 - d.size
  · rw [Nat.min_eq_left h3, show s.extract 0 s.size = s from ByteArray.extract_zero_size]
    exact write_all d s r x w (by omega) (by omega) (by omega) h3
  · rw [Nat.min_eq_right (by omega), show ((8 - d.size : Nat) : Int) = 8 - (d.size : Int) by omega]
    exact write_part d s r x w (by omega) (by omega) (by omega) (by omega)

theorem read_any (d : ByteArray) (r x n : Int) (w : World) (hm : d.size ≤ 9223372036854775807) :
    Calls Try.prog 14 #[pipV d r x, .int .i64 n] w fun e w' => e = .returned (.tuple #[pipV (rD d n) r x, .string (rS d n), .int .i64 (rE d x n)]) ∧ Below w.heap.size w w' := by
  by_cases h0 : n < 0
  · have e1 : rD d n = d := if_pos (by omega)
    have e2 : rS d n = ⟨#[]⟩ := if_pos (by omega)
    have e3 : rE d x n = 1 := if_pos h0
    rw [e1, e2, e3]
    exact read_neg d r x n w h0
  by_cases h1 : n = 0
  · subst h1
    exact read_zero d r x w
  have e1 : rD d n = d.extract (min n.toNat d.size) d.size := if_neg (by omega)
  have e2 : rS d n = d.extract 0 (min n.toNat d.size) := if_neg (by omega)
  by_cases h2 : d.size = 0
  · have e4 := ba_nil h2
    subst e4
    rw [e1, e2]
    by_cases h3 : 0 < x
    · have e3 : rE ⟨#[]⟩ x n = 6 := by unfold rE; rw [if_neg h0, if_neg h1, if_pos ⟨h2, h3⟩]
      rw [e3]
      rw [ba_cut, ba_cut]; exact read_again ⟨#[]⟩ r x n w (by omega) h2 h3
    · have e3 : rE ⟨#[]⟩ x n = 0 := by unfold rE; rw [if_neg h0, if_neg h1, if_neg (by omega)]
      rw [e3]
      rw [ba_cut, ba_cut]; exact read_end ⟨#[]⟩ r x n w (by omega) h2 (by omega)
  have e3 : rE d x n = 0 := by unfold rE; rw [if_neg h0, if_neg h1, if_neg (by omega)]
  rw [e1, e2, e3]
  by_cases h3 : n.toNat ≤ d.size
  · obtain ⟨k, rfl⟩ := Int.eq_ofNat_of_zero_le (show 0 ≤ n by omega)
    rw [show ((k : Int)).toNat = k by omega] at h3 ⊢
    rw [Nat.min_eq_left h3]
    exact read_part d r x k w (by omega) h3 hm
  · rw [Nat.min_eq_right (by omega), show d.extract 0 d.size = d from ByteArray.extract_zero_size, show d.extract d.size d.size = ⟨#[]⟩ by simp [ba_empty]]
    exact read_all d r x n w (by omega) (by omega) hm

end Go.Proofs.Ytlhjlomfpgmdmaa
