/- The document's Write and Read. -/
import Derived.Test.YtlhjlomfpgmdmaaPipB
namespace Go.Proofs.Ytlhjlomfpgmdmaa
open Go.RowKit
set_option linter.unusedVariables false

set_option maxHeartbeats 400000 in
theorem rWrite_empty (d s : ByteArray) (r x : Int) (w : World) (h : s.size = 0) :
    Calls Try.prog 13 #[pipV d r x, .string s] w fun e w' => e = .returned (.tuple #[pipV d r x, .int .i64 0, .int .i64 0]) ∧ Below w.heap.size w w' := by
  obtain rfl := ba_nil h
  go_enter Try.func13, Try.ntmps13
  go_wp2
  refine bodyPost_ret (v := .tuple #[pipV d r x, .int .i64 0, .int .i64 0]) (by simp [results, Try.results13, go_sem]) rfl ⟨rfl, ?_⟩
  repeat (first
    | exact Below.refl _ _
    | refine Below.drew ?_
    | refine below_drewN ?_ _
    | refine below_drewN ?_ _
    | refine Below.alloc ?_ (by first | omega | (simp; omega) | simp) _
    | refine Below.setCell ?_ (by first | omega | (simp; omega) | simp) _)
set_option maxHeartbeats 400000 in
theorem rWrite_end (d s : ByteArray) (r x : Int) (w : World) (h : 0 < s.size) (hr : r ≤ 0) :
    Calls Try.prog 13 #[pipV d r x, .string s] w fun e w' => e = .returned (.tuple #[pipV d r x, .int .i64 0, .int .i64 14]) ∧ Below w.heap.size w w' := by
  have he : ((s.size : Int) == 0) = false := by simp; intro e; rw [e] at h; exact absurd h (by decide)
  have hr' : r < 1 := by omega
  go_enter Try.func13, Try.ntmps13
  go_wp2
  refine bodyPost_ret (v := .tuple #[pipV d r x, .int .i64 0, .int .i64 14]) (by simp [results, Try.results13, go_sem]) rfl ⟨rfl, ?_⟩
  repeat (first
    | exact Below.refl _ _
    | refine Below.drew ?_
    | refine below_drewN ?_ _
    | refine below_drewN ?_ _
    | refine Below.alloc ?_ (by first | omega | (simp; omega) | simp) _
    | refine Below.setCell ?_ (by first | omega | (simp; omega) | simp) _)
set_option maxHeartbeats 400000 in
theorem rWrite_again (d s : ByteArray) (r x : Int) (w : World) (h : 0 < s.size) (hr : 0 < r) (hd : 8 ≤ d.size) :
    Calls Try.prog 13 #[pipV d r x, .string s] w fun e w' => e = .returned (.tuple #[pipV d r x, .int .i64 0, .int .i64 6]) ∧ Below w.heap.size w w' := by
  have he : ((s.size : Int) == 0) = false := by simp; intro e; rw [e] at h; exact absurd h (by decide)
  have hr' : 1 ≤ r := by omega
  have hd' : (8 : Int) ≤ (d.size : Int) := by omega
  go_enter Try.func13, Try.ntmps13
  go_wp2
  refine bodyPost_ret (v := .tuple #[pipV d r x, .int .i64 0, .int .i64 6]) (by simp [results, Try.results13, go_sem]) rfl ⟨rfl, ?_⟩
  repeat (first
    | exact Below.refl _ _
    | refine Below.drew ?_
    | refine below_drewN ?_ _
    | refine below_drewN ?_ _
    | refine Below.alloc ?_ (by first | omega | (simp; omega) | simp) _
    | refine Below.setCell ?_ (by first | omega | (simp; omega) | simp) _)

theorem extract_snoc (d s : ByteArray) (k : Nat) (h : k < s.size) : d ++ s.extract 0 k ++ s.extract k (k + 1) = d ++ s.extract 0 (k + 1) := by
  rw [ByteArray.append_assoc]
  congr 1
  rw [ByteArray.extract_append_extract]
  congr 1 <;> omega

set_option maxHeartbeats 1000000 in
theorem rWrite_yes (d s : ByteArray) (r x : Int) (w : World) (h : 0 < s.size) (hr : 0 < r) (hd : d.size < 8) (hs : s.size ≤ 9223372036854775807) :
    Calls Try.prog 13 #[pipV d r x, .string s] w fun e w' => e = .returned (.tuple #[pipV (d ++ s.extract 0 (min s.size (8 - d.size))) r x, .int .i64 (min s.size (8 - d.size) : Nat), .int .i64 0]) ∧ Below w.heap.size w w' := by
  have he : ((s.size : Int) == 0) = false := by simp; intro e; rw [e] at h; exact absurd h (by decide)
  have hr' : 1 ≤ r := by omega
  have hd' : (d.size : Int) < 8 := by omega
  go_enter Try.func13, Try.ntmps13
  go_wp2
  go_loopw [7] (fun i wr => ∃ k m : Nat, i = .int .i64 k ∧ Hid (k ≤ s.size ∧ d.size + k ≤ 8) ∧ wr = ((w.alloc (.cells #[.string (d ++ s.extract 0 k), .int .i64 r, .int .i64 x] 23)).alloc (.cells #[.string ⟨#[]⟩, .int .i64 0, .int .i64 0] 23)).drewN m) (fun i _ => s.size - (intOf i).toNat)
  case atStart => exact ⟨0, 0, rfl, ⟨by omega, by omega⟩, by simp [World.drewN_zero]⟩
  case round =>
    obtain ⟨k, m, rfl, HK, rfl⟩ := hrel
    have hsz : (d ++ s.extract 0 k).size = d.size + k := by rw [ByteArray.size_append, ByteArray.size_extract]; have := HK.out; omega
    generalize hD : d ++ s.extract 0 k = D at *
    by_cases hlt : k < s.size ∧ d.size + k < 8
    · have c1 : (k : Int) < (s.size : Int) := by omega
      have c2 : (D.size : Int) < 8 := by omega
      have c3 : (k : Int) + 1 ≤ (s.size : Int) := by omega
      have ha := fun W => run_string_add_sum (P := Try.prog) W D (s.extract k (k + 1)) (by rw [ByteArray.size_extract]; omega)
      go_wp2_with fail
      go_region
      all_goals go_wp2
      all_goals refine ⟨⟨k + 1, m + 1, by push_cast; rfl, ⟨by omega, by omega⟩, ?_⟩, by simp only [intOf]; omega⟩
      all_goals rw [setCell_drewN, ← extract_snoc d s k (by omega), hD]
      all_goals simp [go_sem]
    · have hm : min s.size (8 - d.size) = k := by have := HK.out; omega
      have HM := Lib.hid hm
      clear hm
      by_cases hk : k < s.size
      · have c1 : (k : Int) < (s.size : Int) := by omega
        have c2 : (8 : Int) ≤ (D.size : Int) := by omega
        go_wp2
        refine bodyPost_ret (v := .tuple #[pipV D r x, .int .i64 k, .int .i64 0]) (by simp [results, Try.results13, go_sem]) rfl ⟨by rw [HM.out, hD], ?_⟩
        repeat (first
          | exact Below.refl _ _
          | refine Below.drew ?_
          | refine below_drewN ?_ _
          | refine below_drewN ?_ _
          | refine Below.alloc ?_ (by first | omega | (simp; omega) | simp) _
          | refine Below.setCell ?_ (by first | omega | (simp; omega) | simp) _)
      · have c1 : (s.size : Int) ≤ (k : Int) := by omega
        go_wp2
        refine bodyPost_ret (v := .tuple #[pipV D r x, .int .i64 k, .int .i64 0]) (by simp [results, Try.results13, go_sem]) rfl ⟨by rw [HM.out, hD], ?_⟩
        repeat (first
          | exact Below.refl _ _
          | refine Below.drew ?_
          | refine below_drewN ?_ _
          | refine below_drewN ?_ _
          | refine Below.alloc ?_ (by first | omega | (simp; omega) | simp) _
          | refine Below.setCell ?_ (by first | omega | (simp; omega) | simp) _)

set_option maxHeartbeats 400000 in
theorem rRead_neg (d : ByteArray) (r x : Int) (n : Int) (w : World) (h : n < 0) :
    Calls Try.prog 15 #[pipV d r x, .int .i64 n] w fun e w' => e = .returned (.tuple #[pipV d r x, .string ⟨#[]⟩, .int .i64 1]) ∧ Below w.heap.size w w' := by
  go_enter Try.func15, Try.ntmps15
  go_wp2
  refine bodyPost_ret (v := .tuple #[pipV d r x, .string ⟨#[]⟩, .int .i64 1]) (by simp [results, Try.results15, go_sem]) rfl ⟨rfl, ?_⟩
  repeat (first
    | exact Below.refl _ _
    | refine Below.drew ?_
    | refine below_drewN ?_ _
    | refine below_drewN ?_ _
    | refine Below.alloc ?_ (by first | omega | (simp; omega) | simp) _
    | refine Below.setCell ?_ (by first | omega | (simp; omega) | simp) _)

set_option maxHeartbeats 400000 in
theorem rRead_zero (d : ByteArray) (r x : Int) (w : World) :
    Calls Try.prog 15 #[pipV d r x, .int .i64 0] w fun e w' => e = .returned (.tuple #[pipV d r x, .string ⟨#[]⟩, .int .i64 0]) ∧ Below w.heap.size w w' := by
  go_enter Try.func15, Try.ntmps15
  go_wp2
  refine bodyPost_ret (v := .tuple #[pipV d r x, .string ⟨#[]⟩, .int .i64 0]) (by simp [results, Try.results15, go_sem]) rfl ⟨rfl, ?_⟩
  repeat (first
    | exact Below.refl _ _
    | refine Below.drew ?_
    | refine below_drewN ?_ _
    | refine below_drewN ?_ _
    | refine Below.alloc ?_ (by first | omega | (simp; omega) | simp) _
    | refine Below.setCell ?_ (by first | omega | (simp; omega) | simp) _)

set_option maxHeartbeats 400000 in
theorem rRead_again (d : ByteArray) (r x : Int) (n : Int) (w : World) (h : 0 < n) (hd : d.size = 0) (hx : 0 < x) :
    Calls Try.prog 15 #[pipV d r x, .int .i64 n] w fun e w' => e = .returned (.tuple #[pipV d r x, .string ⟨#[]⟩, .int .i64 6]) ∧ Below w.heap.size w w' := by
  have hds : ((d.size : Int) == 0) = true := by simp; exact ba_nil hd
  have hn : ¬ n < 0 := by omega
  have hz : (n == 0) = false := by simp; omega
  go_enter Try.func15, Try.ntmps15
  go_wp2
  refine bodyPost_ret (v := .tuple #[pipV d r x, .string ⟨#[]⟩, .int .i64 6]) (by simp [results, Try.results15, go_sem]) rfl ⟨rfl, ?_⟩
  repeat (first
    | exact Below.refl _ _
    | refine Below.drew ?_
    | refine below_drewN ?_ _
    | refine below_drewN ?_ _
    | refine Below.alloc ?_ (by first | omega | (simp; omega) | simp) _
    | refine Below.setCell ?_ (by first | omega | (simp; omega) | simp) _)

set_option maxHeartbeats 400000 in
theorem rRead_end (d : ByteArray) (r x : Int) (n : Int) (w : World) (h : 0 < n) (hd : d.size = 0) (hx : x ≤ 0) :
    Calls Try.prog 15 #[pipV d r x, .int .i64 n] w fun e w' => e = .returned (.tuple #[pipV d r x, .string ⟨#[]⟩, .int .i64 0]) ∧ Below w.heap.size w w' := by
  have hds : ((d.size : Int) == 0) = true := by simp; exact ba_nil hd
  have hn : ¬ n < 0 := by omega
  have hz : (n == 0) = false := by simp; omega
  go_enter Try.func15, Try.ntmps15
  go_wp2
  refine bodyPost_ret (v := .tuple #[pipV d r x, .string ⟨#[]⟩, .int .i64 0]) (by simp [results, Try.results15, go_sem]) rfl ⟨rfl, ?_⟩
  repeat (first
    | exact Below.refl _ _
    | refine Below.drew ?_
    | refine below_drewN ?_ _
    | refine below_drewN ?_ _
    | refine Below.alloc ?_ (by first | omega | (simp; omega) | simp) _
    | refine Below.setCell ?_ (by first | omega | (simp; omega) | simp) _)

set_option maxHeartbeats 400000 in
theorem rRead_part (d : ByteArray) (r x : Int) (n : Nat) (w : World) (h : 0 < n) (hd : n ≤ d.size) (hm : d.size ≤ 9223372036854775807) :
    Calls Try.prog 15 #[pipV d r x, .int .i64 n] w fun e w' => e = .returned (.tuple #[pipV (d.extract n d.size) r x, .string (d.extract 0 n), .int .i64 0]) ∧ Below w.heap.size w w' := by
  have hd0 : 0 < d.size := by omega
  have hds : ((d.size : Int) == 0) = false := by simp; intro e; rw [e] at hd0; exact absurd hd0 (by decide)
  have hn : ¬ (n : Int) < 0 := by omega
  have hz : ((n : Int) == 0) = false := by simp; omega
  have hdn : (n : Int) ≤ (d.size : Int) := by omega
  go_enter Try.func15, Try.ntmps15
  go_wp2
  refine bodyPost_ret (v := .tuple #[pipV (d.extract n d.size) r x, .string (d.extract 0 n), .int .i64 0]) (by simp [results, Try.results15, go_sem]) rfl ⟨rfl, ?_⟩
  repeat (first
    | exact Below.refl _ _
    | refine Below.drew ?_
    | refine below_drewN ?_ _
    | refine below_drewN ?_ _
    | refine Below.alloc ?_ (by first | omega | (simp; omega) | simp) _
    | refine Below.setCell ?_ (by first | omega | (simp; omega) | simp) _)

set_option maxHeartbeats 400000 in
theorem rRead_all (d : ByteArray) (r x : Int) (n : Int) (w : World) (h : (d.size : Int) < n) (hd0 : 0 < d.size) (hm : d.size ≤ 9223372036854775807) :
    Calls Try.prog 15 #[pipV d r x, .int .i64 n] w fun e w' => e = .returned (.tuple #[pipV ⟨#[]⟩ r x, .string d, .int .i64 0]) ∧ Below w.heap.size w w' := by
  have hds : ((d.size : Int) == 0) = false := by simp; intro e; rw [e] at hd0; exact absurd hd0 (by decide)
  have hn : ¬ n < 0 := by omega
  have hz : (n == 0) = false := by simp; omega
  have h1 : d.extract 0 d.size = d := ByteArray.extract_zero_size
  have h2 : d.extract d.size d.size = ⟨#[]⟩ := by simp [ba_empty]
  go_enter Try.func15, Try.ntmps15
  go_wp2
  refine bodyPost_ret (v := .tuple #[pipV ⟨#[]⟩ r x, .string d, .int .i64 0]) (by simp [results, Try.results15, go_sem, ba_empty]) rfl ⟨rfl, ?_⟩
  repeat (first
    | exact Below.refl _ _
    | refine Below.drew ?_
    | refine below_drewN ?_ _
    | refine below_drewN ?_ _
    | refine Below.alloc ?_ (by first | omega | (simp; omega) | simp) _
    | refine Below.setCell ?_ (by first | omega | (simp; omega) | simp) _)

theorem rWrite_any (d s : ByteArray) (r x : Int) (w : World) (hs : s.size ≤ 9223372036854775807) :
    Calls Try.prog 13 #[pipV d r x, .string s] w fun e w' => e = .returned (.tuple #[pipV (wD d s r) r x, .int .i64 (wK d s r), .int .i64 (wE d s r)]) ∧ Below w.heap.size w w' := by
  by_cases h0 : s.size = 0
  · have e1 : wD d s r = d := if_pos (.inl h0)
    have e2 : wK d s r = 0 := if_pos (.inl h0)
    have e3 : wE d s r = 0 := if_pos h0
    rw [e1, e2, e3]
    exact rWrite_empty d s r x w h0
  by_cases h1 : r ≤ 0
  · have e1 : wD d s r = d := if_pos (.inr (.inl h1))
    have e2 : wK d s r = 0 := if_pos (.inr (.inl h1))
    have e3 : wE d s r = 14 := by unfold wE; rw [if_neg h0, if_pos h1]
    rw [e1, e2, e3]
    exact rWrite_end d s r x w (by omega) h1
  by_cases h2 : 8 ≤ d.size
  · have e1 : wD d s r = d := if_pos (.inr (.inr h2))
    have e2 : wK d s r = 0 := if_pos (.inr (.inr h2))
    have e3 : wE d s r = 6 := by unfold wE; rw [if_neg h0, if_neg h1, if_pos h2]
    rw [e1, e2, e3]
    exact rWrite_again d s r x w (by omega) (by omega) h2
  have hn : ¬ (s.size = 0 ∨ r ≤ 0 ∨ 8 ≤ d.size) := by omega
  have e1 : wD d s r = d ++ s.extract 0 (min s.size (8 - d.size)) := if_neg hn
  have e2 : wK d s r = min s.size (8 - d.size) := if_neg hn
  have e3 : wE d s r = 0 := by unfold wE; rw [if_neg h0, if_neg h1, if_neg h2]
  rw [e1, e2, e3]
  exact rWrite_yes d s r x w (by omega) (by omega) (by omega) hs

theorem rRead_any (d : ByteArray) (r x n : Int) (w : World) (hm : d.size ≤ 9223372036854775807) :
    Calls Try.prog 15 #[pipV d r x, .int .i64 n] w fun e w' => e = .returned (.tuple #[pipV (rD d n) r x, .string (rS d n), .int .i64 (rE d x n)]) ∧ Below w.heap.size w w' := by
  by_cases h0 : n < 0
  · have e1 : rD d n = d := if_pos (by omega)
    have e2 : rS d n = ⟨#[]⟩ := if_pos (by omega)
    have e3 : rE d x n = 1 := if_pos h0
    rw [e1, e2, e3]
    exact rRead_neg d r x n w h0
  by_cases h1 : n = 0
  · subst h1
    exact rRead_zero d r x w
  have e1 : rD d n = d.extract (min n.toNat d.size) d.size := if_neg (by omega)
  have e2 : rS d n = d.extract 0 (min n.toNat d.size) := if_neg (by omega)
  by_cases h2 : d.size = 0
  · have e4 := ba_nil h2
    subst e4
    rw [e1, e2]
    by_cases h3 : 0 < x
    · have e3 : rE ⟨#[]⟩ x n = 6 := by unfold rE; rw [if_neg h0, if_neg h1, if_pos ⟨h2, h3⟩]
      rw [e3]
      rw [ba_cut, ba_cut]; exact rRead_again ⟨#[]⟩ r x n w (by omega) h2 h3
    · have e3 : rE ⟨#[]⟩ x n = 0 := by unfold rE; rw [if_neg h0, if_neg h1, if_neg (by omega)]
      rw [e3]
      rw [ba_cut, ba_cut]; exact rRead_end ⟨#[]⟩ r x n w (by omega) h2 (by omega)
  have e3 : rE d x n = 0 := by unfold rE; rw [if_neg h0, if_neg h1, if_neg (by omega)]
  rw [e1, e2, e3]
  by_cases h3 : n.toNat ≤ d.size
  · obtain ⟨k, rfl⟩ := Int.eq_ofNat_of_zero_le (show 0 ≤ n by omega)
    rw [show ((k : Int)).toNat = k by omega] at h3 ⊢
    rw [Nat.min_eq_left h3]
    exact rRead_part d r x k w (by omega) h3 hm
  · rw [Nat.min_eq_right (by omega), show d.extract 0 d.size = d from ByteArray.extract_zero_size, show d.extract d.size d.size = ⟨#[]⟩ by simp [ba_empty]]
    exact rRead_all d r x n w (by omega) (by omega) hm

end Go.Proofs.Ytlhjlomfpgmdmaa
