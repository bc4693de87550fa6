/- Pipes held against each other; which are right; the document's example. -/
import Derived.Test.YtlhjlomfpgmdmaaPipA
namespace Go.Proofs.Ytlhjlomfpgmdmaa
open Go.RowKit
set_option linter.unusedVariables false

def pipEq (d : ByteArray) (r x : Int) (d' : ByteArray) (r' x' : Int) : Bool := d.toList == d'.toList && (r == r' && x == x')
theorem pipEq_self (d : ByteArray) (r x : Int) : pipEq d r x d r x = true := by simp [pipEq]

set_option maxRecDepth 100000 in
theorem equal_pip (d : ByteArray) (r x : Int) (d' : ByteArray) (r' x' : Int) (w : World) :
    (Op.equalIn 10000 23 (pipV d r x) (pipV d' r' x')).run Try.prog w = .ok (pipEq d r x d' r' x') w := by
  have hf : (Try.prog.fieldsOf 23).toList = [⟨"Data", 9, 0, false, "", "", 0⟩, ⟨"Readers", 3, 1, false, "", "", 16⟩, ⟨"Writers", 3, 2, false, "", "", 24⟩] := by kernel_rfl
  simp only [pipV]
  rw [run_equalIn_agg (P := Try.prog) w 9999 23 _ _ (by kernel_rfl) (by kernel_rfl), hf]
  have h3 : ∀ (x y : Int) (w : World), (Op.equalIn 9999 3 (.int .i64 x) (.int .i64 y)).run Try.prog w = .ok (x == y) w := fun x y w => run_equalIn_int w 9998 3 .i64 .i64 x y Try.underlying3
  have h4 : ∀ (x y : ByteArray) (w : World), (Op.equalIn 9999 9 (.string x) (.string y)).run Try.prog w = .ok (x.toList == y.toList) w := fun x y w => run_equalIn_string w 9998 9 x y Try.underlying9
  generalize 9999 = dd at h3 h4 ⊢
  simp [Op.eqFields, go_sem, h3, h4, pipEq]
  by_cases e1 : d.toList = d'.toList <;> simp [e1]
  by_cases e2 : r = r' <;> simp [e2]
  by_cases e3 : x = x' <;> simp [e3]
theorem eql_pip (d : ByteArray) (r x : Int) (d' : ByteArray) (r' x' : Int) (w : World) : (binOp .eql 23 (pipV d r x) (pipV d' r' x')).run Try.prog w = .ok (.bool (pipEq d r x d' r' x')) w := by
  simp only [pipV]
  rw [run_eql_struct, equal_pip]; rfl
theorem neq_pip (d : ByteArray) (r x : Int) (d' : ByteArray) (r' x' : Int) (w : World) : (binOp .neq 23 (pipV d r x) (pipV d' r' x')).run Try.prog w = .ok (.bool (!pipEq d r x d' r' x')) w := by
  simp only [pipV]
  rw [run_neq_struct, equal_pip]; rfl

def rightB (d : ByteArray) (r x : Int) : Bool := decide (d.size ≤ 8 ∧ 0 ≤ r ∧ 0 ≤ x)
set_option maxHeartbeats 400000 in
theorem right_any (d : ByteArray) (r x : Int) (w : World) (hm : d.size ≤ 9223372036854775807) :
    Calls Try.prog 16 #[pipV d r x] w fun e w' => e = .returned (.bool (rightB d r x)) ∧ Below w.heap.size w w' := by
  have hm' : (d.size : Int) ≤ 9223372036854775807 := by omega
  go_enter Try.func16, Try.ntmps16
  go_wp2
  all_goals go_ret
  all_goals refine ⟨ret_bool ?_, (Below.refl _ _).alloc (Nat.le_refl _) _⟩
  all_goals (rw [Bool.eq_iff_iff]; simp [rightB]; omega)

abbrev exA : ByteArray := ⟨#[48, 49, 50, 51, 52, 53, 54, 55, 56, 57]⟩
abbrev exB : ByteArray := ⟨#[48, 49, 50, 51, 52, 53, 54, 55]⟩
abbrev exC : ByteArray := ⟨#[51, 52, 53, 54, 55]⟩
theorem ex1 (w : World) : Calls Try.prog 12 #[pipV ⟨#[]⟩ 1 1, .string exA] w fun e w' => e = .returned (.tuple #[pipV exB 1 1, .int .i64 8, .int .i64 0]) ∧ Below w.heap.size w w' := by
  have h := write_any ⟨#[]⟩ exA 1 1 w
  rw [show wD ⟨#[]⟩ exA 1 = exB by decide +kernel, show wK ⟨#[]⟩ exA 1 = 8 by decide +kernel, show wE ⟨#[]⟩ exA 1 = 0 by decide +kernel] at h
  exact h
theorem ex2 (w : World) : Calls Try.prog 14 #[pipV exB 1 1, .int .i64 3] w fun e w' => e = .returned (.tuple #[pipV exC 1 1, .string ⟨#[48, 49, 50]⟩, .int .i64 0]) ∧ Below w.heap.size w w' := by
  have h := read_any exB 1 1 3 w (by decide +kernel)
  rw [show rD exB 3 = exC by decide +kernel, show rS exB 3 = ⟨#[48, 49, 50]⟩ by decide +kernel, show rE exB 1 3 = 0 by decide +kernel] at h
  exact h
theorem ex3 (w : World) : Calls Try.prog 12 #[pipV exC 1 1, .string ⟨#[97, 98, 99, 100]⟩] w fun e w' => e = .returned (.tuple #[pipV ⟨#[51, 52, 53, 54, 55, 97, 98, 99]⟩ 1 1, .int .i64 3, .int .i64 0]) ∧ Below w.heap.size w w' := by
  have h := write_any exC ⟨#[97, 98, 99, 100]⟩ 1 1 w
  rw [show wD exC ⟨#[97, 98, 99, 100]⟩ 1 = ⟨#[51, 52, 53, 54, 55, 97, 98, 99]⟩ by decide +kernel, show wK exC ⟨#[97, 98, 99, 100]⟩ 1 = 3 by decide +kernel, show wE exC ⟨#[97, 98, 99, 100]⟩ 1 = 0 by decide +kernel] at h
  exact h

set_option maxHeartbeats 1000000 in
theorem shown_any (w : World) : Calls Try.prog 11 #[] w fun e w' => e = .returned (.bool true) ∧ Below w.heap.size w w' := by
  go_enter Try.func11, Try.ntmps11
  go_wp2_with fail
  refine (ex1 _).mono ?_
  rintro e w1 ⟨rfl, hb1⟩
  obtain ⟨hc1, hf1⟩ := bcell hb1
  have s1 := hb1.size
  try simp at s1
  try have hd1 := fun b o (h : b < w.heap.size) => hc1 b o (by first | omega | (simp; omega) | simp)
  try have he1 := fun b o (h : b < w.heap.size) => hf1 b o (by first | omega | (simp; omega) | simp)
  try have z1_0 : w.heap.size < w1.heap.size := by omega
  try have z1_1 : w.heap.size + 1 < w1.heap.size := by omega
  try have z1_2 : w.heap.size + 1 + 1 < w1.heap.size := by omega
  try have z1_3 : w.heap.size + 1 + 1 + 1 < w1.heap.size := by omega
  go_wp2_with fail
  refine (ex2 _).mono ?_
  rintro e w2 ⟨rfl, hb2⟩
  obtain ⟨hc2, hf2⟩ := bcell hb2
  have s2 := hb2.size
  try simp at s2
  try have hd2 := fun b o (h : b < w1.heap.size) => hc2 b o (by first | omega | (simp; omega) | simp)
  try have he2 := fun b o (h : b < w1.heap.size) => hf2 b o (by first | omega | (simp; omega) | simp)
  try have z2_0 : w.heap.size < w2.heap.size := by omega
  try have z2_1 : w.heap.size + 1 < w2.heap.size := by omega
  try have z2_2 : w.heap.size + 1 + 1 < w2.heap.size := by omega
  try have z2_3 : w.heap.size + 1 + 1 + 1 < w2.heap.size := by omega
  try have z2_4 : w1.heap.size < w2.heap.size := by omega
  try have z2_5 : w1.heap.size + 1 < w2.heap.size := by omega
  go_wp2_with fail
  refine (ex3 _).mono ?_
  rintro e w3 ⟨rfl, hb3⟩
  obtain ⟨hc3, hf3⟩ := bcell hb3
  have s3 := hb3.size
  try simp at s3
  try have hd3 := fun b o (h : b < w2.heap.size) => hc3 b o (by first | omega | (simp; omega) | simp)
  try have he3 := fun b o (h : b < w2.heap.size) => hf3 b o (by first | omega | (simp; omega) | simp)
  try have z3_0 : w.heap.size < w3.heap.size := by omega
  try have z3_1 : w.heap.size + 1 < w3.heap.size := by omega
  try have z3_2 : w.heap.size + 1 + 1 < w3.heap.size := by omega
  try have z3_3 : w.heap.size + 1 + 1 + 1 < w3.heap.size := by omega
  try have z3_4 : w1.heap.size < w3.heap.size := by omega
  try have z3_5 : w2.heap.size < w3.heap.size := by omega
  try have z3_6 : w1.heap.size + 1 < w3.heap.size := by omega
  try have z3_7 : w2.heap.size + 1 < w3.heap.size := by omega
  go_wp2
  go_ret
  refine ⟨rfl, ?_⟩
  repeat (first
    | exact Below.refl _ _
    | exact hb1
    | exact hb2
    | exact hb3
    | refine Below.drew ?_
    | refine below_drewN ?_ _
    | refine below_drewN ?_ _
    | refine Below.alloc ?_ (by first | omega | (simp; omega) | simp) _
    | refine Below.setCell ?_ (by first | omega | (simp; omega) | simp) _
    | refine Below.trans ?_ (hb3.mono (by first | omega | (simp; omega) | simp))
    | refine Below.trans ?_ (hb2.mono (by first | omega | (simp; omega) | simp))
    | refine Below.trans ?_ (hb1.mono (by first | omega | (simp; omega) | simp)))

/-- PipeEnds: the law's struct. -/
abbrev endsV (d : ByteArray) (n : Int) (s : ByteArray) (r x : Int) : Value := .agg #[.string d, .int .i64 n, .string s, .int .i64 r, .int .i64 x]
set_option maxHeartbeats 1000000 in
theorem ends_walk (d : ByteArray) (n : Int) (s : ByteArray) (r x : Int) (w : World) (hd : d.size ≤ 9223372036854775807) (hs : s.size ≤ 9223372036854775807) :
    Calls Try.prog 7 #[endsV d n s r x] w fun e w' => e = .returned (.bool true) ∧ Below w.heap.size w w' := by
  by_cases c1 : n < 1
  · have tok : True := trivial
    go_enter Try.func7, Try.ntmps7
    go_wp2_with fail
    refine (shown_any _).mono ?_
    rintro e w1 ⟨rfl, hb1⟩
    obtain ⟨hc1, hf1⟩ := bcell hb1
    have s1 := hb1.size
    try simp at s1
    try have hd1 := fun b o (h : b < w.heap.size) => hc1 b o (by first | omega | (simp; omega) | simp)
    try have he1 := fun b o (h : b < w.heap.size) => hf1 b o (by first | omega | (simp; omega) | simp)
    try have z1_0 : w.heap.size < w1.heap.size := by omega
    try have z1_1 : w.heap.size + 1 < w1.heap.size := by omega
    try have z1_2 : w.heap.size + 1 + 1 < w1.heap.size := by omega
    try have z1_3 : w.heap.size + 1 + 1 + 1 < w1.heap.size := by omega
    go_wp2
    go_ret
    refine ⟨rfl, ?_⟩
    repeat (first
      | exact Below.refl _ _
      | exact hb1
      | refine Below.drew ?_
      | refine below_drewN ?_ _
      | refine below_drewN ?_ _
      | refine Below.alloc ?_ (by first | omega | (simp; omega) | simp) _
      | refine Below.setCell ?_ (by first | omega | (simp; omega) | simp) _
      | refine Below.trans ?_ (hb1.mono (by first | omega | (simp; omega) | simp)))
  by_cases c2 : (s.size : Int) == 0
  · have h1 : 1 ≤ n := by omega
    go_enter Try.func7, Try.ntmps7
    go_wp2_with fail
    refine (shown_any _).mono ?_
    rintro e w1 ⟨rfl, hb1⟩
    obtain ⟨hc1, hf1⟩ := bcell hb1
    have s1 := hb1.size
    try simp at s1
    try have hd1 := fun b o (h : b < w.heap.size) => hc1 b o (by first | omega | (simp; omega) | simp)
    try have he1 := fun b o (h : b < w.heap.size) => hf1 b o (by first | omega | (simp; omega) | simp)
    try have z1_0 : w.heap.size < w1.heap.size := by omega
    try have z1_1 : w.heap.size + 1 < w1.heap.size := by omega
    try have z1_2 : w.heap.size + 1 + 1 < w1.heap.size := by omega
    try have z1_3 : w.heap.size + 1 + 1 + 1 < w1.heap.size := by omega
    go_wp2
    go_ret
    refine ⟨rfl, ?_⟩
    repeat (first
      | exact Below.refl _ _
      | exact hb1
      | refine Below.drew ?_
      | refine below_drewN ?_ _
      | refine below_drewN ?_ _
      | refine Below.alloc ?_ (by first | omega | (simp; omega) | simp) _
      | refine Below.setCell ?_ (by first | omega | (simp; omega) | simp) _
      | refine Below.trans ?_ (hb1.mono (by first | omega | (simp; omega) | simp)))
  by_cases c3 : 0 < r
  · have h1 : 1 ≤ n := by omega
    have h2 : ((s.size : Int) == 0) = false := by simpa using c2
    go_enter Try.func7, Try.ntmps7
    go_wp2_with fail
    refine (shown_any _).mono ?_
    rintro e w1 ⟨rfl, hb1⟩
    obtain ⟨hc1, hf1⟩ := bcell hb1
    have s1 := hb1.size
    try simp at s1
    try have hd1 := fun b o (h : b < w.heap.size) => hc1 b o (by first | omega | (simp; omega) | simp)
    try have he1 := fun b o (h : b < w.heap.size) => hf1 b o (by first | omega | (simp; omega) | simp)
    try have z1_0 : w.heap.size < w1.heap.size := by omega
    try have z1_1 : w.heap.size + 1 < w1.heap.size := by omega
    try have z1_2 : w.heap.size + 1 + 1 < w1.heap.size := by omega
    try have z1_3 : w.heap.size + 1 + 1 + 1 < w1.heap.size := by omega
    go_wp2
    go_ret
    refine ⟨rfl, ?_⟩
    repeat (first
      | exact Below.refl _ _
      | exact hb1
      | refine Below.drew ?_
      | refine below_drewN ?_ _
      | refine below_drewN ?_ _
      | refine Below.alloc ?_ (by first | omega | (simp; omega) | simp) _
      | refine Below.setCell ?_ (by first | omega | (simp; omega) | simp) _
      | refine Below.trans ?_ (hb1.mono (by first | omega | (simp; omega) | simp)))
  by_cases c4 : 0 < x
  · have h1 : 1 ≤ n := by omega
    have h2 : ((s.size : Int) == 0) = false := by simpa using c2
    have h3 : r ≤ 0 := by omega
    go_enter Try.func7, Try.ntmps7
    go_wp2_with fail
    refine (shown_any _).mono ?_
    rintro e w1 ⟨rfl, hb1⟩
    obtain ⟨hc1, hf1⟩ := bcell hb1
    have s1 := hb1.size
    try simp at s1
    try have hd1 := fun b o (h : b < w.heap.size) => hc1 b o (by first | omega | (simp; omega) | simp)
    try have he1 := fun b o (h : b < w.heap.size) => hf1 b o (by first | omega | (simp; omega) | simp)
    try have z1_0 : w.heap.size < w1.heap.size := by omega
    try have z1_1 : w.heap.size + 1 < w1.heap.size := by omega
    try have z1_2 : w.heap.size + 1 + 1 < w1.heap.size := by omega
    try have z1_3 : w.heap.size + 1 + 1 + 1 < w1.heap.size := by omega
    go_wp2
    go_ret
    refine ⟨rfl, ?_⟩
    repeat (first
      | exact Below.refl _ _
      | exact hb1
      | refine Below.drew ?_
      | refine below_drewN ?_ _
      | refine below_drewN ?_ _
      | refine Below.alloc ?_ (by first | omega | (simp; omega) | simp) _
      | refine Below.setCell ?_ (by first | omega | (simp; omega) | simp) _
      | refine Below.trans ?_ (hb1.mono (by first | omega | (simp; omega) | simp)))
  · have h1 : 1 ≤ n := by omega
    have h2 : 0 < s.size := by simp at c2; rcases Nat.eq_zero_or_pos s.size with e | e; exact absurd (ba_nil e) c2; exact e
    have h3 : r ≤ 0 := by omega
    have h4 : x ≤ 0 := by omega
    have h5 : ((s.size : Int) == 0) = false := by simpa using c2
    have e1 : rS ⟨#[]⟩ n = ⟨#[]⟩ := by unfold rS; rw [ba_cut]; simp
    have e2 : rD ⟨#[]⟩ n = ⟨#[]⟩ := by unfold rD; rw [ba_cut]; simp
    have e3 : rE ⟨#[]⟩ x n = 0 := by unfold rE; rw [if_neg (by omega), if_neg (by omega), if_neg (by omega)]
    have H1 := Lib.hid (fun W => e1 ▸ e2 ▸ e3 ▸ read_any ⟨#[]⟩ 1 x n W (by decide +kernel))
    have H2 := Lib.hid (fun W => write_end d s r 1 W h2 h3)
    clear e1 e2 e3
    go_enter Try.func7, Try.ntmps7
    go_wp2_with fail
    refine (shown_any _).mono ?_
    rintro e w1 ⟨rfl, hb1⟩
    obtain ⟨hc1, hf1⟩ := bcell hb1
    have s1 := hb1.size
    try simp at s1
    try have hd1 := fun b o (h : b < w.heap.size) => hc1 b o (by first | omega | (simp; omega) | simp)
    try have he1 := fun b o (h : b < w.heap.size) => hf1 b o (by first | omega | (simp; omega) | simp)
    try have z1_0 : w.heap.size < w1.heap.size := by omega
    try have z1_1 : w.heap.size + 1 < w1.heap.size := by omega
    try have z1_2 : w.heap.size + 1 + 1 < w1.heap.size := by omega
    try have z1_3 : w.heap.size + 1 + 1 + 1 < w1.heap.size := by omega
    go_wp2_with fail
    refine (H1.out _).mono ?_
    rintro e w2 ⟨rfl, hb2⟩
    obtain ⟨hc2, hf2⟩ := bcell hb2
    have s2 := hb2.size
    try simp at s2
    try have hd2 := fun b o (h : b < w1.heap.size) => hc2 b o (by first | omega | (simp; omega) | simp)
    try have he2 := fun b o (h : b < w1.heap.size) => hf2 b o (by first | omega | (simp; omega) | simp)
    try have z2_0 : w.heap.size < w2.heap.size := by omega
    try have z2_1 : w.heap.size + 1 < w2.heap.size := by omega
    try have z2_2 : w.heap.size + 1 + 1 < w2.heap.size := by omega
    try have z2_3 : w.heap.size + 1 + 1 + 1 < w2.heap.size := by omega
    try have z2_4 : w1.heap.size < w2.heap.size := by omega
    try have z2_5 : w1.heap.size + 1 < w2.heap.size := by omega
    go_wp2_with fail
    refine (H2.out _).mono ?_
    rintro e w3 ⟨rfl, hb3⟩
    obtain ⟨hc3, hf3⟩ := bcell hb3
    have s3 := hb3.size
    try simp at s3
    try have hd3 := fun b o (h : b < w2.heap.size) => hc3 b o (by first | omega | (simp; omega) | simp)
    try have he3 := fun b o (h : b < w2.heap.size) => hf3 b o (by first | omega | (simp; omega) | simp)
    try have z3_0 : w.heap.size < w3.heap.size := by omega
    try have z3_1 : w.heap.size + 1 < w3.heap.size := by omega
    try have z3_2 : w.heap.size + 1 + 1 < w3.heap.size := by omega
    try have z3_3 : w.heap.size + 1 + 1 + 1 < w3.heap.size := by omega
    try have z3_4 : w1.heap.size < w3.heap.size := by omega
    try have z3_5 : w2.heap.size < w3.heap.size := by omega
    try have z3_6 : w1.heap.size + 1 < w3.heap.size := by omega
    try have z3_7 : w2.heap.size + 1 < w3.heap.size := by omega
    go_wp2
    go_ret
    refine ⟨rfl, ?_⟩
    repeat (first
      | exact Below.refl _ _
      | exact hb1
      | exact hb2
      | exact hb3
      | refine Below.drew ?_
      | refine below_drewN ?_ _
      | refine below_drewN ?_ _
      | refine Below.alloc ?_ (by first | omega | (simp; omega) | simp) _
      | refine Below.setCell ?_ (by first | omega | (simp; omega) | simp) _
      | refine Below.trans ?_ (hb3.mono (by first | omega | (simp; omega) | simp))
      | refine Below.trans ?_ (hb2.mono (by first | omega | (simp; omega) | simp))
      | refine Below.trans ?_ (hb1.mono (by first | omega | (simp; omega) | simp)))
end Go.Proofs.Ytlhjlomfpgmdmaa
