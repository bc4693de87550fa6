/- Ends of pipes that are given a place. -/
import Derived.Test.YtlhjlomfpgmdmaaPipB
import Derived.Handy
import Derived.ChangeKeysEq
namespace Go.Proofs.Ytlhjlomfpgmdmaa
open Go.RowKit
set_option linter.unusedVariables false

abbrev fdsV (p0 : Int) (b0 : Bool) (p1 : Int) (b1 : Bool) (p2 : Int) (b2 : Bool) (p3 : Int) (b3 : Bool) : Value := .agg #[.int .i64 p0, .bool b0, .int .i64 p1, .bool b1, .int .i64 p2, .bool b2, .int .i64 p3, .bool b3]
abbrev endV (p : Int) (b : Bool) : Value := .agg #[.int .i64 p, .bool b]
def endEq (p : Int) (b : Bool) (p' : Int) (b' : Bool) : Bool := p == p' && b == b'
theorem endEq_self (p : Int) (b : Bool) : endEq p b p b = true := by simp [endEq]

set_option maxRecDepth 100000 in
theorem equal_end (d : Nat) (p : Int) (b : Bool) (p' : Int) (b' : Bool) (w : World) :
    (Op.equalIn (d + 2) 38 (endV p b) (endV p' b')).run Try.prog w = .ok (endEq p b p' b') w := by
  have hf : (Try.prog.fieldsOf 38).toList = [⟨"Pipe", 3, 0, false, "", "", 0⟩, ⟨"Writes", 4, 1, false, "", "", 8⟩] := by kernel_rfl
  simp only [endV]
  rw [run_equalIn_agg (P := Try.prog) w (d + 1) 38 _ _ (by kernel_rfl) (by kernel_rfl), hf]
  have h3 : ∀ (x y : Int) (w : World), (Op.equalIn (d + 1) 3 (.int .i64 x) (.int .i64 y)).run Try.prog w = .ok (x == y) w := fun x y w => run_equalIn_int w d 3 .i64 .i64 x y Try.underlying3
  have h4 : ∀ (x y : Bool) (w : World), (Op.equalIn (d + 1) 4 (.bool x) (.bool y)).run Try.prog w = .ok (x == y) w := fun x y w => run_equalIn_bool' w d 4 x y Try.underlying4
  generalize d + 1 = dd at h3 h4 ⊢
  simp [Op.eqFields, go_sem, h3, h4, endEq]
  by_cases e1 : p = p' <;> simp [e1]
  by_cases e2 : b = b' <;> simp [e2]
theorem eql_end (p : Int) (b : Bool) (p' : Int) (b' : Bool) (w : World) : (binOp .eql 38 (endV p b) (endV p' b')).run Try.prog w = .ok (.bool (endEq p b p' b')) w := by
  have h := equal_end 9998 p b p' b' w
  simp only [endV] at h ⊢
  rw [run_eql_struct, h]; rfl
theorem neq_end (p : Int) (b : Bool) (p' : Int) (b' : Bool) (w : World) : (binOp .neq 38 (endV p b) (endV p' b')).run Try.prog w = .ok (.bool (!endEq p b p' b')) w := by
  have h := equal_end 9998 p b p' b' w
  simp only [endV] at h ⊢
  rw [run_neq_struct, h]; rfl
theorem infoEnd : (Try.prog.info? 38).map (fun i => (i.zero, i.size, i.bytes)) = some (some (.agg #[.int .i64 0, .bool false]), 2, 16) := by kernel_rfl
theorem cellsEnd : Try.prog.cellsOf 38 = 2 := by kernel_rfl
theorem eql_fds (p0 : Int) (b0 : Bool) (p1 : Int) (b1 : Bool) (p2 : Int) (b2 : Bool) (p3 : Int) (b3 : Bool) (w : World) : (binOp .eql 39 (fdsV p0 b0 p1 b1 p2 b2 p3 b3) (fdsV p0 b0 p1 b1 p2 b2 p3 b3)).run Try.prog w = .ok (.bool true) w := by
  obtain ⟨i, hi, hzz⟩ := Option.map_eq_some_iff.1 infoEnd
  have h := fun p b => equal_end 9997 p b p b w
  simp only [endV, endEq_self] at h
  have hp : ∀ (xs : Array Value) (j : Nat) (a b : Value), xs.extract j (j + 2) = #[a, b] → (part 38 xs j).run Try.prog w = .ok (.agg #[a, b]) w := by
    intro xs j a b hx
    have hs := run_sizeOf (P := Try.prog) w hi
    rw [cellsEnd] at hs
    simp [part, isAgg, run_underlying Try.underlying38, hx]
  have e0 := hp #[.int .i64 p0, .bool b0, .int .i64 p1, .bool b1, .int .i64 p2, .bool b2, .int .i64 p3, .bool b3] 0 (.int .i64 p0) (.bool b0) rfl
  have e1 := hp #[.int .i64 p0, .bool b0, .int .i64 p1, .bool b1, .int .i64 p2, .bool b2, .int .i64 p3, .bool b3] 2 (.int .i64 p1) (.bool b1) rfl
  have e2 := hp #[.int .i64 p0, .bool b0, .int .i64 p1, .bool b1, .int .i64 p2, .bool b2, .int .i64 p3, .bool b3] 4 (.int .i64 p2) (.bool b2) rfl
  have e3 := hp #[.int .i64 p0, .bool b0, .int .i64 p1, .bool b1, .int .i64 p2, .bool b2, .int .i64 p3, .bool b3] 6 (.int .i64 p3) (.bool b3) rfl
  simp only [fdsV]
  rw [run_eql_struct, run_equalIn_array w 9999 _ _ Try.underlying39 hi, cellsEnd]
  generalize hd : 9997 + 2 = d at h
  have hd' : d = 9999 := by omega
  subst hd'
  simp only [List.range, List.range.loop, Op.eqItems, Sem.run_bind, Nat.zero_mul, Nat.one_mul, show 2 * 2 = 4 from rfl, show 3 * 2 = 6 from rfl, e0, e1, e2, e3, Result.andThen_ok, h, Bool.not_true, Bool.false_eq_true, if_false, Sem.run_pure]

set_option maxHeartbeats 1000000 in
theorem set_0 (b0 : Bool) (p1 : Int) (b1 : Bool) (p2 : Int) (b2 : Bool) (p3 : Int) (b3 : Bool) (p : Int) (b : Bool) (w : World)  :
    Calls Try.prog 19 #[fdsV 0 b0 p1 b1 p2 b2 p3 b3, endV p b] w fun e w' => e = .returned (.tuple #[fdsV p b p1 b1 p2 b2 p3 b3, .int .i64 0, .int .i64 0]) ∧ Below w.heap.size w w' := by
  go_enter Try.func19, Try.ntmps19
  go_wp2
  go_rounds 5
  refine bodyPost_ret (v := .tuple #[fdsV p b p1 b1 p2 b2 p3 b3, .int .i64 0, .int .i64 0]) (by simp [results, Try.results19, go_sem]) rfl ⟨rfl, ?_⟩
  repeat (first
    | exact Below.refl _ _
    | refine Below.drew ?_
    | refine below_drewN ?_ _
    | refine below_drewN ?_ _
    | refine Below.alloc ?_ (by first | omega | (simp; omega) | simp) _
    | refine Below.setCell ?_ (by first | omega | (simp; omega) | simp) _)

set_option maxHeartbeats 1000000 in
theorem set_1 (p0 : Int) (b0 : Bool) (b1 : Bool) (p2 : Int) (b2 : Bool) (p3 : Int) (b3 : Bool) (p : Int) (b : Bool) (w : World) (h0 : (p0 == 0) = false) :
    Calls Try.prog 19 #[fdsV p0 b0 0 b1 p2 b2 p3 b3, endV p b] w fun e w' => e = .returned (.tuple #[fdsV p0 b0 p b p2 b2 p3 b3, .int .i64 1, .int .i64 0]) ∧ Below w.heap.size w w' := by
  go_enter Try.func19, Try.ntmps19
  go_wp2
  go_rounds 5
  refine bodyPost_ret (v := .tuple #[fdsV p0 b0 p b p2 b2 p3 b3, .int .i64 1, .int .i64 0]) (by simp [results, Try.results19, go_sem]) rfl ⟨rfl, ?_⟩
  repeat (first
    | exact Below.refl _ _
    | refine Below.drew ?_
    | refine below_drewN ?_ _
    | refine below_drewN ?_ _
    | refine Below.alloc ?_ (by first | omega | (simp; omega) | simp) _
    | refine Below.setCell ?_ (by first | omega | (simp; omega) | simp) _)

set_option maxHeartbeats 1000000 in
theorem set_2 (p0 : Int) (b0 : Bool) (p1 : Int) (b1 : Bool) (b2 : Bool) (p3 : Int) (b3 : Bool) (p : Int) (b : Bool) (w : World) (h0 : (p0 == 0) = false) (h1 : (p1 == 0) = false) :
    Calls Try.prog 19 #[fdsV p0 b0 p1 b1 0 b2 p3 b3, endV p b] w fun e w' => e = .returned (.tuple #[fdsV p0 b0 p1 b1 p b p3 b3, .int .i64 2, .int .i64 0]) ∧ Below w.heap.size w w' := by
  go_enter Try.func19, Try.ntmps19
  go_wp2
  go_rounds 5
  refine bodyPost_ret (v := .tuple #[fdsV p0 b0 p1 b1 p b p3 b3, .int .i64 2, .int .i64 0]) (by simp [results, Try.results19, go_sem]) rfl ⟨rfl, ?_⟩
  repeat (first
    | exact Below.refl _ _
    | refine Below.drew ?_
    | refine below_drewN ?_ _
    | refine below_drewN ?_ _
    | refine Below.alloc ?_ (by first | omega | (simp; omega) | simp) _
    | refine Below.setCell ?_ (by first | omega | (simp; omega) | simp) _)

set_option maxHeartbeats 1000000 in
theorem set_3 (p0 : Int) (b0 : Bool) (p1 : Int) (b1 : Bool) (p2 : Int) (b2 : Bool) (b3 : Bool) (p : Int) (b : Bool) (w : World) (h0 : (p0 == 0) = false) (h1 : (p1 == 0) = false) (h2 : (p2 == 0) = false) :
    Calls Try.prog 19 #[fdsV p0 b0 p1 b1 p2 b2 0 b3, endV p b] w fun e w' => e = .returned (.tuple #[fdsV p0 b0 p1 b1 p2 b2 p b, .int .i64 3, .int .i64 0]) ∧ Below w.heap.size w w' := by
  go_enter Try.func19, Try.ntmps19
  go_wp2
  go_rounds 5
  refine bodyPost_ret (v := .tuple #[fdsV p0 b0 p1 b1 p2 b2 p b, .int .i64 3, .int .i64 0]) (by simp [results, Try.results19, go_sem]) rfl ⟨rfl, ?_⟩
  repeat (first
    | exact Below.refl _ _
    | refine Below.drew ?_
    | refine below_drewN ?_ _
    | refine below_drewN ?_ _
    | refine Below.alloc ?_ (by first | omega | (simp; omega) | simp) _
    | refine Below.setCell ?_ (by first | omega | (simp; omega) | simp) _)

set_option maxHeartbeats 1000000 in
theorem set_4 (p0 : Int) (b0 : Bool) (p1 : Int) (b1 : Bool) (p2 : Int) (b2 : Bool) (p3 : Int) (b3 : Bool) (p : Int) (b : Bool) (w : World) (h0 : (p0 == 0) = false) (h1 : (p1 == 0) = false) (h2 : (p2 == 0) = false) (h3 : (p3 == 0) = false) :
    Calls Try.prog 19 #[fdsV p0 b0 p1 b1 p2 b2 p3 b3, endV p b] w fun e w' => e = .returned (.tuple #[fdsV p0 b0 p1 b1 p2 b2 p3 b3, .int .i64 0, .int .i64 5]) ∧ Below w.heap.size w w' := by
  go_enter Try.func19, Try.ntmps19
  go_wp2
  go_rounds 5
  refine bodyPost_ret (v := .tuple #[fdsV p0 b0 p1 b1 p2 b2 p3 b3, .int .i64 0, .int .i64 5]) (by simp [results, Try.results19, go_sem]) rfl ⟨rfl, ?_⟩
  repeat (first
    | exact Below.refl _ _
    | refine Below.drew ?_
    | refine below_drewN ?_ _
    | refine below_drewN ?_ _
    | refine Below.alloc ?_ (by first | omega | (simp; omega) | simp) _
    | refine Below.setCell ?_ (by first | omega | (simp; omega) | simp) _)

set_option maxHeartbeats 1000000 in
theorem rSet_0 (b0 : Bool) (p1 : Int) (b1 : Bool) (p2 : Int) (b2 : Bool) (p3 : Int) (b3 : Bool) (p : Int) (b : Bool) (w : World)  :
    Calls Try.prog 20 #[fdsV 0 b0 p1 b1 p2 b2 p3 b3, endV p b] w fun e w' => e = .returned (.tuple #[fdsV p b p1 b1 p2 b2 p3 b3, .int .i64 0, .int .i64 0]) ∧ Below w.heap.size w w' := by
  go_enter Try.func20, Try.ntmps20
  go_wp2
  go_rounds 5
  refine bodyPost_ret (v := .tuple #[fdsV p b p1 b1 p2 b2 p3 b3, .int .i64 0, .int .i64 0]) (by simp [results, Try.results20, go_sem]) rfl ⟨rfl, ?_⟩
  repeat (first
    | exact Below.refl _ _
    | refine Below.drew ?_
    | refine below_drewN ?_ _
    | refine below_drewN ?_ _
    | refine Below.alloc ?_ (by first | omega | (simp; omega) | simp) _
    | refine Below.setCell ?_ (by first | omega | (simp; omega) | simp) _)

set_option maxHeartbeats 1000000 in
theorem rSet_1 (p0 : Int) (b0 : Bool) (b1 : Bool) (p2 : Int) (b2 : Bool) (p3 : Int) (b3 : Bool) (p : Int) (b : Bool) (w : World) (h0 : (p0 == 0) = false) :
    Calls Try.prog 20 #[fdsV p0 b0 0 b1 p2 b2 p3 b3, endV p b] w fun e w' => e = .returned (.tuple #[fdsV p0 b0 p b p2 b2 p3 b3, .int .i64 1, .int .i64 0]) ∧ Below w.heap.size w w' := by
  go_enter Try.func20, Try.ntmps20
  go_wp2
  go_rounds 5
  refine bodyPost_ret (v := .tuple #[fdsV p0 b0 p b p2 b2 p3 b3, .int .i64 1, .int .i64 0]) (by simp [results, Try.results20, go_sem]) rfl ⟨rfl, ?_⟩
  repeat (first
    | exact Below.refl _ _
    | refine Below.drew ?_
    | refine below_drewN ?_ _
    | refine below_drewN ?_ _
    | refine Below.alloc ?_ (by first | omega | (simp; omega) | simp) _
    | refine Below.setCell ?_ (by first | omega | (simp; omega) | simp) _)

set_option maxHeartbeats 1000000 in
theorem rSet_2 (p0 : Int) (b0 : Bool) (p1 : Int) (b1 : Bool) (b2 : Bool) (p3 : Int) (b3 : Bool) (p : Int) (b : Bool) (w : World) (h0 : (p0 == 0) = false) (h1 : (p1 == 0) = false) :
    Calls Try.prog 20 #[fdsV p0 b0 p1 b1 0 b2 p3 b3, endV p b] w fun e w' => e = .returned (.tuple #[fdsV p0 b0 p1 b1 p b p3 b3, .int .i64 2, .int .i64 0]) ∧ Below w.heap.size w w' := by
  go_enter Try.func20, Try.ntmps20
  go_wp2
  go_rounds 5
  refine bodyPost_ret (v := .tuple #[fdsV p0 b0 p1 b1 p b p3 b3, .int .i64 2, .int .i64 0]) (by simp [results, Try.results20, go_sem]) rfl ⟨rfl, ?_⟩
  repeat (first
    | exact Below.refl _ _
    | refine Below.drew ?_
    | refine below_drewN ?_ _
    | refine below_drewN ?_ _
    | refine Below.alloc ?_ (by first | omega | (simp; omega) | simp) _
    | refine Below.setCell ?_ (by first | omega | (simp; omega) | simp) _)

set_option maxHeartbeats 1000000 in
theorem rSet_3 (p0 : Int) (b0 : Bool) (p1 : Int) (b1 : Bool) (p2 : Int) (b2 : Bool) (b3 : Bool) (p : Int) (b : Bool) (w : World) (h0 : (p0 == 0) = false) (h1 : (p1 == 0) = false) (h2 : (p2 == 0) = false) :
    Calls Try.prog 20 #[fdsV p0 b0 p1 b1 p2 b2 0 b3, endV p b] w fun e w' => e = .returned (.tuple #[fdsV p0 b0 p1 b1 p2 b2 p b, .int .i64 3, .int .i64 0]) ∧ Below w.heap.size w w' := by
  go_enter Try.func20, Try.ntmps20
  go_wp2
  go_rounds 5
  refine bodyPost_ret (v := .tuple #[fdsV p0 b0 p1 b1 p2 b2 p b, .int .i64 3, .int .i64 0]) (by simp [results, Try.results20, go_sem]) rfl ⟨rfl, ?_⟩
  repeat (first
    | exact Below.refl _ _
    | refine Below.drew ?_
    | refine below_drewN ?_ _
    | refine below_drewN ?_ _
    | refine Below.alloc ?_ (by first | omega | (simp; omega) | simp) _
    | refine Below.setCell ?_ (by first | omega | (simp; omega) | simp) _)

set_option maxHeartbeats 1000000 in
theorem rSet_4 (p0 : Int) (b0 : Bool) (p1 : Int) (b1 : Bool) (p2 : Int) (b2 : Bool) (p3 : Int) (b3 : Bool) (p : Int) (b : Bool) (w : World) (h0 : (p0 == 0) = false) (h1 : (p1 == 0) = false) (h2 : (p2 == 0) = false) (h3 : (p3 == 0) = false) :
    Calls Try.prog 20 #[fdsV p0 b0 p1 b1 p2 b2 p3 b3, endV p b] w fun e w' => e = .returned (.tuple #[fdsV p0 b0 p1 b1 p2 b2 p3 b3, .int .i64 0, .int .i64 5]) ∧ Below w.heap.size w w' := by
  go_enter Try.func20, Try.ntmps20
  go_wp2
  go_rounds 5
  refine bodyPost_ret (v := .tuple #[fdsV p0 b0 p1 b1 p2 b2 p3 b3, .int .i64 0, .int .i64 5]) (by simp [results, Try.results20, go_sem]) rfl ⟨rfl, ?_⟩
  repeat (first
    | exact Below.refl _ _
    | refine Below.drew ?_
    | refine below_drewN ?_ _
    | refine below_drewN ?_ _
    | refine Below.alloc ?_ (by first | omega | (simp; omega) | simp) _
    | refine Below.setCell ?_ (by first | omega | (simp; omega) | simp) _)

set_option maxHeartbeats 2000000 in
theorem sets_0 (b0 : Bool) (p1 : Int) (b1 : Bool) (p2 : Int) (b2 : Bool) (p3 : Int) (b3 : Bool) (p : Int) (b : Bool) (w : World)  :
    Calls Try.prog 10 #[fdsV 0 b0 p1 b1 p2 b2 p3 b3, endV p b] w fun e w' => e = .returned (.bool true) ∧ Below w.heap.size w w' := by
  have heq := @eql_fds
  have hne := @neq_end
  have hself := @endEq_self
  go_enter Try.func10, Try.ntmps10
  go_wp2_with fail
  refine (shown_any _).mono ?_
  rintro e w1 ⟨rfl, hb1⟩
  obtain ⟨hc1, hf1⟩ := bcell hb1
  have s1 := hb1.size
  try simp at s1
  try have z1_0 : w.heap.size < w1.heap.size := by omega
  try have z1_1 : w.heap.size + 1 < w1.heap.size := by omega
  try have z1_2 : w.heap.size + 2 < w1.heap.size := by omega
  go_wp2_with fail
  refine (set_0 b0 p1 b1 p2 b2 p3 b3 p b _ ).mono ?_
  rintro e w2 ⟨rfl, hb2⟩
  obtain ⟨hc2, hf2⟩ := bcell hb2
  have s2 := hb2.size
  try simp at s2
  try have z2_0 : w.heap.size < w2.heap.size := by omega
  try have z2_1 : w.heap.size + 1 < w2.heap.size := by omega
  try have z2_2 : w.heap.size + 2 < w2.heap.size := by omega
  try have z2_3 : w1.heap.size < w2.heap.size := by omega
  try have z2_4 : w1.heap.size + 1 < w2.heap.size := by omega
  go_wp2
  go_quiet (fail)
  go_wp2
  refine wp_loop_rounds 5 ?_
  rw [rounds_succ]
  go_wp2
  go_quiet (fail)
  go_wp2
  rw [rounds_succ]
  go_wp2
  go_quiet (fail)
  go_wp2
  rw [rounds_succ]
  go_wp2
  go_quiet (fail)
  go_wp2
  rw [rounds_succ]
  go_wp2
  go_quiet (fail)
  go_wp2
  rw [rounds_succ]
  go_wp2
  go_ret
  refine ⟨rfl, ?_⟩
  repeat (first
    | exact Below.refl _ _
    | exact hb1
    | exact hb2
    | refine Below.drew ?_
    | refine below_drewN ?_ _
    | refine below_drewN ?_ _
    | refine Below.alloc ?_ (by first | omega | (simp; omega) | simp) _
    | refine Below.setCell ?_ (by first | omega | (simp; omega) | simp) _
    | refine Below.trans ?_ (hb2.mono (by first | omega | (simp; omega) | simp))
    | refine Below.trans ?_ (hb1.mono (by first | omega | (simp; omega) | simp)))

set_option maxHeartbeats 2000000 in
theorem sets_1 (p0 : Int) (b0 : Bool) (b1 : Bool) (p2 : Int) (b2 : Bool) (p3 : Int) (b3 : Bool) (p : Int) (b : Bool) (w : World) (h0 : (p0 == 0) = false) :
    Calls Try.prog 10 #[fdsV p0 b0 0 b1 p2 b2 p3 b3, endV p b] w fun e w' => e = .returned (.bool true) ∧ Below w.heap.size w w' := by
  have heq := @eql_fds
  have hne := @neq_end
  have hself := @endEq_self
  have g0 : (p0 != 0) = true := by simpa using h0
  go_enter Try.func10, Try.ntmps10
  go_wp2_with fail
  refine (shown_any _).mono ?_
  rintro e w1 ⟨rfl, hb1⟩
  obtain ⟨hc1, hf1⟩ := bcell hb1
  have s1 := hb1.size
  try simp at s1
  try have z1_0 : w.heap.size < w1.heap.size := by omega
  try have z1_1 : w.heap.size + 1 < w1.heap.size := by omega
  try have z1_2 : w.heap.size + 2 < w1.heap.size := by omega
  go_wp2_with fail
  refine (set_1 p0 b0 b1 p2 b2 p3 b3 p b _ h0).mono ?_
  rintro e w2 ⟨rfl, hb2⟩
  obtain ⟨hc2, hf2⟩ := bcell hb2
  have s2 := hb2.size
  try simp at s2
  try have z2_0 : w.heap.size < w2.heap.size := by omega
  try have z2_1 : w.heap.size + 1 < w2.heap.size := by omega
  try have z2_2 : w.heap.size + 2 < w2.heap.size := by omega
  try have z2_3 : w1.heap.size < w2.heap.size := by omega
  try have z2_4 : w1.heap.size + 1 < w2.heap.size := by omega
  go_wp2
  go_quiet (fail)
  go_wp2
  refine wp_loop_rounds 5 ?_
  rw [rounds_succ]
  go_wp2
  go_quiet (fail)
  go_wp2
  rw [rounds_succ]
  go_wp2
  go_quiet (fail)
  go_wp2
  rw [rounds_succ]
  go_wp2
  go_quiet (fail)
  go_wp2
  rw [rounds_succ]
  go_wp2
  go_quiet (fail)
  go_wp2
  rw [rounds_succ]
  go_wp2
  go_ret
  refine ⟨rfl, ?_⟩
  repeat (first
    | exact Below.refl _ _
    | exact hb1
    | exact hb2
    | refine Below.drew ?_
    | refine below_drewN ?_ _
    | refine below_drewN ?_ _
    | refine Below.alloc ?_ (by first | omega | (simp; omega) | simp) _
    | refine Below.setCell ?_ (by first | omega | (simp; omega) | simp) _
    | refine Below.trans ?_ (hb2.mono (by first | omega | (simp; omega) | simp))
    | refine Below.trans ?_ (hb1.mono (by first | omega | (simp; omega) | simp)))

set_option maxHeartbeats 2000000 in
theorem sets_2 (p0 : Int) (b0 : Bool) (p1 : Int) (b1 : Bool) (b2 : Bool) (p3 : Int) (b3 : Bool) (p : Int) (b : Bool) (w : World) (h0 : (p0 == 0) = false) (h1 : (p1 == 0) = false) :
    Calls Try.prog 10 #[fdsV p0 b0 p1 b1 0 b2 p3 b3, endV p b] w fun e w' => e = .returned (.bool true) ∧ Below w.heap.size w w' := by
  have heq := @eql_fds
  have hne := @neq_end
  have hself := @endEq_self
  have g0 : (p0 != 0) = true := by simpa using h0
  have g1 : (p1 != 0) = true := by simpa using h1
  go_enter Try.func10, Try.ntmps10
  go_wp2_with fail
  refine (shown_any _).mono ?_
  rintro e w1 ⟨rfl, hb1⟩
  obtain ⟨hc1, hf1⟩ := bcell hb1
  have s1 := hb1.size
  try simp at s1
  try have z1_0 : w.heap.size < w1.heap.size := by omega
  try have z1_1 : w.heap.size + 1 < w1.heap.size := by omega
  try have z1_2 : w.heap.size + 2 < w1.heap.size := by omega
  go_wp2_with fail
  refine (set_2 p0 b0 p1 b1 b2 p3 b3 p b _ h0 h1).mono ?_
  rintro e w2 ⟨rfl, hb2⟩
  obtain ⟨hc2, hf2⟩ := bcell hb2
  have s2 := hb2.size
  try simp at s2
  try have z2_0 : w.heap.size < w2.heap.size := by omega
  try have z2_1 : w.heap.size + 1 < w2.heap.size := by omega
  try have z2_2 : w.heap.size + 2 < w2.heap.size := by omega
  try have z2_3 : w1.heap.size < w2.heap.size := by omega
  try have z2_4 : w1.heap.size + 1 < w2.heap.size := by omega
  go_wp2
  go_quiet (fail)
  go_wp2
  refine wp_loop_rounds 5 ?_
  rw [rounds_succ]
  go_wp2
  go_quiet (fail)
  go_wp2
  rw [rounds_succ]
  go_wp2
  go_quiet (fail)
  go_wp2
  rw [rounds_succ]
  go_wp2
  go_quiet (fail)
  go_wp2
  rw [rounds_succ]
  go_wp2
  go_quiet (fail)
  go_wp2
  rw [rounds_succ]
  go_wp2
  go_ret
  refine ⟨rfl, ?_⟩
  repeat (first
    | exact Below.refl _ _
    | exact hb1
    | exact hb2
    | refine Below.drew ?_
    | refine below_drewN ?_ _
    | refine below_drewN ?_ _
    | refine Below.alloc ?_ (by first | omega | (simp; omega) | simp) _
    | refine Below.setCell ?_ (by first | omega | (simp; omega) | simp) _
    | refine Below.trans ?_ (hb2.mono (by first | omega | (simp; omega) | simp))
    | refine Below.trans ?_ (hb1.mono (by first | omega | (simp; omega) | simp)))

set_option maxHeartbeats 2000000 in
theorem sets_3 (p0 : Int) (b0 : Bool) (p1 : Int) (b1 : Bool) (p2 : Int) (b2 : Bool) (b3 : Bool) (p : Int) (b : Bool) (w : World) (h0 : (p0 == 0) = false) (h1 : (p1 == 0) = false) (h2 : (p2 == 0) = false) :
    Calls Try.prog 10 #[fdsV p0 b0 p1 b1 p2 b2 0 b3, endV p b] w fun e w' => e = .returned (.bool true) ∧ Below w.heap.size w w' := by
  have heq := @eql_fds
  have hne := @neq_end
  have hself := @endEq_self
  have g0 : (p0 != 0) = true := by simpa using h0
  have g1 : (p1 != 0) = true := by simpa using h1
  have g2 : (p2 != 0) = true := by simpa using h2
  go_enter Try.func10, Try.ntmps10
  go_wp2_with fail
  refine (shown_any _).mono ?_
  rintro e w1 ⟨rfl, hb1⟩
  obtain ⟨hc1, hf1⟩ := bcell hb1
  have s1 := hb1.size
  try simp at s1
  try have z1_0 : w.heap.size < w1.heap.size := by omega
  try have z1_1 : w.heap.size + 1 < w1.heap.size := by omega
  try have z1_2 : w.heap.size + 2 < w1.heap.size := by omega
  go_wp2_with fail
  refine (set_3 p0 b0 p1 b1 p2 b2 b3 p b _ h0 h1 h2).mono ?_
  rintro e w2 ⟨rfl, hb2⟩
  obtain ⟨hc2, hf2⟩ := bcell hb2
  have s2 := hb2.size
  try simp at s2
  try have z2_0 : w.heap.size < w2.heap.size := by omega
  try have z2_1 : w.heap.size + 1 < w2.heap.size := by omega
  try have z2_2 : w.heap.size + 2 < w2.heap.size := by omega
  try have z2_3 : w1.heap.size < w2.heap.size := by omega
  try have z2_4 : w1.heap.size + 1 < w2.heap.size := by omega
  go_wp2
  go_quiet (fail)
  go_wp2
  refine wp_loop_rounds 5 ?_
  rw [rounds_succ]
  go_wp2
  go_quiet (fail)
  go_wp2
  rw [rounds_succ]
  go_wp2
  go_quiet (fail)
  go_wp2
  rw [rounds_succ]
  go_wp2
  go_quiet (fail)
  go_wp2
  rw [rounds_succ]
  go_wp2
  go_quiet (fail)
  go_wp2
  rw [rounds_succ]
  go_wp2
  go_ret
  refine ⟨rfl, ?_⟩
  repeat (first
    | exact Below.refl _ _
    | exact hb1
    | exact hb2
    | refine Below.drew ?_
    | refine below_drewN ?_ _
    | refine below_drewN ?_ _
    | refine Below.alloc ?_ (by first | omega | (simp; omega) | simp) _
    | refine Below.setCell ?_ (by first | omega | (simp; omega) | simp) _
    | refine Below.trans ?_ (hb2.mono (by first | omega | (simp; omega) | simp))
    | refine Below.trans ?_ (hb1.mono (by first | omega | (simp; omega) | simp)))

set_option maxHeartbeats 2000000 in
theorem sets_4 (p0 : Int) (b0 : Bool) (p1 : Int) (b1 : Bool) (p2 : Int) (b2 : Bool) (p3 : Int) (b3 : Bool) (p : Int) (b : Bool) (w : World) (h0 : (p0 == 0) = false) (h1 : (p1 == 0) = false) (h2 : (p2 == 0) = false) (h3 : (p3 == 0) = false) :
    Calls Try.prog 10 #[fdsV p0 b0 p1 b1 p2 b2 p3 b3, endV p b] w fun e w' => e = .returned (.bool true) ∧ Below w.heap.size w w' := by
  have heq := @eql_fds
  have hne := @neq_end
  have hself := @endEq_self
  have g0 : (p0 != 0) = true := by simpa using h0
  have g1 : (p1 != 0) = true := by simpa using h1
  have g2 : (p2 != 0) = true := by simpa using h2
  have g3 : (p3 != 0) = true := by simpa using h3
  go_enter Try.func10, Try.ntmps10
  go_wp2_with fail
  refine (shown_any _).mono ?_
  rintro e w1 ⟨rfl, hb1⟩
  obtain ⟨hc1, hf1⟩ := bcell hb1
  have s1 := hb1.size
  try simp at s1
  try have z1_0 : w.heap.size < w1.heap.size := by omega
  try have z1_1 : w.heap.size + 1 < w1.heap.size := by omega
  try have z1_2 : w.heap.size + 2 < w1.heap.size := by omega
  go_wp2_with fail
  refine (set_4 p0 b0 p1 b1 p2 b2 p3 b3 p b _ h0 h1 h2 h3).mono ?_
  rintro e w2 ⟨rfl, hb2⟩
  obtain ⟨hc2, hf2⟩ := bcell hb2
  have s2 := hb2.size
  try simp at s2
  try have z2_0 : w.heap.size < w2.heap.size := by omega
  try have z2_1 : w.heap.size + 1 < w2.heap.size := by omega
  try have z2_2 : w.heap.size + 2 < w2.heap.size := by omega
  try have z2_3 : w1.heap.size < w2.heap.size := by omega
  try have z2_4 : w1.heap.size + 1 < w2.heap.size := by omega
  go_wp2
  go_ret
  refine ⟨rfl, ?_⟩
  repeat (first
    | exact Below.refl _ _
    | exact hb1
    | exact hb2
    | refine Below.drew ?_
    | refine below_drewN ?_ _
    | refine below_drewN ?_ _
    | refine Below.alloc ?_ (by first | omega | (simp; omega) | simp) _
    | refine Below.setCell ?_ (by first | omega | (simp; omega) | simp) _
    | refine Below.trans ?_ (hb2.mono (by first | omega | (simp; omega) | simp))
    | refine Below.trans ?_ (hb1.mono (by first | omega | (simp; omega) | simp)))

end Go.Proofs.Ytlhjlomfpgmdmaa
