/- seg.Out, In, Make. -/
import Derived.Test.YtoagodlengljgaaSegB
namespace Go.Proofs.Ytoagodlengljgaa
open Go.RowKit
set_option linter.unusedVariables false

/-- A piece of a text. -/
def cutB (m : ByteArray) (a n : Nat) : ByteArray := m.extract a (a + n)

set_option maxHeartbeats 400000 in
theorem out_any (m : ByteArray) (a n : Nat) (w : World) (h1 : (a : Int) < 4294967296) (h2 : (n : Int) < 4294967296) (hm : m.size ≤ 140737488351232) :
    Calls Try.prog 19 #[.string m, .int .u32 a, .int .u32 n] w fun e w' => e = .returned (if a + n ≤ m.size then .tuple #[.string (cutB m a n), .int .i64 0] else .tuple #[.string ⟨#[]⟩, .int .i64 10]) ∧ w = w' := by
  by_cases hs : a + n ≤ m.size
  · have hd : decide ((a : Int) + (n : Int) ≤ (m.size : Int)) = true := by simp; omega
    rw [if_pos hs]
    go_enter Try.func19, Try.ntmps19
    go_wp2_with ((go_at_call 28; refine (has_any _ _ _ _ (by omega) (by omega) (by omega) (by omega) (by omega)).mono ?_; rintro e w' ⟨rfl, rfl⟩))
    all_goals go_ret2
    all_goals exact ⟨rfl, rfl⟩
  · have hd : decide ((a : Int) + (n : Int) ≤ (m.size : Int)) = false := by simp; omega
    rw [if_neg hs]
    go_enter Try.func19, Try.ntmps19
    go_wp2_with ((go_at_call 28; refine (has_any _ _ _ _ (by omega) (by omega) (by omega) (by omega) (by omega)).mono ?_; rintro e w' ⟨rfl, rfl⟩))
    all_goals go_ret2
    all_goals exact ⟨rfl, rfl⟩

set_option maxHeartbeats 400000 in
theorem in_any (m s : ByteArray) (a : Nat) (w : World) (h1 : (a : Int) < 4294967296) (hm : m.size ≤ 140737488351232) (hs' : s.size ≤ 140737488351232) :
    Calls Try.prog 21 #[.string m, .int .u32 a, .string s] w fun e w' => e = .returned (if a + s.size ≤ m.size then .tuple #[.string (splB m a s), .int .i64 0] else .tuple #[.string m, .int .i64 10]) ∧ Below w.heap.size w w' := by
  by_cases hs : a + s.size ≤ m.size
  · have hd : decide ((a : Int) + (s.size : Int) ≤ (m.size : Int)) = true := by simp; omega
    rw [if_pos hs]
    go_enter Try.func21, Try.ntmps21
    go_wp2_with (first | (go_at_call 28; refine (has_any _ _ _ _ (by omega) (by omega) (by omega) (by omega) (by omega)).mono ?_; rintro e w' ⟨rfl, rfl⟩) | (go_at_call 27; refine (laid_any _ _ _ _ (by omega) (by omega) (by omega)).mono ?_; rintro e w' ⟨rfl, hb⟩))
    all_goals go_ret2
    all_goals exact ⟨rfl, hb⟩
  · have hd : decide ((a : Int) + (s.size : Int) ≤ (m.size : Int)) = false := by simp; omega
    rw [if_neg hs]
    go_enter Try.func21, Try.ntmps21
    go_wp2_with ((go_at_call 28; refine (has_any _ _ _ _ (by omega) (by omega) (by omega) (by omega) (by omega)).mono ?_; rintro e w' ⟨rfl, rfl⟩))
    all_goals go_ret2
    all_goals exact ⟨rfl, Below.refl _ _⟩

/-- A memory of so many bytes, noughts behind the first ones. -/
def makeB (n : Nat) (s : ByteArray) : ByteArray := ⟨(s.data.toList ++ List.replicate (n - s.size) 0).toArray⟩

set_option maxHeartbeats 400000 in
theorem make_arg (n : Int) (s : ByteArray) (w : World) (h : n < 0 ∨ 1024 < n) :
    Calls Try.prog 23 #[.int .i64 n, .string s] w fun e w' => e = .returned (.tuple #[.string ⟨#[]⟩, .int .i64 1]) ∧ w = w' := by
  rcases h with h | h
  · go_enter Try.func23, Try.ntmps23
    go_wp2
    go_ret2
    exact ⟨rfl, rfl⟩
  · have h' : ¬ n < 0 := by omega
    go_enter Try.func23, Try.ntmps23
    go_wp2
    go_ret2
    exact ⟨rfl, rfl⟩

set_option maxHeartbeats 400000 in
theorem make_big (n : Int) (s : ByteArray) (w : World) (h0 : 0 ≤ n) (h1 : n ≤ 1024) (hs : s.size ≤ 140737488351232) (h2 : n < s.size) :
    Calls Try.prog 23 #[.int .i64 n, .string s] w fun e w' => e = .returned (.tuple #[.string ⟨#[]⟩, .int .i64 4]) ∧ w = w' := by
  go_enter Try.func23, Try.ntmps23
  go_wp2
  go_ret2
  exact ⟨rfl, rfl⟩

def zeroB (n : Nat) : ByteArray := ⟨(List.replicate n 0).toArray⟩
theorem zeroB_list (n : Nat) : (zeroB n).data.toList = List.replicate n 0 := by simp [zeroB]
theorem zeroB_size (n : Nat) : (zeroB n).size = n := by rw [Lib.size_eq, zeroB_list]; simp
theorem makeB_spl (n : Nat) (s : ByteArray) : splB (zeroB n) 0 s = makeB n s := by
  unfold splB makeB
  rw [zeroB_list]
  simp
theorem makeB_size (n : Nat) (s : ByteArray) (h : s.size ≤ n) : (makeB n s).size = n := by rw [← makeB_spl, splB_size _ _ _ (by rw [zeroB_size]; omega), zeroB_size]
theorem made_cell (n j : Nat) (hj : j < n) : (madeCells #[Value.int .u8 0] n)[j]? = some (.int .u8 0) := by
  simp [madeCells, hj, Nat.mod_one]

set_option maxHeartbeats 400000 in
theorem make_yes (n : Nat) (s : ByteArray) (w : World) (h1 : n ≤ 1024) (h2 : s.size ≤ n) :
    Calls Try.prog 23 #[.int .i64 n, .string s] w fun e w' => e = .returned (.tuple #[.string (makeB n s), .int .i64 0]) ∧ Below w.heap.size w w' := by
  have info : (Try.prog.info? 5).map (fun i => (i.zero, i.size, i.bytes)) = some (some (.int .u8 0), 1, 1) := by kernel_rfl
  have hmk := run_make_row' (P := Try.prog) 49 5 (.int .u8 0) 1 Try.underlying49 info rfl .i64 .i64 n (by omega) (by omega) w
  have hz : ∀ w, (Go.sizeOf 5).run Try.prog w = .ok 1 w := fun w => by kernel_rfl
  have cm : ∀ k, k < n → (w.alloc (.cells (madeCells #[Value.int .u8 0] n) 5)).cell? ⟨w.heap.size, k, none⟩ = some (.int .u8 0) := fun k hk => by
    rw [World.cell?_alloc_mark, made_cell n k hk]
  have hcopy := fun ty => run_copy_string (P := Try.prog) (w.alloc (.cells (madeCells #[Value.int .u8 0] n) 5)) 49 9 ty 5 w.heap.size 0 n n s Try.underlying49 hz h2 (fun j hj => by rw [cm _ (by omega)]; rfl) (fun j hj => by simp [World.frozen?, World.alloc, -World.alloc_eq])
  have hrow := fun j hj => laid_row' (zeroB n) s 0 (w.alloc (.cells (madeCells #[Value.int .u8 0] n) 5)) w.heap.size 0 (fun k hk => by rw [zeroB_size] at hk; rw [cm k hk, zeroB_list]; simp [List.getD_eq_getElem?_getD, hk]) (by rw [zeroB_size]; omega) (.inr rfl) j hj
  rw [makeB_spl] at hrow
  have hback := run_convert_bytes_back (P := Try.prog) ((w.alloc (.cells (madeCells #[Value.int .u8 0] n) 5)).setCells w.heap.size 0 (s.data.toList.map fun x => Value.int .u8 (x.toNat : Int))) 49 9 5 ⟨w.heap.size, 0, none⟩ n (makeB n s).data.toList Try.underlying49 Try.underlying5 Try.underlying9 (fun j hj => by rw [show (⟨w.heap.size, 0, none⟩ : Addr).add j = ⟨w.heap.size, j, none⟩ by simp [Addr.add]; omega]; exact hrow j hj)
  rw [show (makeB n s).data.toList.length = n by rw [← Lib.size_eq, makeB_size n s h2], show (⟨(makeB n s).data.toList.toArray⟩ : ByteArray) = makeB n s by simp [makeB]] at hback
  have HB := Lib.hid (below_setCells (Nat.le_refl w.heap.size) (s.data.toList.map fun x => Value.int .u8 (x.toNat : Int)) 0 _ ((Below.refl _ w).alloc (Nat.le_refl _) (.cells (madeCells #[Value.int .u8 0] n) 5)))
  clear hrow cm info hz
  generalize w.alloc (.cells (madeCells #[Value.int .u8 0] n) 5) = W1 at *
  generalize W1.setCells w.heap.size 0 (s.data.toList.map fun x => Value.int .u8 (x.toNat : Int)) = W2 at *
  go_enter Try.func23, Try.ntmps23
  go_wp2
  all_goals go_ret2
  all_goals exact ⟨rfl, HB.out⟩
end Go.Proofs.Ytoagodlengljgaa
