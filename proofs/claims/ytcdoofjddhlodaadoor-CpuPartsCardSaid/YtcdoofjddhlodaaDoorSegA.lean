/- Memories as texts: seg.has, seg.stands, seg.laid. -/
import Derived.Test.YtcdoofjddhlodaaDoorBase
import Derived.Lib.LazyBuf
import Derived.Lib.ConvBytes
import Derived.Lib.SmallJoins
namespace Go.Proofs.YtcdoofjddhlodaaDoor
open Go.RowKit
set_option linter.unusedVariables false

set_option maxHeartbeats 400000 in
theorem has_any (m : ByteArray) (a n : Int) (w : World) (h0 : 0 ≤ a) (h1 : a < 4294967296) (h2 : 0 ≤ n) (h3 : n < 9223372036854775808) (hm : m.size ≤ 140737488351232) :
    Calls Tryd.prog 46 #[.string m, .int .u32 a, .int .u64 n] w fun e w' => e = .returned (.bool (decide (a + n ≤ m.size))) ∧ w = w' := by
  go_enter Tryd.func46, Tryd.ntmps46
  go_wp2
  go_ret
  exact ⟨rfl, rfl⟩

set_option maxHeartbeats 400000 in
theorem stands_any (m : ByteArray) (a : Int) (w : World) (h0 : 0 ≤ a) (h1 : a < 4294967296) (hm : m.size ≤ 140737488351232) :
    Calls Tryd.prog 41 #[.string m, .int .u32 a] w fun e w' => e = .returned (.bool (decide (a % 4 = 0 ∧ a + 4 ≤ m.size))) ∧ w = w' := by
  by_cases hc : a % 4 = 0
  · by_cases hs : a + 4 ≤ m.size
    · have hd : decide (a + 4 ≤ (m.size : Int)) = true := by simpa using hs
      go_enter Tryd.func41, Tryd.ntmps41
      go_wp2_with ((go_at_call 46; refine (has_any _ _ _ _ (by omega) (by omega) (by omega) (by omega) (by omega)).mono ?_; rintro e w' ⟨rfl, rfl⟩))
      all_goals go_ret
      all_goals exact ⟨ret_bool (by simp [hc, hs]), rfl⟩
    · have hd : decide (a + 4 ≤ (m.size : Int)) = false := by simpa using hs
      go_enter Tryd.func41, Tryd.ntmps41
      go_wp2_with ((go_at_call 46; refine (has_any _ _ _ _ (by omega) (by omega) (by omega) (by omega) (by omega)).mono ?_; rintro e w' ⟨rfl, rfl⟩))
      all_goals go_ret
      all_goals exact ⟨ret_bool (by simp [hc, hs]), rfl⟩
  · go_enter Tryd.func41, Tryd.ntmps41
    go_wp2_with ((go_at_call 46; refine (has_any _ _ _ _ (by omega) (by omega) (by omega) (by omega) (by omega)).mono ?_; rintro e w' ⟨rfl, rfl⟩))
    all_goals go_ret
    all_goals exact ⟨ret_bool (by simp [hc]), rfl⟩

/-- A memory with bytes from a place on. -/
def splB (m : ByteArray) (a : Nat) (s : ByteArray) : ByteArray := ⟨(m.data.toList.take a ++ s.data.toList ++ m.data.toList.drop (a + s.size)).toArray⟩

theorem splB_list (m : ByteArray) (a : Nat) (s : ByteArray) : (splB m a s).data.toList = m.data.toList.take a ++ s.data.toList ++ m.data.toList.drop (a + s.size) := by simp [splB]
theorem splB_size (m : ByteArray) (a : Nat) (s : ByteArray) (h : a + s.size ≤ m.size) : (splB m a s).size = m.size := by
  rw [Lib.size_eq, splB_list]
  simp
  omega

/-- A row that holds the text m, with s written over it from place a on, holds the text splB. -/
theorem laid_row' (m s : ByteArray) (a : Nat) (W : World) (b x : Nat) (cellm : ∀ k, k < m.size → W.cell? ⟨b, k, none⟩ = some (.int .u8 (m.data.toList.getD k 0).toNat)) (h : a + s.size ≤ m.size) (hx : s.size = 0 ∨ x = a) (j : Nat) (hj : j < (splB m a s).data.toList.length) :
    (W.setCells b x (s.data.toList.map fun x => Value.int .u8 (x.toNat : Int))).cell? ⟨b, j, none⟩ = some (.int .u8 ((splB m a s).data.toList[j].toNat : Int)) := by
  have hs := splB_size m a s h
  have hj' : j < m.size := by rw [Lib.size_eq] at hs; rw [← hs]; exact hj
  have hms : m.data.toList.length = m.size := (Lib.size_eq m).symm
  have hss : s.data.toList.length = s.size := (Lib.size_eq s).symm
  have key : ∀ c : UInt8, (splB m a s).data.toList.getD j 0 = c → (splB m a s).data.toList[j] = c := fun c hb => by rw [← hb, List.getD_eq_getElem?_getD, List.getElem?_eq_getElem hj]; rfl
  by_cases hin : a ≤ j ∧ j < a + s.size
  · obtain ⟨k, rfl⟩ : ∃ k, j = a + k := ⟨j - a, by omega⟩
    obtain rfl : x = a := by omega
    have hk : k < (s.data.toList.map fun x => Value.int .u8 (x.toNat : Int)).length := by simp; omega
    rw [World.cell?_setCells_in b _ _ _ (fun i hi => by rw [cellm _ (by simp at hi; omega)]; rfl) k hk]
    congr 3
    rw [key (s.data.toList.getD k 0) (by
      rw [splB_list]
      simp only [List.getD_eq_getElem?_getD]
      rw [List.append_assoc, List.getElem?_append_right (by simp; omega), List.getElem?_append_left (by simp; omega)]
      simp
      congr 2
      omega)]
    simp only [List.getElem_map, List.getD_eq_getElem?_getD]
    rw [List.getElem?_eq_getElem (by simp at hk; omega)]
    rfl
  · rw [World.cell?_setCells_out _ _ _ _ _ (fun _ _ => by simp; omega), cellm j hj']
    congr 3
    rw [key (m.data.toList.getD j 0) (by
      rw [splB_list]
      simp only [List.getD_eq_getElem?_getD]
      congr 1
      by_cases hlt : j < a
      · rw [List.append_assoc, List.getElem?_append_left (by simp; omega)]
        simp [hlt]
      · rw [List.getElem?_append_right (by simp; omega)]
        simp
        congr 1
        omega)]

theorem laid_row (m s : ByteArray) (a : Nat) (w : World) (x : Nat) (h : a + s.size ≤ m.size) (hx : s.size = 0 ∨ x = a) (j : Nat) (hj : j < (splB m a s).data.toList.length) :
    ((Lib.bytesWorld w 5 m).setCells w.heap.size x (s.data.toList.map fun x => Value.int .u8 (x.toNat : Int))).cell? ⟨w.heap.size, j, none⟩ = some (.int .u8 ((splB m a s).data.toList[j].toNat : Int)) :=
  laid_row' m s a _ _ x (fun k hk => Lib.bytesWorld_cell w _ m k hk) h hx j hj

theorem bytesWorld_free (w : World) (m : ByteArray) (k : Nat) (hk : k < m.size) : (Lib.bytesWorld w 5 m).frozen? ⟨w.heap.size, k, none⟩ = false := by
  have hsz : m.size ≤ (Lib.bytesCells w 5 m).size := by
    rw [show m.size = m.data.size from rfl]
    simp [Lib.bytesCells]
  simp only [World.frozen?, Lib.bytesWorld_at_new]
  simp
  omega

set_option maxHeartbeats 400000 in
theorem laid_any (m s : ByteArray) (a : Nat) (w : World) (h : a + s.size ≤ m.size) (h1 : (a : Int) < 4294967296) (hm : m.size ≤ 140737488351232) :
    Calls Tryd.prog 47 #[.string m, .int .u32 a, .string s] w fun e w' => e = .returned (.string (splB m a s)) ∧ Below w.heap.size w w' := by
  have hconv := Lib.run_convert_string_bytes (P := Tryd.prog) w 9 62 5 m Tryd.underlying9 Tryd.underlying62 Tryd.underlying5
  have hge := grownCap_ge w m.size 0 5
  generalize hC : grownCap w m.size 0 5 = C at hconv hge
  clear hC
  have hz : ∀ w, (Go.sizeOf 5).run Tryd.prog w = .ok 1 w := fun w => by kernel_rfl
  obtain ⟨x, hx, hslice⟩ : ∃ x, (s.size = 0 ∨ x = a) ∧ ∀ W, (Instr.slice 62 (.slice (some ⟨w.heap.size, 0, none⟩) m.size C) (some (.int .u32 (a : Int))) none none).run Tryd.prog W = .ok (.slice (some ⟨w.heap.size, x, none⟩) (m.size - a) (C - a)) W := by
    refine ⟨if C = a then 0 else a, ?_, fun W => ?_⟩
    · by_cases e : C = a
      · left; omega
      · right; simp [e]
    · rw [run_slice_l W _ _ _ _ (by kernel_rfl) .u32 _ (by omega) (by omega), show Tryd.prog.elem 62 = 5 by kernel_rfl, hz]
      simp only [Result.andThen, sliced, Int.toNat_natCast]
      split <;> simp [Addr.add] <;> omega
  have hcopy := fun ty => run_copy_string (P := Tryd.prog) (Lib.bytesWorld w 5 m) 62 9 ty 5 w.heap.size x (m.size - a) (C - a) s Tryd.underlying62 hz (by omega) (fun j hj => by rw [Lib.bytesWorld_cell w _ m _ (by omega)]; rfl) (fun j hj => bytesWorld_free w m _ (by omega))
  have hback := fun W hW => run_convert_bytes_back (P := Tryd.prog) W 62 9 5 ⟨w.heap.size, 0, none⟩ C (splB m a s).data.toList Tryd.underlying62 Tryd.underlying5 Tryd.underlying9 hW
  have hback2 := hback _ (fun j hj => by rw [show (⟨w.heap.size, 0, none⟩ : Addr).add j = ⟨w.heap.size, j, none⟩ by simp [Addr.add]; omega]; exact laid_row m s a w x h hx j hj)
  have hB : Below w.heap.size w ((Lib.bytesWorld w 5 m).setCells w.heap.size x (s.data.toList.map fun x => Value.int .u8 (x.toNat : Int))) := below_setCells (Nat.le_refl _) _ _ _ (Joins.below_bytesWorld _ _ _ _ (Nat.le_refl _))
  rw [show (splB m a s).data.toList.length = m.size by rw [← Lib.size_eq, splB_size m a s h]] at hback2
  clear hback
  generalize Lib.bytesWorld w 5 m = W1 at *
  generalize W1.setCells w.heap.size x (s.data.toList.map fun x => Value.int .u8 (x.toNat : Int)) = W2 at *
  have HB := Lib.hid hB
  have e9 : (⟨(splB m a s).data.toList.toArray⟩ : ByteArray) = splB m a s := by simp [splB]
  rw [e9] at hback2
  clear hB e9 hx hz hge
  go_enter Tryd.func47, Tryd.ntmps47
  go_wp2
  go_ret
  exact ⟨rfl, HB.out⟩
end Go.Proofs.YtcdoofjddhlodaaDoor
