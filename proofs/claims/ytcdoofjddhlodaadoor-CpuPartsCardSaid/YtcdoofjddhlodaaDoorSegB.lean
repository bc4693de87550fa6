/- seg.Load, Byte, Put, Store. -/
import Derived.Test.YtcdoofjddhlodaaDoorSegA
namespace Go.Proofs.YtcdoofjddhlodaaDoor
open Go.RowKit
set_option linter.unusedVariables false

def byteV (m : ByteArray) (k : Nat) : Int := ((m.data.toList.getD k 0).toNat : Int)
def wordV (m : ByteArray) (k : Nat) : Int := byteV m k + 256 * byteV m (k + 1) + 65536 * byteV m (k + 2) + 16777216 * byteV m (k + 3)
theorem byteV_bounds (m : ByteArray) (k : Nat) : 0 ≤ byteV m k ∧ byteV m k < 256 := by
  unfold byteV
  have := (m.data.toList.getD k 0).toNat_lt
  omega
def standsB (m : ByteArray) (a : Int) : Bool := decide (a % 4 = 0 ∧ a + 4 ≤ (m.size : Int))

set_option maxHeartbeats 400000 in
theorem load_no (m : ByteArray) (a : Int) (w : World) (h0 : 0 ≤ a) (h1 : a < 4294967296) (hm : m.size ≤ 140737488351232) (hs : standsB m a = false) :
    Calls Tryd.prog 26 #[.string m, .int .u32 a] w fun e w' => e = .returned (.tuple #[.int .u32 0, .int .i64 10]) ∧ w = w' := by
  go_enter Tryd.func26, Tryd.ntmps26
  go_wp2_with fail
  refine (stands_any _ _ _ h0 h1 hm).mono ?_
  rintro e w' ⟨rfl, rfl⟩
  rw [show decide (a % 4 = 0 ∧ a + 4 ≤ (m.size : Int)) = false from hs]
  go_wp2
  go_ret2
  exact ⟨rfl, rfl⟩

/-- 'copy(dst, s)', s a text that may be longer than dst: its first bytes go over. -/
theorem run_copy_string_min {P : Program} (w : World) (dT sT ty elem : TypeId) (b o dLen dCap : Nat) (t : ByteArray)
    (hu : P.underlying dT = some (.slice elem)) (hz : ∀ w, (Go.sizeOf elem).run P w = .ok 1 w) (hle : dLen ≤ t.size)
    (hc : ∀ j, j < dLen → (w.cell? ⟨b, o + j, none⟩).isSome = true) (hf : ∀ j, j < dLen → w.frozen? ⟨b, o + j, none⟩ = false) :
    (Builtin.copy_ #[dT, sT] ty #[.slice (some ⟨b, o, none⟩) dLen dCap, .string t]).run P w = .ok (goInt dLen) (w.setCells b o ((t.data.toList.take dLen).map fun x => Value.int .u8 (x.toNat : Int))) := by
  have hmin : Nat.min t.size dLen = dLen := Nat.min_eq_right hle
  have hl : ((t.data.toList.take dLen).map fun x => Value.int .u8 (x.toNat : Int)).length = dLen := by rw [List.length_map, List.length_take, ← Lib.size_eq]; omega
  have hst := run_storeCells_cells (P := P) b o ((t.data.toList.take dLen).map fun x => Value.int .u8 (x.toNat : Int)) 0 w (by rw [hl]; simpa using hc) (by rw [hl]; simpa using hf) (by
    intro v hv
    obtain ⟨x, _, rfl⟩ := List.mem_map.1 hv
    rfl)
  simp [Builtin.copy_, run_underlying hu, Builtin.lenOf, Builtin.firstCells, hz, hmin]
  simp only [Nat.add_zero, List.map_take] at hst
  rw [hst]
  rfl

theorem byteV_at (m : ByteArray) (k : Nat) (h : k < m.data.toList.length) : byteV m k = (m.data.toList[k].toNat : Int) := by
  unfold byteV
  rw [List.getD_eq_getElem?_getD, List.getElem?_eq_getElem h]; rfl
theorem extract_four (m : ByteArray) (a : Nat) (h5 : a + 4 ≤ m.size) : ((m.extract a m.size).data.toList.take 4).map (fun x => Value.int .u8 (x.toNat : Int)) = [.int .u8 (byteV m a), .int .u8 (byteV m (a + 1)), .int .u8 (byteV m (a + 2)), .int .u8 (byteV m (a + 3))] := by
  have hl : m.data.toList.length = m.size := (Lib.size_eq m).symm
  rw [Lib.extract_data, List.take_take, show min 4 (m.size - a) = 4 by omega]
  rw [List.drop_eq_getElem_cons (by omega : a < m.data.toList.length), List.drop_eq_getElem_cons (by omega : a + 1 < m.data.toList.length), List.drop_eq_getElem_cons (by omega : a + 1 + 1 < m.data.toList.length), List.drop_eq_getElem_cons (by omega : a + 1 + 1 + 1 < m.data.toList.length)]
  rw [byteV_at m a (by omega), byteV_at m (a + 1) (by omega), byteV_at m (a + 2) (by omega), byteV_at m (a + 3) (by omega)]
  rfl

theorem word_or {b0 b1 b2 b3 : Int} (h0 : 0 ≤ b0 ∧ b0 < 256) (h1 : 0 ≤ b1 ∧ b1 < 256) (h2 : 0 ≤ b2 ∧ b2 < 256) (h3 : 0 ≤ b3 ∧ b3 < 256) :
    bits BinOp.or IntKind.u32 (bits BinOp.or IntKind.u32 (bits BinOp.or IntKind.u32 b0 (b1 * 256)) (b2 * 65536)) (b3 * 16777216) = b0 + 256 * b1 + 65536 * b2 + 16777216 * b3 := by
  have comm : ∀ x y : Int, 0 ≤ x → x < 2 ^ 32 → 0 ≤ y → y < 2 ^ 32 → bits BinOp.or IntKind.u32 x y = bits BinOp.or IntKind.u32 y x := fun x y hx hx' hy hy' => by
    obtain ⟨a, rfl⟩ := Int.eq_ofNat_of_zero_le hx
    obtain ⟨b, rfl⟩ := Int.eq_ofNat_of_zero_le hy
    rw [(bits_nat .u32 32 (by decide) wraps_u32 a b (by omega) (by omega)).2, (bits_nat .u32 32 (by decide) wraps_u32 b a (by omega) (by omega)).2, Nat.or_comm]
  rw [comm b0 (b1 * 256) (by omega) (by omega) (by omega) (by omega), bits_join .u32 32 (by decide) wraps_u32 8 (b1 * 256) b0 (by omega) (by omega) (by omega) (by omega) (by omega) (by omega)]
  rw [comm _ (b2 * 65536) (by omega) (by omega) (by omega) (by omega), bits_join .u32 32 (by decide) wraps_u32 16 (b2 * 65536) _ (by omega) (by omega) (by omega) (by omega) (by omega) (by omega)]
  rw [comm _ (b3 * 16777216) (by omega) (by omega) (by omega) (by omega), bits_join .u32 32 (by decide) wraps_u32 24 (b3 * 16777216) _ (by omega) (by omega) (by omega) (by omega) (by omega) (by omega)]
  omega

set_option maxHeartbeats 400000 in
theorem load_yes (m : ByteArray) (a : Nat) (w : World) (h1 : (a : Int) < 4294967296) (hm : m.size ≤ 140737488351232) (h4 : a % 4 = 0) (h5 : a + 4 ≤ m.size) :
    Calls Tryd.prog 26 #[.string m, .int .u32 a] w fun e w' => e = .returned (.tuple #[.int .u32 (wordV m a), .int .i64 0]) ∧ Below w.heap.size w w' := by
  go_enter Tryd.func26, Tryd.ntmps26
  go_wp2_with fail
  refine (stands_any _ _ _ (by omega) h1 hm).mono ?_
  rintro e w' ⟨rfl, rfl⟩
  rw [show decide ((a : Int) % 4 = 0 ∧ (a : Int) + 4 ≤ (m.size : Int)) = true by simp; omega]
  have h6 : a ≤ m.size := by omega
  have hz : ∀ w, (Go.sizeOf 5).run Tryd.prog w = .ok 1 w := fun w => by kernel_rfl
  have hcopy : (Builtin.copy_ #[62, 9] 3 #[.slice (some ⟨w.heap.size, 0, none⟩) 4 4, .string (m.extract a m.size)]).run Tryd.prog (w.alloc (.cells #[.int .u8 0, .int .u8 0, .int .u8 0, .int .u8 0] 69)).drew =
      .ok (goInt 4) (w.alloc (.cells #[.int .u8 (byteV m a), .int .u8 (byteV m (a + 1)), .int .u8 (byteV m (a + 2)), .int .u8 (byteV m (a + 3))] 69)).drew := by
    rw [run_copy_string_min _ _ _ _ 5 _ _ _ _ _ Tryd.underlying62 hz (by simp; omega) (fun j hj => by match j, hj with | 0, _ => simp | 1, _ => simp | 2, _ => simp | 3, _ => simp) (fun j hj => by match j, hj with | 0, _ => simp | 1, _ => simp | 2, _ => simp | 3, _ => simp), extract_four m a h5]
    congr 1
    simp [World.setCells, World.setCell_drew, World.setCell_alloc_at]
  clear hz
  obtain ⟨p0, q0⟩ := byteV_bounds m a
  obtain ⟨p1, q1⟩ := byteV_bounds m (a + 1)
  obtain ⟨p2, q2⟩ := byteV_bounds m (a + 2)
  obtain ⟨p3, q3⟩ := byteV_bounds m (a + 3)
  go_wp2
  go_region
  all_goals go_wp2
  all_goals go_ret2
  all_goals refine ⟨ret2 (int_eq ?_) rfl, ?_⟩
  · exact word_or ⟨p0, q0⟩ ⟨p1, q1⟩ ⟨p2, q2⟩ ⟨p3, q3⟩
  · exact ((Below.refl _ _).alloc (Nat.le_refl _) _).drew

set_option maxHeartbeats 400000 in
theorem byte_any (m : ByteArray) (a : Nat) (w : World) (h1 : (a : Int) < 4294967296) (hm : m.size ≤ 140737488351232) :
    Calls Tryd.prog 42 #[.string m, .int .u32 a] w fun e w' => e = .returned (if a < m.size then .tuple #[.int .u32 (byteV m a), .int .i64 0] else .tuple #[.int .u32 0, .int .i64 10]) ∧ w = w' := by
  by_cases hs : a < m.size
  · have hd : decide ((a : Int) + 1 ≤ (m.size : Int)) = true := by simp; omega
    have hb : m.data.toList.getD a 0 = m[a] := by simp [List.getD_eq_getElem?_getD, hs]; rfl
    have HB : Hid (byteV m a = (m[a].toNat : Int)) := by show byteV m a = _; unfold byteV; rw [hb]
    clear hb
    rw [if_pos hs]
    go_enter Tryd.func42, Tryd.ntmps42
    go_wp2_with ((go_at_call 46; refine (has_any _ _ _ _ (by omega) (by omega) (by omega) (by omega) (by omega)).mono ?_; rintro e w' ⟨rfl, rfl⟩))
    all_goals go_ret2
    all_goals refine ⟨ret2 (int_eq ?_) rfl, rfl⟩
    all_goals (rw [HB.out]; have := m[a].toNat_lt; omega)
  · have hd : decide ((a : Int) + 1 ≤ (m.size : Int)) = false := by simp; omega
    rw [if_neg hs]
    go_enter Tryd.func42, Tryd.ntmps42
    go_wp2_with ((go_at_call 46; refine (has_any _ _ _ _ (by omega) (by omega) (by omega) (by omega) (by omega)).mono ?_; rintro e w' ⟨rfl, rfl⟩))
    all_goals go_ret2
    all_goals exact ⟨rfl, rfl⟩

def byteI (v : Int) : UInt8 := UInt8.ofNat (v % 256).toNat
def wordB (v : Int) : ByteArray := ⟨#[byteI v, byteI (v / 256), byteI (v / 65536), byteI (v / 16777216)]⟩
theorem byteI_toNat (v : Int) : ((byteI v).toNat : Int) = v % 256 := by
  unfold byteI
  simp
  omega

theorem wordB_list (v : Int) : (wordB v).data.toList = [byteI v, byteI (v / 256), byteI (v / 65536), byteI (v / 16777216)] := rfl
theorem back_word (v : Int) (w : World) (t : TypeId) (h0 : 0 ≤ v) (h1 : v < 4294967296) : (convert 62 9 (.slice (some ⟨w.heap.size, 0, none⟩) 4 4)).run Tryd.prog (w.alloc (.cells #[.int .u8 (v % 256), .int .u8 (v / 256 % 256), .int .u8 (v / 65536 % 256), .int .u8 (v / 16777216)] t)) =
    .ok (.string (wordB v)) (w.alloc (.cells #[.int .u8 (v % 256), .int .u8 (v / 256 % 256), .int .u8 (v / 65536 % 256), .int .u8 (v / 16777216)] t)) := by
  have h := run_convert_bytes_back (P := Tryd.prog) (w.alloc (.cells #[.int .u8 (v % 256), .int .u8 (v / 256 % 256), .int .u8 (v / 65536 % 256), .int .u8 (v / 16777216)] t)) 62 9 5 ⟨w.heap.size, 0, none⟩ 4 (wordB v).data.toList Tryd.underlying62 Tryd.underlying5 Tryd.underlying9 (fun j hj => by
    simp only [wordB_list, List.length_cons, List.length_nil] at hj
    match j, hj with
    | 0, _ => simp [Addr.add, wordB, byteI_toNat]
    | 1, _ => simp [Addr.add, wordB, byteI_toNat]
    | 2, _ => simp [Addr.add, wordB, byteI_toNat]
    | 3, _ => simp [Addr.add, wordB, byteI_toNat]; omega)
  exact h
theorem back_byte (v : Int) (w : World) (t : TypeId) : (convert 62 9 (.slice (some ⟨w.heap.size, 0, none⟩) 1 1)).run Tryd.prog (w.alloc (.cells #[.int .u8 (v % 256)] t)) =
    .ok (.string ⟨#[byteI v]⟩) (w.alloc (.cells #[.int .u8 (v % 256)] t)) := by
  have h := run_convert_bytes_back (P := Tryd.prog) (w.alloc (.cells #[.int .u8 (v % 256)] t)) 62 9 5 ⟨w.heap.size, 0, none⟩ 1 [byteI v] Tryd.underlying62 Tryd.underlying5 Tryd.underlying9 (fun j hj => by
    simp only [List.length_cons, List.length_nil] at hj
    match j, hj with
    | 0, _ => simp [Addr.add, byteI_toNat])
  exact h
theorem wordB_size (v : Int) : (wordB v).size = 4 := rfl
theorem byteB_size (v : Int) : (⟨#[byteI v]⟩ : ByteArray).size = 1 := rfl

set_option maxHeartbeats 400000 in
theorem store_no (m : ByteArray) (a v : Int) (w : World) (h0 : 0 ≤ a) (h1 : a < 4294967296) (hm : m.size ≤ 140737488351232) (hs : standsB m a = false) :
    Calls Tryd.prog 43 #[.string m, .int .u32 a, .int .u32 v] w fun e w' => e = .returned (.tuple #[.string m, .int .i64 10]) ∧ w = w' := by
  go_enter Tryd.func43, Tryd.ntmps43
  go_wp2_with fail
  refine (stands_any _ _ _ h0 h1 hm).mono ?_
  rintro e w' ⟨rfl, rfl⟩
  rw [show decide (a % 4 = 0 ∧ a + 4 ≤ (m.size : Int)) = false from hs]
  go_wp2
  go_ret2
  exact ⟨rfl, rfl⟩

set_option maxHeartbeats 400000 in
theorem store_yes (m : ByteArray) (a : Nat) (v : Int) (w : World) (h1 : (a : Int) < 4294967296) (hv0 : 0 ≤ v) (hv1 : v < 4294967296) (hm : m.size ≤ 140737488351232) (h4 : a % 4 = 0) (h5 : a + 4 ≤ m.size) :
    Calls Tryd.prog 43 #[.string m, .int .u32 a, .int .u32 v] w fun e w' => e = .returned (.tuple #[.string (splB m a (wordB v)), .int .i64 0]) ∧ Below w.heap.size w w' := by
  have hbk := back_word v w 69 hv0 hv1
  go_enter Tryd.func43, Tryd.ntmps43
  go_wp2_with fail
  refine (stands_any _ _ _ (by omega) h1 hm).mono ?_
  rintro e w' ⟨rfl, rfl⟩
  rw [show decide ((a : Int) % 4 = 0 ∧ (a : Int) + 4 ≤ (m.size : Int)) = true by simp; omega]
  go_wp2_with fail
  refine (laid_any _ _ _ _ (by rw [wordB_size]; omega) (by omega) (by omega)).mono ?_
  rintro e w' ⟨rfl, hb⟩
  go_wp2
  go_ret2
  exact ⟨rfl, ((Below.refl _ _).alloc (Nat.le_refl _) _).trans (hb.mono (by simp))⟩

set_option maxHeartbeats 400000 in
theorem put_any (m : ByteArray) (a : Nat) (v : Int) (w : World) (h1 : (a : Int) < 4294967296) (hv0 : 0 ≤ v) (hv1 : v < 4294967296) (hm : m.size ≤ 140737488351232) :
    Calls Tryd.prog 44 #[.string m, .int .u32 a, .int .u32 v] w fun e w' => e = .returned (if a < m.size then .tuple #[.string (splB m a ⟨#[byteI v]⟩), .int .i64 0] else .tuple #[.string m, .int .i64 10]) ∧ Below w.heap.size w w' := by
  by_cases hs : a < m.size
  · have hd : decide ((a : Int) + 1 ≤ (m.size : Int)) = true := by simp; omega
    rw [if_pos hs]
    have hbk := back_byte v w 78
    go_enter Tryd.func44, Tryd.ntmps44
    go_wp2_with fail
    refine (has_any _ _ _ _ (by omega) (by omega) (by omega) (by omega) (by omega)).mono ?_
    rintro e w' ⟨rfl, rfl⟩
    go_wp2_with fail
    refine (laid_any _ _ _ _ (by rw [byteB_size]; omega) (by omega) (by omega)).mono ?_
    rintro e w' ⟨rfl, hb⟩
    go_wp2
    go_ret2
    exact ⟨rfl, ((Below.refl _ _).alloc (Nat.le_refl _) _).trans (hb.mono (by simp))⟩
  · have hd : decide ((a : Int) + 1 ≤ (m.size : Int)) = false := by simp; omega
    rw [if_neg hs]
    go_enter Tryd.func44, Tryd.ntmps44
    go_wp2_with ((go_at_call 46; refine (has_any _ _ _ _ (by omega) (by omega) (by omega) (by omega) (by omega)).mono ?_; rintro e w' ⟨rfl, rfl⟩))
    all_goals go_ret2
    all_goals exact ⟨rfl, Below.refl _ _⟩

end Go.Proofs.YtcdoofjddhlodaaDoor
