/- isa.Word, isa.Take, and the document's: their answers as plain numbers. -/
import Derived.Test.YtnpgfjkenjldlaaDoorIsaD1
namespace Go.Proofs.YtnpgfjkenjldlaaDoor
open Go.RowKit
set_option linter.unusedVariables false

def wordN (o a b i : Int) : Int := o * 16777216 + a * 1048576 + b * 65536 + i % 65536

theorem and65535 (x : Int) : bits .and .u32 x 65535 = x % 65536 := bits_low .u32 16 (by decide) (fun n h h' => by rw [IntKind.wrap_u32]; omega) x
theorem word_bits {o a b i : Int} (h : 1 ≤ o ∧ o ≤ 24 ∧ 0 ≤ a ∧ a ≤ 7 ∧ 0 ≤ b ∧ b ≤ 7 ∧ -32768 ≤ i ∧ i ≤ 32767) :
    bits BinOp.or IntKind.u32 (bits BinOp.or IntKind.u32 (bits BinOp.or IntKind.u32 (o % 4294967296 * 16777216 % 4294967296) (a % 4294967296 * 1048576 % 4294967296)) (b % 4294967296 * 65536 % 4294967296)) (bits BinOp.and IntKind.u32 (i % 4294967296) 65535) = wordN o a b i := by
  obtain ⟨h1, h2, h3, h4, h5, h6, h7, h8⟩ := h
  rw [and65535, show o % 4294967296 * 16777216 % 4294967296 = o * 16777216 by omega, show a % 4294967296 * 1048576 % 4294967296 = a * 1048576 by omega, show b % 4294967296 * 65536 % 4294967296 = b * 65536 by omega]
  rw [bits_join .u32 32 (by decide) wraps_u32 24 (o * 16777216) (a * 1048576) (by omega) (by omega) (by omega) (by omega) (by omega) (by omega)]
  rw [bits_join .u32 32 (by decide) wraps_u32 20 (o * 16777216 + a * 1048576) (b * 65536) (by omega) (by omega) (by omega) (by omega) (by omega) (by omega)]
  rw [bits_join .u32 32 (by decide) wraps_u32 16 (o * 16777216 + a * 1048576 + b * 65536) _ (by omega) (by omega) (by omega) (by omega) (by omega) (by omega)]
  unfold wordN
  omega

set_option maxHeartbeats 400000 in
theorem word_no (o a b i : Int) (w : World) (hT : UsesAt w) (hm : rMay o a b i = false) :
    Calls Tryd.prog 12 #[insV o a b i] w fun e w' => e = .returned (.tuple #[.int .u32 0, .int .i64 1]) ∧ Below w.heap.size w w' := by
  have HM := Lib.hid hm
  clear hm
  have H1 := Lib.hid (fun x : Value => hT.below (w' := w.alloc (.cells #[.int .i64 o, .int .i64 a, .int .i64 b, .int .i64 i] 23)) ((Below.refl _ _).alloc (Nat.le_refl _) _))
  clear hT
  go_enter Tryd.func12, Tryd.ntmps12
  go_wp2_with fail
  refine (may_any _ _ _ _ _ (H1.out undef)).mono ?_
  rintro e w' ⟨rfl, hb⟩
  rw [may_eq, HM.out]
  go_wp2
  go_ret2
  exact ⟨rfl, ((Below.refl _ _).alloc (Nat.le_refl _) _).trans (hb.mono (by simp))⟩

set_option maxHeartbeats 400000 in
theorem word_yes (o a b i : Int) (w : World) (hT : UsesAt w) (hm : rMay o a b i = true) :
    Calls Tryd.prog 12 #[insV o a b i] w fun e w' => e = .returned (.tuple #[.int .u32 (wordN o a b i), .int .i64 0]) ∧ Below w.heap.size w w' := by
  have HB := Lib.hid (word_bits (may_range hm))
  have HM := Lib.hid hm
  clear hm
  have H1 := Lib.hid (fun x : Value => hT.below (w' := w.alloc (.cells #[.int .i64 o, .int .i64 a, .int .i64 b, .int .i64 i] 23)) ((Below.refl _ _).alloc (Nat.le_refl _) _))
  clear hT
  go_enter Tryd.func12, Tryd.ntmps12
  go_wp2_with fail
  refine (may_any _ _ _ _ _ (H1.out undef)).mono ?_
  rintro e w' ⟨rfl, hb⟩
  rw [may_eq, HM.out]
  have c0 : w'.cell? ⟨w.heap.size, 0, none⟩ = some (.int .i64 o) := (hb.cell (by simp)).trans (by simp)
  have c1 : w'.cell? ⟨w.heap.size, 1, none⟩ = some (.int .i64 a) := (hb.cell (by simp)).trans (by simp)
  have c2 : w'.cell? ⟨w.heap.size, 2, none⟩ = some (.int .i64 b) := (hb.cell (by simp)).trans (by simp)
  have c3 : w'.cell? ⟨w.heap.size, 3, none⟩ = some (.int .i64 i) := (hb.cell (by simp)).trans (by simp)
  go_wp2
  go_ret2
  refine ⟨ret2 (int_eq ?_) rfl, ((Below.refl _ _).alloc (Nat.le_refl _) _).trans (hb.mono (by simp))⟩
  rw [← HB.out]

set_option maxHeartbeats 400000 in
theorem rWord_no (o a b i : Int) (w : World) (hm : rMay o a b i = false) :
    Calls Tryd.prog 13 #[insV o a b i] w fun e w' => e = .returned (.tuple #[.int .u32 0, .int .i64 1]) ∧ Below w.heap.size w w' := by
  have HM := Lib.hid hm
  clear hm
  go_enter Tryd.func13, Tryd.ntmps13
  go_wp2_with fail
  refine (rMay_any _ _ _ _ _).mono ?_
  rintro e w' ⟨rfl, hb⟩
  rw [HM.out]
  go_wp2
  go_ret2
  exact ⟨rfl, ((Below.refl _ _).alloc (Nat.le_refl _) _).trans (hb.mono (by simp))⟩

set_option maxHeartbeats 400000 in
theorem rWord_yes (o a b i : Int) (w : World) (hm : rMay o a b i = true) :
    Calls Tryd.prog 13 #[insV o a b i] w fun e w' => e = .returned (.tuple #[.int .u32 (wordN o a b i), .int .i64 0]) ∧ Below w.heap.size w w' := by
  obtain ⟨h1, h2, h3, h4, h5, h6, h7, h8⟩ := may_range hm
  have HM := Lib.hid hm
  clear hm
  go_enter Tryd.func13, Tryd.ntmps13
  go_wp2_with fail
  refine (rMay_any _ _ _ _ _).mono ?_
  rintro e w' ⟨rfl, hb⟩
  rw [HM.out]
  have c0 : w'.cell? ⟨w.heap.size, 0, none⟩ = some (.int .i64 o) := (hb.cell (by simp)).trans (by simp)
  have c1 : w'.cell? ⟨w.heap.size, 1, none⟩ = some (.int .i64 a) := (hb.cell (by simp)).trans (by simp)
  have c2 : w'.cell? ⟨w.heap.size, 2, none⟩ = some (.int .i64 b) := (hb.cell (by simp)).trans (by simp)
  have c3 : w'.cell? ⟨w.heap.size, 3, none⟩ = some (.int .i64 i) := (hb.cell (by simp)).trans (by simp)
  go_wp2
  all_goals go_ret2
  all_goals refine ⟨ret2 (int_eq ?_) rfl, ((Below.refl _ _).alloc (Nat.le_refl _) _).trans (hb.mono (by simp))⟩
  all_goals simp [wordN]
  all_goals omega

end Go.Proofs.YtnpgfjkenjldlaaDoor
