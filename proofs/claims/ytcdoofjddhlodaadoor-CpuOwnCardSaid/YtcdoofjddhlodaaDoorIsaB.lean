/- isa.May: which instructions may be. -/
import Derived.Test.YtcdoofjddhlodaaDoorIsaA
namespace Go.Proofs.YtcdoofjddhlodaaDoor
open Go.RowKit

/-- The table's numbers. -/
def usesL : List Int := [0, 5, 5, 3, 3, 3, 3, 3, 3, 3, 3, 3, 3, 5, 7, 7, 7, 7, 4, 5, 1, 7, 7, 7, 0]
/-- The table lies in the world's block 0. -/
def UsesAt (w : World) : Prop := 0 < w.heap.size ∧ ∀ j, j < 25 → w.cell? ⟨0, j, none⟩ = some (.int .i64 (usesL.getD j 0))
theorem UsesAt.below {w w' : World} (h : UsesAt w) (hb : Below w.heap.size w w') : UsesAt w' :=
  ⟨Nat.lt_of_lt_of_le h.1 hb.size, fun j hj => (hb.cell h.1).trans (h.2 j hj)⟩

def mayIn (o a b i : Int) : Bool := insEq o a b i o (fitA (usesL.getD o.toNat 0) a) (fitB (usesL.getD o.toNat 0) b) (fitI (usesL.getD o.toNat 0) i)

set_option maxHeartbeats 400000 in
theorem may_in (o a b i : Int) (w : World) (h0 : 1 ≤ o) (h1 : o ≤ 24) (hT : UsesAt w) :
    Calls Tryd.prog 20 #[insV o a b i] w fun e w' => e = .returned (.bool (mayIn o a b i)) ∧ Below w.heap.size w w' := by
  have hz := hT.1
  have hc := hT.2 o.toNat (by omega)
  have heq := @eql_ins
  have HT := Lib.hid hT
  clear hT
  generalize hu : usesL.getD o.toNat 0 = u at hc
  have HU := Lib.hid hu
  clear hu
  go_enter Tryd.func20, Tryd.ntmps20
  go_wp2
  go_region_held3 (fun W => w.heap.size + 1 ≤ W.heap.size ∧ Below w.heap.size w W ∧ W.cell? ⟨0, o.toNat, none⟩ = some (.int .i64 u) ∧ W.cell? ⟨w.heap.size, 0, none⟩ = some (.int .i64 o) ∧ W.cell? ⟨w.heap.size, 1, none⟩ = some (.int .i64 a) ∧ W.cell? ⟨w.heap.size, 2, none⟩ = some (.int .i64 b) ∧ W.cell? ⟨w.heap.size, 3, none⟩ = some (.int .i64 i))
    ((refine ⟨?_, ?_, ?_, ?_, ?_, ?_, ?_⟩ <;> first | (go_keep; done) | exact ((Below.refl _ _).alloc (by simp) _).drew | (have := hb.size; omega) | exact k2.trans (hb.mono (by omega)) | exact (hb.cell (by simp <;> omega)).trans (by assumption)))
    ((first | (go_at_call 36; obtain ⟨k1, k2, k3, k4, k5, k6, k7⟩ : w.heap.size + 1 ≤ _ ∧ Below w.heap.size w _ ∧ _ := (by assumption); refine (fitted_any o a b i u _ (by omega) (by omega) (by omega) k3).mono ?_; rintro e w' ⟨rfl, hb⟩)))
  go_wp2
  go_ret
  obtain ⟨s1, s2, s3⟩ : w.heap.size + 1 ≤ _ ∧ Below w.heap.size w _ ∧ _ := (by assumption)
  exact ⟨by rw [mayIn, HU.out]; rfl, s2⟩

set_option maxHeartbeats 400000 in
theorem may_low (o a b i : Int) (w : World) (h0 : o < 1) :
    Calls Tryd.prog 20 #[insV o a b i] w fun e w' => e = .returned (.bool false) ∧ Below w.heap.size w w' := by
  have hd : decide ((1 : Int) ≤ o) = false := by simp; omega
  go_enter Tryd.func20, Tryd.ntmps20
  go_wp2
  go_quiet (fail)
  go_wp2
  go_ret
  exact ⟨rfl, below_drewN ((Below.refl _ _).alloc (Nat.le_refl _) _) _⟩

set_option maxHeartbeats 400000 in
theorem may_high (o a b i : Int) (w : World) (h0 : 24 < o) :
    Calls Tryd.prog 20 #[insV o a b i] w fun e w' => e = .returned (.bool false) ∧ Below w.heap.size w w' := by
  have hd : decide ((1 : Int) ≤ o) = true := by simp; omega
  have hd2 : decide (o ≤ 24) = false := by simp; omega
  go_enter Tryd.func20, Tryd.ntmps20
  go_wp2
  go_quiet (fail)
  go_wp2
  go_ret
  exact ⟨rfl, below_drewN ((Below.refl _ _).alloc (Nat.le_refl _) _) _⟩

def mayB (o a b i : Int) : Bool := decide (1 ≤ o) && (decide (o ≤ 24) && mayIn o a b i)

theorem may_any (o a b i : Int) (w : World) (hT : UsesAt w) :
    Calls Tryd.prog 20 #[insV o a b i] w fun e w' => e = .returned (.bool (mayB o a b i)) ∧ Below w.heap.size w w' := by
  by_cases h0 : o < 1
  · have : mayB o a b i = false := by simp [mayB]; omega
    rw [this]; exact may_low o a b i w h0
  · by_cases h1 : 24 < o
    · have : mayB o a b i = false := by simp [mayB]; omega
      rw [this]; exact may_high o a b i w h1
    · have : mayB o a b i = mayIn o a b i := by simp [mayB, show 1 ≤ o by omega, show o ≤ 24 by omega]
      rw [this]; exact may_in o a b i w (by omega) (by omega) hT
end Go.Proofs.YtcdoofjddhlodaaDoor
