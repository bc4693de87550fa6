/- Slices in memory whose block is bounded: kept behind stores elsewhere. -/
import Derived.Test.YtlhjlomfpgmdmaaRow
namespace Go.Proofs.Ytlhjlomfpgmdmaa
open Go.RowKit
set_option linter.unusedVariables false

/-- A slice that reads C, whose block, if it has one, is from lo on and below hi. -/
def SlI (w : World) (lo hi sz : Nat) (v : Value) (n : Nat) (C : List Value) : Prop := Sl w sz v n C ∧ hi ≤ w.heap.size ∧ (0 < n → ∀ k, v.ownBlock = some k → lo ≤ k ∧ k < hi)
section
variable {w w' : World} {lo hi sz n : Nat} {v : Value} {C : List Value}
theorem SlI.ex (h : ∃ lo hi, SlI w lo hi sz v n C) : Sl w sz v n C := by
  obtain ⟨_, _, h⟩ := h
  exact h.1
theorem SlI.of_own {base : Nat} {e : TypeId} (h : w.ownsRow base e sz v n C) : SlI w base w.heap.size sz v n C :=
  ⟨Sl.of_own h, Nat.le_refl _, fun _ k hk => h.lt k hk⟩
theorem SlI.of_sl (h : Sl w sz v n C) : SlI w 0 w.heap.size sz v n C := by
  refine ⟨h, Nat.le_refl _, fun h0 k hk => ?_⟩
  obtain ⟨_, A, cap, rfl, _, _, _, hx⟩ := h
  obtain ⟨b, o, rfl, hlt, _⟩ := hx h0
  simp [Value.ownBlock] at hk
  omega
theorem SlI.keep (h : SlI w lo hi sz v n C) (hs : w.heap.size ≤ w'.heap.size) (hk : ∀ k, lo ≤ k → k < hi → w'.heap[k]? = w.heap[k]?) : SlI w' lo hi sz v n C := by
  obtain ⟨⟨hl, A, cap, rfl, hc, hm, hn, hx⟩, hh, hb⟩ := h
  refine ⟨⟨hl, A, cap, rfl, hc, hm, hn, fun h0 => ?_⟩, Nat.le_trans hh hs, hb⟩
  obtain ⟨b, o, rfl, hlt, hcell⟩ := hx h0
  obtain ⟨h1, h2⟩ := hb h0 b rfl
  exact ⟨b, o, rfl, Nat.lt_of_lt_of_le hlt hs, fun j u hu => (World.cell?_of_block (a := ⟨b, o + j, none⟩) (hk b h1 h2)).trans (hcell j u hu)⟩
theorem SlI.setCell (h : SlI w lo hi sz v n C) {p : Addr} (hp : p.block < lo ∨ hi ≤ p.block) (u : Value) : SlI (w.setCell p u) lo hi sz v n C :=
  h.keep (by simp [World.setCell]) fun k h1 h2 => Below.heap_setCell w p u k (by omega)
theorem SlI.alloc (h : SlI w lo hi sz v n C) (o : Obj) : SlI (w.alloc o) lo hi sz v n C :=
  h.keep (by simp) fun k _ h2 => Below.heap_alloc w o k (Nat.lt_of_lt_of_le h2 h.2.1)
theorem SlI.drew (h : SlI w lo hi sz v n C) : SlI w.drew lo hi sz v n C := h.keep (Nat.le_refl _) fun _ _ _ => rfl
theorem SlI.drewN (h : SlI w lo hi sz v n C) (m : Nat) : SlI (w.drewN m) lo hi sz v n C := h.keep (Nat.le_refl _) fun _ _ _ => rfl
theorem SlI.below {B : Nat} (h : SlI w lo hi sz v n C) (hb : Below B w w') (hB : hi ≤ B) : SlI w' lo hi sz v n C := h.keep hb.size fun k _ h2 => hb.block k (Nat.lt_of_lt_of_le h2 hB)
end
end Go.Proofs.Ytlhjlomfpgmdmaa
