/- Take: what it gives; the row behind its first message. -/
import Derived.Test.YtecpnblhhjndgaaPorC
namespace Go.Proofs.Ytecpnblhhjndgaa
open Go.RowKit
set_option linter.unusedVariables false

/-- The result is a box with a row of these messages, a message, and a number. -/
def RetTake (L : List Msg) (l : Int) (x : Msg) (n : Int) (B : Nat) (w : World) (e : Ending) (w' : World) : Prop := ∃ A cap, e = .returned (.tuple #[boxV (.slice A L.length cap) l, msgV x.1 x.2, .int .i64 n]) ∧ OwnM w' B (.slice A L.length cap) L ∧ Below B w w'

theorem RowM.tail {w : World} {A : Option Addr} {cap : Nat} {L : List Msg} (h : RowM w (.slice A L.length cap) L) (h0 : 0 < L.length) :
    RowM w (.slice (if cap = 1 then A else Option.map (fun x => { block := x.block, off := x.off + 2 }) A) (L.length - 1) (cap - 1)) L.tail := by
  rcases Sl.open_ h with ⟨h1, _⟩ | ⟨_, b, o, cap', hv, hnc, hcm, hlt, hcell⟩
  · omega
  injection hv with e1 e2 e3
  subst e1 e3
  have hlen : (L.tail.flatMap msgC).length = (L.length - 1) * 2 := by rw [flat_len msgC_len, List.length_tail]
  unfold RowM
  rw [List.length_tail]
  by_cases hc : cap = 1
  · rw [if_pos hc]
    have hz : L.length - 1 = 0 := by omega
    have he : L.tail = [] := List.eq_nil_of_length_eq_zero (by rw [List.length_tail]; exact hz)
    rw [he, hz]
    exact Sl.bare w 2 ⟨b, o, none⟩ (cap - 1) (by omega)
  · rw [if_neg hc]
    refine Sl.at_ (b := b) (o := o + 2) hlt hlen (by omega) (by omega) fun j u hu => ?_
    have hj : (L.flatMap msgC)[2 + j]? = some u := by
      obtain ⟨x, L', rfl⟩ : ∃ x L', L = x :: L' := by cases L with | nil => simp at h0 | cons x L' => exact ⟨x, L', rfl⟩
      rw [List.flatMap_cons, List.getElem?_append_right (by rw [msgC_len]; omega), msgC_len]
      simpa using hu
    have := hcell _ u hj
    rwa [← Nat.add_assoc] at this

end Go.Proofs.Ytecpnblhhjndgaa
