/- Windows: whose a cycle is, as it is counted. -/
import Derived.Test.YtpnfjkkofdlndaaPlC
import Derived.Test.YtpnfjkkofdlndaaPlS
namespace Go.Proofs.Ytpnfjkkofdlndaa
open Go.Sx Go.RowKit
set_option linter.unusedVariables false
set_option linter.unusedSimpArgs false
/-- An answer that says the same. -/
theorem hdSame {P : Program} {W : Base} {B : List (Option (List At))} {Rs : List (Option Row)} {g : FuncId} {args : List SV} {res res' : SV} (H : CallOk P W B Rs g args (mkHd res []))
    (h : ∀ ρ v, (res.ren [] []).rep ρ v → (res'.ren [] []).rep ρ v) : CallOk P W B Rs g args (mkHd res' []) := by
  refine ⟨H.can, fun s' ρ w vs hm hR hB hk hr => Calls.mono (H.does s' ρ w vs hm hR hB hk hr) ?_⟩
  rintro e w' ⟨v, vals, he, hg, hn, hv⟩
  exact ⟨v, vals, he, hg, hn, fun n ρ' hle hs => h ρ' v (hv n ρ' hle hs)⟩
theorem hdV_of {P : Program} {W : Base} {B : List (Option (List At))} {Rs : List (Option Row)} {g : FuncId} {args : List SV} {b : Bool} (H : CallOk P W B Rs g args (hdB b)) : CallOk P W B Rs g args (hdV b) := hdSame H fun ρ v h => h
theorem hdB_of {P : Program} {W : Base} {B : List (Option (List At))} {Rs : List (Option Row)} {g : FuncId} {args : List SV} {b c : Bool} (H : CallOk P W B Rs g args (hdV b)) (e : b = c) : CallOk P W B Rs g args (hdB c) := by
  subst e
  exact hdSame H fun ρ v h => h
/-- The windows of a schedule that there is. -/
def winsOf (S : List RW) (sched : Int) : List Wn := (S.getD sched.toNat rw0).L
def thereB (P : List Pa) (F : Int) (S : List RW) (C : List Ch) (sched : Int) : Bool := chk P F S C == 0 && (decide (sched ≥ 0) && decide (sched < S.length))
/-- The cycle of the frame. -/
def cyN (F t : Int) : Int := t.tmod F
theorem cyN_ok {F t : Int} (hF : 1 ≤ F ∧ F ≤ 4096) (ht : 0 ≤ t ∧ t ≤ 18446744073709551615) : 0 ≤ cyN F t ∧ cyN F t < F ∧ IntKind.u64.wrap F = F ∧ IntKind.i64.wrap (cyN F t) = cyN F t := by
  have h1 : cyN F t = t % F := by unfold cyN; rw [Int.tmod_eq_emod_of_nonneg ht.1]
  have h2 := Int.emod_nonneg t (show F ≠ 0 by omega)
  have h3 := Int.emod_lt_of_pos t (show 0 < F by omega)
  exact ⟨by omega, by omega, wU64 (by omega) (by omega), wI (by omega) (by omega)⟩
/-- What a schedule that there is brings with it. -/
structure There (P : List Pa) (F : Int) (S : List RW) (C : List Ch) (i : Int) : Prop where
  c : chk P F S C = 0
  i0 : 0 ≤ i
  i1 : i.toNat < S.length
  i2 : i < S.length
  F1 : 1 ≤ F
  F2 : F ≤ 4096
  s3 : S.length ≤ 3
  p4 : P.length ≤ 4
  l8 : (S.getD i.toNat rw0).L.length ≤ 8
  sc : scanW P.length F 0 (S.getD i.toNat rw0).L = 0
  ws : ∀ w ∈ (S.getD i.toNat rw0).L, 0 ≤ w.p ∧ w.p < P.length ∧ 0 ≤ w.f ∧ 3 ≤ w.l ∧ w.f + w.l ≤ F
theorem There.of {P : List Pa} {F : Int} {S : List RW} {C : List Ch} {i : Int} (hb : thereB P F S C i = true) : There P F S C i := by
  simp only [thereB, Bool.and_eq_true, beq_iff_eq, decide_eq_true_eq] at hb
  obtain ⟨hchk, hi0, hi1⟩ := hb
  obtain ⟨hF1, hF2, hlP, hlS, hlW, hsS⟩ := chk_ok hchk
  have hlt : i.toNat < S.length := by omega
  have hm := getD_mem' (d := rw0) hlt
  have hsc := scanS_ok hsS _ hm
  exact ⟨hchk, hi0, hlt, hi1, hF1, hF2, hlS, hlP, hlW _ hm, hsc, fun w hw => by have := scanW_ok hsc w hw; omega⟩
/-- What is asked of a plan and a schedule, whatever they are. -/
def cycS (P : List Pa) (F : Int) (S : List RW) (C : List Ch) (i n : Int) : Int × Int := if thereB P F S C i = true then cyc n (winsOf S i) else (-1, 0)
def stS (P : List Pa) (F : Int) (S : List RW) (C : List Ch) (i t : Int) : Bool := thereB P F S C i && starts (cyN F t) (winsOf S i)
def frS (P : List Pa) (F : Int) (S : List RW) (C : List Ch) (i part n : Int) : Int := if thereB P F S C i = true then sumI part n (winsOf S i) else 0
def grS (P : List Pa) (F : Int) (S : List RW) (C : List Ch) (i part t : Int) : Int := if thereB P F S C i = true then t / F * sumI part F (winsOf S i) + sumI part (cyN F t) (winsOf S i) else 0
section
variable {part n : Int}
theorem ownI_nn {w : Wn} (h : 2 ≤ w.l) : 0 ≤ ownI w n := by unfold ownI; split <;> (try split) <;> omega
theorem sumI_nn : ∀ {L : List Wn}, (∀ w ∈ L, 3 ≤ w.l) → 0 ≤ sumI part n L
  | [], _ => Int.le_refl _
  | w :: l, h => by
    have h1 := sumI_nn (fun x hx => h x (List.mem_cons_of_mem _ hx))
    have h2 := ownI_nn (n := n) (w := w) (by have := h w (by simp); omega)
    simp only [sumI]
    split <;> omega
/-- No more is granted than there is. -/
theorem sumI_le {np F : Int} : ∀ {L : List Wn} {e : Int}, scanW np F e L = 0 → 0 ≤ e → e ≤ n → sumI part n L ≤ n - e
  | [], e, _, _, he => by simp only [sumI]; omega
  | w :: l, e, h, h0, he => by
    have hall := scanW_ok h
    rw [scanW] at h
    split at h
    · have hw := hall w (by simp)
      simp only [sumI]
      by_cases hn : w.f + w.l ≤ n
      · have h1 := sumI_le h (by omega) hn
        have h2 : ownI w n ≤ w.l := by unfold ownI; split <;> (try split) <;> omega
        split <;> omega
      · have hz : sumI part n l = 0 := by
          have : ∀ x ∈ l, n < x.f := fun x hx => by have := scanW_ok h x hx; omega
          exact (sumI_far this).2
        have h2 : ownI w n ≤ n - e := by unfold ownI; split <;> (try split) <;> omega
        rw [hz]
        split <;> omega
    · rename_i h0'; exact absurd h h0'
end
theorem div_ok {F t : Int} (hF : 1 ≤ F ∧ F ≤ 4096) (ht : 0 ≤ t ∧ t ≤ 18446744073709551615) : 0 ≤ t / F ∧ t / F ≤ 18446744073709551615 := by
  have h1 := Int.ediv_nonneg ht.1 (show 0 ≤ F by omega)
  have h2 := Int.ediv_le_self F ht.1
  exact ⟨h1, by omega⟩
/-- No wrap anywhere. -/
theorem grS_ok {P : List Pa} {F : Int} {S : List RW} {C : List Ch} {i part t : Int} (T : There P F S C i) (ht : 0 ≤ t ∧ t ≤ 18446744073709551615) :
    (0 ≤ sumI part F (winsOf S i) ∧ sumI part F (winsOf S i) ≤ F) ∧ (0 ≤ sumI part (cyN F t) (winsOf S i) ∧ sumI part (cyN F t) (winsOf S i) ≤ cyN F t) ∧ t / F * sumI part F (winsOf S i) + sumI part (cyN F t) (winsOf S i) ≤ t := by
  have tF := T.F1
  have hall : ∀ w ∈ (S.getD i.toNat rw0).L, 3 ≤ w.l := fun w hw => (T.ws w hw).2.2.2.1
  obtain ⟨c1, c2, _, _⟩ := cyN_ok (t := t) ⟨T.F1, T.F2⟩ ht
  have a1 := sumI_le (part := part) (n := F) T.sc (Int.le_refl 0) (by omega)
  have a2 := sumI_le (part := part) (n := cyN F t) T.sc (Int.le_refl 0) (by omega)
  have b1 := sumI_nn (part := part) (n := F) hall
  have b2 := sumI_nn (part := part) (n := cyN F t) hall
  have e : t = F * (t / F) + cyN F t := by
    have h1 : cyN F t = t % F := by unfold cyN; rw [Int.tmod_eq_emod_of_nonneg ht.1]
    rw [h1]; have := Int.mul_ediv_add_emod t F; omega
  have q := Int.ediv_nonneg ht.1 (show 0 ≤ F by omega)
  unfold winsOf
  refine ⟨⟨b1, by omega⟩, ⟨b2, by omega⟩, ?_⟩
  have m1 : t / F * sumI part F (S.getD i.toNat rw0).L ≤ t / F * F := Int.mul_le_mul_of_nonneg_left (by omega) q
  have m2 : t / F * F = F * (t / F) := Int.mul_comm _ _
  omega
end Go.Proofs.Ytpnfjkkofdlndaa
