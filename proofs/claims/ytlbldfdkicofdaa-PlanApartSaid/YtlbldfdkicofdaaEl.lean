/- Plans. -/
import Derived.Test.YtlbldfdkicofdaaSxZ
import Derived.Test.YtlbldfdkicofdaaSxT
namespace Go.Proofs.Ytlbldfdkicofdaa
open Go.Sx Go.RowKit
set_option linter.unusedVariables false
set_option linter.unusedSimpArgs false
theorem mx : Try.prog.follows .mixedOrders = true := Try.checked.mixed
/-- A partition, a window, a channel. -/
structure Pa where
  m : Int
  a : Int
  b : Int
  c : Int
structure Wn where
  p : Int
  f : Int
  l : Int
structure Ch where
  k : Int
  f : Int
  t : Int
  s : Int
  d : Int
abbrev aI (x : Int) : At := .v (.int .i64 x)
abbrev paC (x : Pa) : List At := [aI x.m, aI x.a, aI x.b, aI x.c]
def paG (x : Pa) : List Value := [.int .i64 x.m, .int .i64 x.a, .int .i64 x.b, .int .i64 x.c]
abbrev wnC (x : Wn) : List At := [aI x.p, aI x.f, aI x.l]
abbrev wnG (x : Wn) : List Value := [.int .i64 x.p, .int .i64 x.f, .int .i64 x.l]
abbrev chC (x : Ch) : List At := [aI x.k, aI x.f, aI x.t, aI x.s, aI x.d]
def chG (x : Ch) : List Value := [.int .i64 x.k, .int .i64 x.f, .int .i64 x.t, .int .i64 x.s, .int .i64 x.d]
abbrev pa0 : Pa := ⟨0, 0, 0, 0⟩
abbrev wn0 : Wn := ⟨0, 0, 0⟩
abbrev ch0 : Ch := ⟨0, 0, 0, 0, 0⟩
theorem paDen (ρ : Env) (x : Pa) : dens ρ (paC x) = some (paG x) := rfl
theorem wnDen (ρ : Env) (x : Wn) : dens ρ (wnC x) = some (wnG x) := rfl
theorem chDen (ρ : Env) (x : Ch) : dens ρ (chC x) = some (chG x) := rfl
abbrev RW := RV Wn
abbrev rw0 : RW := ⟨.slice none 0 0, []⟩
abbrev rwA (r : RW) : At := .ro r.c 3 r.L.length (fun i => wnG (r.L.getD i wn0))
abbrev rwV (r : RW) : SV := .cv (.one (rwA r))
abbrev rowPa (L : List Pa) : Row := rowL 4 paC pa0 L
abbrev rowCh (L : List Ch) : Row := rowL 5 chC ch0 L
abbrev rowWs (L : List RW) : Row := rowL 1 (fun r => [rwA r]) rw0 L
abbrev paV (x : Pa) : SV := .cv (.agg (paC x))
abbrev wnV (x : Wn) : SV := .cv (.agg (wnC x))
abbrev chV (x : Ch) : SV := .cv (.agg (chC x))
abbrev planV (a : Nat) (F : Int) (b c : Nat) : SV := .cv (.agg [.rs a, aI F, .rs b, .rs c])
abbrev rsV (r : Nat) : SV := .cv (.one (.rs r))
abbrev bpV (i : Nat) : SV := .cv (.one (.pt (.bp i 0)))
abbrev trueV : SV := .cv (.one (.lb true))
abbrev intV (x : Int) : SV := .cv (.one (.v (.int .i64 x)))
abbrev u64V (x : Int) : SV := .cv (.one (.v (.int .u64 x)))
abbrev hdB (b : Bool) : Hd := mkHd (.cv (.one (.lb b))) []
abbrev hdV (b : Bool) : Hd := mkHd (.cv (.one (.v (.bool b)))) []
abbrev hdInt (n : Int) : Hd := mkHd (intV n) []
abbrev hdU (n : Int) : Hd := mkHd (u64V n) []
theorem upto_succ {A : Nat → Prop} {k : Nat} (h : ∀ j, j < k → A j) (hk : A k) : ∀ j, j < k + 1 → A j := fun j hj => by
  rcases Nat.lt_or_ge j k with h' | h'
  · exact h j h'
  · rw [show j = k by omega]; exact hk
/-- What is wrong, as the document says. -/
def badPa (x : Pa) : Bool := decide (x.m < 64) || (decide (x.m > 1024) || (x.m.tmod 4 != 0 || (decide (x.a < 1) || (decide (x.a > 3) || (decide (x.b < 1) || (decide (x.b > 3) || (decide (x.c < 1) || decide (x.c > 3))))))))
def winE (np F : Int) (w : Wn) (e : Int) : Int := if w.p < 0 ∨ w.p ≥ np ∨ w.f < 0 ∨ w.l ≤ 2 ∨ w.l > F - w.f then 1 else if w.f < e then 9 else 0
def scanW (np F : Int) : Int → List Wn → Int
  | _, [] => 0
  | e, w :: l => if winE np F w e = 0 then scanW np F (w.f + w.l) l else winE np F w e
def scanS (np F : Int) : List RW → Int
  | [] => 0
  | r :: l => if scanW np F 0 r.L = 0 then scanS np F l else scanW np F 0 r.L
def badCh (np : Int) (c : Ch) : Bool := (c.k != 1 && c.k != 2) || (decide (c.f < 0) || (decide (c.f ≥ np) || (decide (c.t < 0) || (decide (c.t ≥ np) || (c.f == c.t || (decide (c.s < 1) || (decide (c.s > 32) || (decide (c.d < 1) || (decide (c.d > 8) || (c.k == 1 && c.d != 1))))))))))
def tooB (P : List Pa) (S : List RW) (C : List Ch) : Bool := decide ((P.length : Int) > 4) || (decide ((S.length : Int) > 3) || (decide ((C.length : Int) > 6) || S.any (fun r : RW => decide ((r.L.length : Int) > 8))))
def chk (P : List Pa) (F : Int) (S : List RW) (C : List Ch) : Int :=
  if tooB P S C = true then 4
  else if P.length = 0 ∨ S.length = 0 then 1
  else if P.any badPa = true then 1
  else if F < 1 ∨ F > 4096 then 1
  else if scanS P.length F S = 0 then (if C.any (badCh P.length) = true then 1 else 0) else scanS P.length F S
theorem winE_zero {np F e : Int} {w : Wn} (h : winE np F w e = 0) : 0 ≤ w.p ∧ w.p < np ∧ 0 ≤ w.f ∧ 3 ≤ w.l ∧ w.l ≤ F - w.f ∧ e ≤ w.f := by
  unfold winE at h
  split at h
  · omega
  · split at h <;> omega
theorem too_le {P : List Pa} {S : List RW} {C : List Ch} (h : tooB P S C = false) : P.length ≤ 4 ∧ S.length ≤ 3 ∧ C.length ≤ 6 ∧ ∀ r ∈ S, r.L.length ≤ 8 := by
  simp only [tooB, Bool.or_eq_false_iff, decide_eq_false_iff_not, List.any_eq_false, decide_eq_true_eq] at h
  refine ⟨by omega, by omega, by omega, fun r hr => ?_⟩
  have := h.2.2.2 r hr
  omega
/-- What comes in lies within its kind. -/
def okWn (w : Wn) : Prop := w.f ≤ 9223372036854775807
def okS (S : List RW) : Prop := ∀ r ∈ S, ∀ w ∈ r.L, okWn w
/-- Where the first one is of which p says so. -/
def ixG {α : Type} (p : α → Bool) : List α → Int
  | [] => -1
  | x :: l => if p x = true then 0 else if ixG p l < 0 then -1 else ixG p l + 1
theorem ixG_at {α : Type} {p : α → Bool} {d : α} : ∀ {L : List α} {k : Nat}, k < L.length → p (L.getD k d) = true → (∀ j, j < k → p (L.getD j d) = false) → ixG p L = k
  | [], k, h, _, _ => by simp at h
  | x :: l, 0, h, hp, hb => by simp at hp; simp [ixG, hp]
  | x :: l, k + 1, h, hp, hb => by
    have h0 := hb 0 (by omega)
    simp at h0
    have h1 := ixG_at (p := p) (d := d) (L := l) (k := k) (by simpa using h) (by simpa using hp) (fun j hj => by simpa using hb (j + 1) (by omega))
    simp only [ixG, h0, h1]
    simp
    omega
theorem ixG_none {α : Type} {p : α → Bool} {d : α} : ∀ {L : List α} {k : Nat}, L.length ≤ k → (∀ j, j < k → p (L.getD j d) = false) → ixG p L = -1
  | [], k, _, _ => rfl
  | x :: l, 0, h, _ => by simp at h
  | x :: l, k + 1, h, hb => by
    have h0 := hb 0 (by omega)
    simp at h0
    have h1 := ixG_none (p := p) (d := d) (L := l) (k := k) (by simpa using h) (fun j hj => by simpa using hb (j + 1) (by omega))
    simp [ixG, h0, h1]
theorem ixG_any {α : Type} {p : α → Bool} : ∀ L : List α, decide (ixG p L ≥ 0) = L.any p
  | [] => rfl
  | x :: l => by
    have h := ixG_any (p := p) l
    simp only [ixG, List.any_cons]
    by_cases hx : p x = true
    · simp [hx]
    · simp only [hx, Bool.false_or, ← h]
      by_cases hl : ixG p l < 0
      · simp [hl]
      · simp [hl]; omega
theorem drop_getD {α : Type} {L : List α} {k : Nat} {d : α} (h : k < L.length) : L.drop k = L.getD k d :: L.drop (k + 1) := by
  rw [List.drop_eq_getElem_cons h]
  simp [List.getD_eq_getElem?_getD, h]
theorem getD_mem' {α : Type} {L : List α} {k : Nat} {d : α} (h : k < L.length) : L.getD k d ∈ L := by
  simp [List.getD_eq_getElem?_getD, h]
end Go.Proofs.Ytlbldfdkicofdaa
