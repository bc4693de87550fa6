/- A box becomes a row; what a piece of code writes. -/
import Derived.Test.YtlbldfdkicofdaaSxP
namespace Go.Sx
open Go.RowKit
set_option linter.unusedVariables false
set_option linter.unusedSimpArgs false
set_option linter.unusedSectionVars false

def Pt.unbox (i n sz : Nat) : Pt → Pt
  | .bp j off => if j = i then .rp n 0 sz off else .bp j off
  | p => p
def At.unbox (i n sz : Nat) : At → At
  | .pt p => .pt (p.unbox i n sz)
  | .clo f c => .clo f (c.map (Pt.unbox i n sz))
  | x => x
def Cv.unbox (i n sz : Nat) : Cv → Cv
  | .one x => .one (x.unbox i n sz)
  | .agg l => .agg (l.map (At.unbox i n sz))
def SV.unbox (i n sz : Nat) : SV → SV
  | .any => .any
  | .cv c => .cv (c.unbox i n sz)
  | .tup l => .tup (l.map (Cv.unbox i n sz))
section
variable {ρ : Env} {i n sz b : Nat} (hb : ρ.β i = some b) (hn : ρ.σ n = some (.slice (some ⟨b, 0, none⟩) 1 1))
include hb hn
theorem Pt.unbox_den (p : Pt) : (p.unbox i n sz).den ρ = p.den ρ := by
  cases p with
  | bp j off =>
    simp only [Pt.unbox]
    split
    · rename_i h; subst h
      simp [Pt.den, hb, hn, add_off]
    · rfl
  | rp r k s o => rfl
  | ba j o n l => rfl
  | op c z l cs k o => rfl
theorem ptDens_unbox : ∀ l : List Pt, ptDens ρ (l.map (Pt.unbox i n sz)) = ptDens ρ l
  | [] => rfl
  | p :: l => by simp only [List.map_cons, ptDens, Pt.unbox_den hb hn, ptDens_unbox l]
theorem At.unbox_den (x : At) : (x.unbox i n sz).den ρ = x.den ρ := by
  cases x with
  | pt p => exact Pt.unbox_den hb hn p
  | clo f c => simp only [At.unbox, At.den, ptDens_unbox hb hn]
  | _ => rfl
theorem dens_unbox : ∀ l : List At, dens ρ (l.map (At.unbox i n sz)) = dens ρ l
  | [] => rfl
  | p :: l => by simp only [List.map_cons, dens, At.unbox_den hb hn, dens_unbox l]
theorem Cv.unbox_den (x : Cv) : (x.unbox i n sz).den ρ = x.den ρ := by
  cases x with
  | one x => exact At.unbox_den hb hn x
  | agg l => simp only [Cv.unbox, Cv.den, dens_unbox hb hn]
theorem cvDens_unbox : ∀ l : List Cv, cvDens ρ (l.map (Cv.unbox i n sz)) = cvDens ρ l
  | [] => rfl
  | p :: l => by simp only [List.map_cons, cvDens, Cv.unbox_den hb hn, cvDens_unbox l]
theorem SV.unbox_rep {x : SV} {v : Value} (h : x.rep ρ v) : (x.unbox i n sz).rep ρ v := by
  cases x with
  | any => trivial
  | cv c => simp only [SV.unbox, SV.rep, Cv.unbox_den hb hn]; exact h
  | tup l =>
    obtain ⟨vs, h1, h2⟩ := h
    exact ⟨vs, by rw [cvDens_unbox hb hn]; exact h1, h2⟩
theorem reps_unbox : ∀ {F : List SV} {vs : List Value}, reps ρ F vs → reps ρ (F.map (SV.unbox i n sz)) vs
  | [], [], _ => trivial
  | x :: xs, v :: vs, h => ⟨SV.unbox_rep hb hn h.1, reps_unbox h.2⟩
  | [], v :: vs, h => h.elim
  | x :: xs, [], h => h.elim
end
section
variable {P : Program} {f : Fr} {R : Ending → World → Prop} {W : Base} {todo : List Item} {s : St}
/-- A box that nobody writes any more is a row of one element. -/
theorem SG.boxRow (i : Nat) {c : List At} (hi : s.B[i]? = some (some c)) (h : SG P f R W todo ⟨s.F.map (SV.unbox i s.R.length c.length), unset s.B i, setAt s.R s.R.length ⟨c.length, 1, fun _ => c, none, true, true⟩, s.G.map (SV.unbox i s.R.length c.length)⟩) : SG P f R W todo s := by
  refine ⟨fun ρ w a hm hf hd => ?_⟩
  have hn := hd.row s.R.length (Nat.le_refl _)
  obtain ⟨b, vs, t, hb, hW, hc, hh⟩ := hm.box i c hi
  have hlt := lt_of_some hh
  have hle := Env.le_row hn (.slice (some ⟨b, 0, none⟩) 1 1)
  have h1 : Mem W ⟨s.F, unset s.B i, s.R, s.G⟩ ρ w := hm.sub (fun j d hj => (unset_get _ _ _ _ hj).2) (fun _ _ h => h)
  have h2 := h1.newRow (n := s.R.length) (v := .slice (some ⟨b, 0, none⟩) 1 1) (R := ⟨c.length, 1, fun _ => c, none, true, true⟩) hn
    ⟨⟨_, 1, rfl, Nat.le_refl _, by unfold maxLen; omega, (fun h => by cases h), fun _ => rfl, fun _ => ⟨b, 0, rfl, hlt, fun k us hk hus j u hu => by
        dsimp only at hk hus ⊢
        rw [hc] at hus; injection hus with hus; subst hus
        have hk0 : k = 0 := by omega
        subst hk0
        rw [cell_of_blk hh]; simpa using hu⟩, fun e he => by cases he⟩,
      fun k hk => ⟨vs, hc, dens_len hc⟩, fun _ b' ht => by have := ht.1; simp [Value.ownBlock] at this; subst this; exact hW⟩
    (fun j d b' hj hb' ht => by
      have := ht.1; simp [Value.ownBlock] at this; subst this
      obtain ⟨hne, hj⟩ := unset_get _ _ _ _ hj
      exact hm.boxNe i j c d b (fun e => hne e.symm) hi hj hb hb')
    (fun r R' v' b' hr hv _ ht' ht => by
      have := ht.1; simp [Value.ownBlock] at this; subst this
      exact hm.rowBox r R' v' i c b hr hv hi hb ht')
  refine h.run ⟨ρ.β, upd ρ.σ s.R.length (.slice (some ⟨b, 0, none⟩) 1 1), ρ.ι⟩ w a (h2.subG (fun _ _ h => h) (fun _ _ h => h) (reps_unbox (ρ := ⟨ρ.β, upd ρ.σ s.R.length (.slice (some ⟨b, 0, none⟩) 1 1), ρ.ι⟩) hb (upd_same _ _ _) (reps_le hle hm.ghost))) ⟨hf.defers, ?_⟩ ⟨fun j hj => ?_, fun r hr => ?_⟩
  · exact reps_unbox (ρ := ⟨ρ.β, upd ρ.σ s.R.length (.slice (some ⟨b, 0, none⟩) 1 1), ρ.ι⟩) hb (upd_same _ _ _) (reps_le hle hf.tmps)
  · simp only [unset_len] at hj; exact hd.box j hj
  · simp only [setAt_len] at hr
    show upd _ _ _ _ = _
    rw [upd_ne _ _ (by omega)]
    exact hd.row r (by omega)
end

/-! A contract for a nil slice, out of that for a row. -/
theorem rep_ren {p : SV} {bs rs : List Nat} {τ : Env} {u : Value} (hp : p.inn bs.length rs.length = true) (hu : p.rep (τ.ren bs rs) u) : (p.ren bs rs).rep τ u := by
  cases p with
  | any => trivial
  | cv c => simp only [SV.inn] at hp; simp only [SV.rep, SV.ren, Cv.ren_den hp] at hu ⊢; exact hu
  | tup l =>
    simp only [SV.inn] at hp
    obtain ⟨vs, g1, g2⟩ := hu
    exact ⟨vs, by rw [cvDens_ren hp] at g1; exact g1, g2⟩
theorem reps_any {ρ : Env} : ∀ vs : List Value, reps ρ (List.replicate vs.length .any) vs
  | [] => trivial
  | _ :: vs => ⟨trivial, reps_any vs⟩
theorem CallOk.of_nil {P : Program} {W : Base} {B : List (Option (List At))} {Rs : List (Option Row)} {g : FuncId} {args : List SV} {res : SV} {rows : List Row} (sz : Nat) (args' : List SV) (H : CallOk P W [] [some ⟨sz, 0, fun _ => [], none, false, false⟩] g args' (mkHd res rows))
    (hargs : ∀ ρ ρ3 vs, reps ρ args vs → ρ3.σ 0 = some (.slice none 0 0) → reps ρ3 args' vs) (hin : res.inn 0 rows.length = true) (hcl : ∀ Q ∈ rows, closedRow Q) : CallOk P W B Rs g args (mkHd res rows) := by
  refine ⟨H.can, fun s' ρ w vs hm _ _ _ hreps => ?_⟩
  have hm3 : Mem W ⟨[], [], [some ⟨sz, 0, fun _ => [], none, false, false⟩], List.replicate W.gs.length .any⟩ ⟨fun _ => none, fun r => if r = 0 then some (.slice none 0 0) else none, ρ.ι⟩ w := by
    refine ⟨hm.below, fun i c h => by simp at h, fun i j c d b _ h => by simp at h, fun r R hr => ?_, fun r R v i c b _ _ h => by simp at h, fun r r' R R' v v' b _ hr _ _ _ hown => ?_, reps_any _, hm.inn⟩
    · match r with
      | 0 =>
        simp at hr; subst hr
        exact ⟨.slice none 0 0, rfl, ⟨⟨none, 0, rfl, Nat.le_refl _, Nat.zero_le _, fun _ => rfl, (fun h => by cases h), fun h => absurd h (by simp), (fun e he => by cases he)⟩, fun i hi => absurd hi (by simp), (fun h => by cases h)⟩⟩
      | r + 1 => simp at hr
    · match r with
      | 0 => simp at hr; subst hr; cases hown
      | r + 1 => simp at hr
  refine (H.does _ _ w vs hm3 (fun _ _ h => h) (fun _ _ h => by simp at h) (fun r h => by cases h) (hargs ρ _ vs hreps rfl)).mono ?_
  rintro e w' ⟨v, vals, rfl, hb, hn, hres⟩
  refine ⟨v, vals, rfl, hb, ⟨hn.len, fun k R u hR hu => ?_, hn.apart⟩, fun n ρ' hle hσ => ?_⟩
  · obtain ⟨h1, h2⟩ := hn.ok k R u hR hu
    exact ⟨h1.closed (fun _ h => h) (hcl R (List.mem_of_getElem? hR)), h2⟩
  · -- what is answered hangs on the new rows alone
    have h1 := hres 1 ⟨fun _ => none, fun r => if r = 0 then some (.slice none 0 0) else vals[r - 1]?, ρ.ι⟩ ⟨(fun _ _ h => h), (fun r u hu => by
        show (if r = 0 then _ else _) = _
        simp only at hu
        split at hu
        · rename_i h0; rw [if_pos h0]; exact hu
        · cases hu), rfl⟩ (fun k u hu => by show (if 1 + k = 0 then _ else _) = _; rw [if_neg (by omega), Nat.add_sub_cancel_left]; exact hu)
    have hl := hn.len
    have h2 := SV.ren_rep (bs := []) (rs := List.range' 1 rows.length) (p := res) (by simpa using hin) h1
    refine rep_ren (bs := []) (by simpa using hin) (SV.rep_le ⟨fun i b hb => by simp [Env.ren] at hb, fun r u hu => ?_, by exact hle.3⟩ h2)
    simp only [Env.ren] at hu ⊢
    split at hu
    · rename_i hr
      simp only [List.length_range'] at hr
      have g1 : nth (List.range' 1 rows.length) r = 1 + r := by simp [nth, List.getD, hr]
      have g2 : nth (List.range' n rows.length) r = n + r := by simp [nth, List.getD, hr]
      rw [g1, if_neg (by omega), Nat.add_sub_cancel_left] at hu
      rw [if_pos (by simpa using hr), g2]
      exact hσ r u hu
    · cases hu

/-! What a piece of code writes. -/
def setAny : List SV → Nat → List SV
  | [], _ => []
  | _ :: l, 0 => .any :: l
  | x :: l, n + 1 => x :: setAny l n
def havOps : List Oper → List SV → List SV
  | [], F => F
  | o :: l, F => havOps l (match o.dst with
    | some d => setAny F d
    | none => F)
def hav : Code → List SV → List SV
  | .region _ ops _, F => havOps ops.toList F
  | .seq a b, F => hav b (hav a F)
  | .cond _ a b, F => hav b (hav a F)
  | .block _ c, F => hav c F
  | .loop c, F => hav c F
  | .scope c, F => hav c F
  | _, F => F
def puts : List SV → List (Nat × SV) → List SV
  | F, [] => F
  | F, (i, x) :: l => puts (F.set i x) l
theorem wI {x : Int} (h1 : -9223372036854775808 ≤ x) (h2 : x ≤ 9223372036854775807) : IntKind.i64.wrap x = x := by rw [IntKind.wrap_i64]; omega
theorem wU64 {x : Int} (h1 : 0 ≤ x) (h2 : x ≤ 18446744073709551615) : IntKind.u64.wrap x = x := by rw [IntKind.wrap_u64]; omega
theorem wU32 {x : Int} (h1 : 0 ≤ x) (h2 : x ≤ 4294967295) : IntKind.u32.wrap x = x := by rw [IntKind.wrap_u32]; omega
theorem wU8 {x : Int} (h1 : 0 ≤ x) (h2 : x ≤ 255) : IntKind.u8.wrap x = x := by rw [IntKind.wrap_u8]; omega
end Go.Sx
