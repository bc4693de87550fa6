/- A contract for rows of slices as they came in, at rows of slices of the caller's own. -/
import Derived.Test.YtlbldfdkicofdaaSxY
import Derived.Test.YtlbldfdkicofdaaSxR
namespace Go.Sx
open Go.RowKit
set_option linter.unusedVariables false
set_option linter.unusedSimpArgs false
set_option linter.unusedSectionVars false

theorem Cv.closed_den {ρ ρ' : Env} {c : Cv} (h : (c.inn 0 0 && c.noRo) = true) : c.den ρ = c.den ρ' := by
  have h1 : ([c].all (Cv.inn 0 0) && [c].all Cv.noRo) = true := by simpa using h
  have := cvDens_closed (ρ := ρ) (ρ' := ρ') h1
  simp only [cvDens] at this
  cases hc : c.den ρ <;> cases hc' : c.den ρ' <;> simp [hc, hc'] at this ⊢
  exact this
theorem SV.closed_rep {ρ ρ' : Env} {x : SV} {v : Value} (h : (x.inn 0 0 && x.noRo) = true) (hv : x.rep ρ v) : x.rep ρ' v := by
  cases x with
  | any => trivial
  | cv c =>
    simp only [SV.rep] at hv ⊢
    rw [← hv]
    exact Cv.closed_den (by simpa [SV.inn, SV.noRo] using h)
  | tup l =>
    obtain ⟨vs, h1, h2⟩ := hv
    refine ⟨vs, ?_, h2⟩
    rw [← h1]
    exact cvDens_closed (by simpa [SV.inn, SV.noRo] using h)
theorem reps_noRo {ρ : Env} {ι' : Value → Nat → Nat → (Nat → List Value) → Prop} : ∀ {l : List SV} {vs : List Value}, l.all SV.noRo = true → reps ρ l vs → reps ⟨ρ.β, ρ.σ, ι'⟩ l vs
  | [], [], _, _ => trivial
  | x :: l, v :: vs, h, hr => by
    simp only [List.all_cons, Bool.and_eq_true] at h
    exact ⟨(SV.noRo_rep h.1).2 hr.1, reps_noRo h.2 hr.2⟩
  | [], v :: vs, _, hr => hr.elim
  | x :: l, [], _, hr => hr.elim
theorem reps_ren {ρ : Env} {rs : List Nat} : ∀ (l : List SV) (vs : List Value), l.all (SV.inn 0 rs.length) = true → reps ρ (l.map (SV.ren [] rs)) vs → reps (ρ.ren [] rs) l vs
  | [], [], _, _ => trivial
  | [], v :: vs, _, h => h.elim
  | x :: l, [], _, h => h.elim
  | x :: l, v :: vs, hl, h => by
    simp only [List.all_cons, Bool.and_eq_true] at hl
    exact ⟨SV.ren_rep (bs := []) (by simpa using hl.1) h.1, reps_ren l vs hl.2 h.2⟩
section
variable {P : Program} {W : Base} {B : List (Option (List At))} {Rs : List (Option Row)}
/-- What is known of a row of plain values, seen by whoever is called. -/
theorem RowOk.plain {ρ ρ' : Env} {W' : Base} {w : World} {v : Value} {R Q : Row} (h : RowOk W ρ w v R) (hq : RowLe R Q) (ho : Q.own = none) (hn : Q.new = false) (hc : closedRow Q) : RowOk W' ρ' w v Q := by
  have h1 := h.weak hq
  obtain ⟨A, cap, hv, hcl, hm, hna, ht, h2, _⟩ := h1.form
  refine ⟨⟨A, cap, hv, hcl, hm, hna, ht, fun hl => ?_, fun e he => by rw [ho] at he; cases he⟩, fun i hi => ?_, fun h => by rw [hn] at h; cases h⟩
  · obtain ⟨b, o, hA, hlt, hcell⟩ := h2 hl
    refine ⟨b, o, hA, hlt, fun i vs hi hvs => hcell i vs hi ?_⟩
    rw [dens_closed (hc i hi)]; exact hvs
  · rw [dens_closed (ρ' := ρ) (hc i hi)]
    exact h1.each i hi
/-- Slices in a row of the caller's own are slices that came in, for whoever is called. -/
theorem CallOk.ownRows {α : Type} {f : α → List At} {g : α → List Value} {x0 : α} {sz : Nat} (hden : ∀ ρ x, dens ρ (f x) = some (g x)) (hcl : ∀ x, (f x).all At.isV = true) (hf : ∀ x, (g x).length = sz)
    {F : FuncId} {fn : Func} (hF : P.funcs[F]? = some fn) (hname : (fn.name == "runtime.NumGoroutine") = false) (hbody : fn.body.isNone = false)
    {a b c : Nat} {Ra Rb Rc : Row} {Qa Qc : Row} (ha : Rs[a]? = some (some Ra)) (hla : RowLe Ra Qa) (ha1 : Qa.own = none) (ha2 : Qa.new = false) (ha3 : closedRow Qa)
    (hc : Rs[c]? = some (some Rc)) (hlc : RowLe Rc Qc) (hc1 : Qc.own = none) (hc2 : Qc.new = false) (hc3 : closedRow Qc)
    (ks : List Nat) (Ls : List (List α)) (hkl : ks.length = Ls.length) (hb : Rs[b]? = some (some Rb)) (hlb : RowLe Rb ⟨1, Ls.length, fun i => [.rs (ks.getD i 0)], none, false, false⟩)
    (hks : ∀ i, i < Ls.length → ∃ R, Rs[ks.getD i 0]? = some (some R) ∧ RowLe R (rowL sz f x0 (Ls.getD i [])))
    {args : List SV} {res : SV} {args' : List SV} (hargs : args.map (SV.ren [] [a, b, c]) = args') (hin : (args.all (SV.inn 0 3) && args.all SV.noRo) = true) (hres : (res.inn 0 0 && res.noRo) = true)
    (H : ∀ S : List (RV α), S.map RV.L = Ls → ∀ W', CallOk P W' [] [some Qa, some (rowL 1 (fun r => [RV.at_ sz g x0 r]) ⟨.slice none 0 0, []⟩ S), some Qc] F args (mkHd res [])) :
    CallOk P W B Rs F args' (mkHd res []) := by
  refine ⟨⟨fn, hF, hname, hbody⟩, fun s' ρ w vs hm hR _ _ hreps => ?_⟩
  obtain ⟨va, hva, oka⟩ := hm.row a Ra (hR a Ra ha)
  obtain ⟨vb, hvb, okb⟩ := hm.row b Rb (hR b Rb hb)
  obtain ⟨vc, hvc, okc⟩ := hm.row c Rc (hR c Rc hc)
  -- the inner slices
  let val : Nat → Value := fun i => (ρ.σ (ks.getD i 0)).getD undef
  let S : List (RV α) := (List.range Ls.length).map fun i => ⟨val i, Ls.getD i []⟩
  have hSl : S.length = Ls.length := by simp [S]
  have hSg : ∀ i, i < Ls.length → S.getD i ⟨.slice none 0 0, []⟩ = ⟨val i, Ls.getD i []⟩ := fun i hi => by simp [S, List.getD_eq_getElem?_getD, hi]
  have hSm : S.map RV.L = Ls := by
    apply List.ext_getElem (by simp [S])
    intro i h1 h2
    simp [S, List.getD_eq_getElem?_getD, h2]
  have hinn : ∀ i, i < Ls.length → InnOk ⟨w, none, [], []⟩ (val i) sz (Ls.getD i []).length (fun k => g ((Ls.getD i []).getD k x0)) := fun i hi => by
    obtain ⟨R, h1, h2⟩ := hks i hi
    obtain ⟨v, hv, hok⟩ := hm.row _ R (hR _ R h1)
    have hvv : val i = v := by show (ρ.σ (ks.getD i 0)).getD undef = v; rw [hv]; rfl
    rw [hvv]
    exact InnOk.of_row hden hf fun W ρ => hok.plain h2 rfl rfl (fun _ _ => hcl _)
  let ι' : Value → Nat → Nat → (Nat → List Value) → Prop := fun c sz len cells => InnOk ⟨w, none, [], []⟩ c sz len cells
  let ρ' : Env := ⟨fun _ => none, fun r => [va, vb, vc][r]?, ι'⟩
  have okS : RowOk ⟨w, none, [], []⟩ ρ' w vb (rowL 1 (fun r => [RV.at_ sz g x0 r]) ⟨.slice none 0 0, []⟩ S) := by
    have h1 := okb.weak hlb
    obtain ⟨A, cap, hv, hcl1, hm1, hna, ht, h2, _⟩ := h1.form
    have hd : ∀ i, i < Ls.length → dens ρ' [RV.at_ sz g x0 (S.getD i ⟨.slice none 0 0, []⟩)] = some [val i] ∧ dens ρ [.rs (ks.getD i 0)] = some [val i] := fun i hi => by
      obtain ⟨A', cap', hv', _⟩ := (hinn i hi).form
      constructor
      · refine dens_mk ?_ rfl
        rw [hSg i hi]
        simp only [RV.at_, At.den]
        rw [if_pos (show ρ'.ι _ _ _ _ from hinn i hi), hv']
      · refine dens_mk ?_ rfl
        obtain ⟨R, g1, g2⟩ := hks i hi
        obtain ⟨v, hv2, hok⟩ := hm.row _ R (hR _ R g1)
        have hvv : val i = v := by show (ρ.σ (ks.getD i 0)).getD undef = v; rw [hv2]; rfl
        simp only [At.den, hv2]
        rw [hvv] at hv' ⊢
        rw [hv']
    refine ⟨⟨A, cap, by rw [hv]; simp [rowL, hSl], by simpa [rowL, hSl] using hcl1, hm1, hna, (fun h => by cases h), fun hl => ?_, fun e he => by cases he⟩, fun i hi => ?_, fun h => by cases h⟩
    · have hl' : 0 < Ls.length := by simpa [rowL, hSl] using hl
      obtain ⟨bb, o, hA, hlt, hcell⟩ := h2 hl'
      refine ⟨bb, o, hA, hlt, fun i vs hi hvs j u hu => ?_⟩
      have hi' : i < Ls.length := by simpa [rowL, hSl] using hi
      obtain ⟨d1, d2⟩ := hd i hi'
      have hvs' : dens ρ' [RV.at_ sz g x0 (S.getD i ⟨.slice none 0 0, []⟩)] = some vs := hvs
      rw [d1] at hvs'
      obtain rfl := Option.some.inj hvs'
      exact hcell i _ hi' d2 j u hu
    · have hi' : i < Ls.length := by simpa [rowL, hSl] using hi
      exact ⟨_, (hd i hi').1, rfl⟩
  have hm' : Mem ⟨w, none, [], []⟩ ⟨[], [], [some Qa, some (rowL 1 (fun r => [RV.at_ sz g x0 r]) ⟨.slice none 0 0, []⟩ S), some Qc], []⟩ ρ' w := by
    refine ⟨Kept.refl _ _ _, fun i c h => by simp at h, fun i j c d b _ h => by simp at h, fun r R hr => ?_, fun r R v i c b _ _ h => by simp at h, fun r r' R R' v v' b _ hr _ _ _ hown => ?_, trivial, fun _ _ _ _ h => h⟩
    · match r with
      | 0 => simp at hr; subst hr; exact ⟨va, rfl, oka.plain hla ha1 ha2 ha3⟩
      | 1 => simp at hr; subst hr; exact ⟨vb, rfl, okS⟩
      | 2 => simp at hr; subst hr; exact ⟨vc, rfl, okc.plain hlc hc1 hc2 hc3⟩
      | r + 3 => simp at hr
    · match r with
      | 0 => simp at hr; subst hr; rw [ha1] at hown; cases hown
      | 1 => simp at hr; subst hr; cases hown
      | 2 => simp at hr; subst hr; rw [hc1] at hown; cases hown
      | r + 3 => simp at hr
  rw [Bool.and_eq_true] at hin
  have hreps' : reps ρ' args vs := by
    rw [← hargs] at hreps
    have h1 := reps_ren (rs := [a, b, c]) args vs (by simpa using hin.1) hreps
    have h2 := reps_noRo (ι' := ι') hin.2 h1
    have hle : (⟨(ρ.ren [] [a, b, c]).β, (ρ.ren [] [a, b, c]).σ, ι'⟩ : Env).le ρ' := by
      refine ⟨fun i bb hb => by simp [Env.ren] at hb, fun r u hu => ?_, rfl⟩
      simp only [Env.ren] at hu
      show [va, vb, vc][r]? = some u
      match r with
      | 0 => simpa [nth, hva] using hu
      | 1 => simpa [nth, hvb] using hu
      | 2 => simpa [nth, hvc] using hu
      | r + 3 =>
        exfalso
        rw [if_neg (by simp)] at hu
        cases hu
    exact reps_le hle h2
  refine ((H S hSm ⟨w, none, [], []⟩).does _ ρ' w vs hm' (fun _ _ h => h) (fun _ _ h => by simp at h) (fun r h => by cases h) hreps').mono ?_
  rintro e w' ⟨v, vals, rfl, hg, hn, hr⟩
  refine ⟨v, vals, rfl, hg, ⟨hn.len, fun k R u h => by simp [mkHd] at h, fun k k' R R' u u' b _ h => by simp [mkHd] at h⟩, fun n ρ3 _ _ => ?_⟩
  have hv0 : vals = [] := List.eq_nil_of_length_eq_zero (by simpa [mkHd] using hn.len)
  have h1 := hr 0 ρ' (Env.le_refl _) (fun k u hu => by rw [hv0] at hu; simp at hu)
  have h2 : ∀ n, (mkHd res []).res n = res.ren [] [] := fun n => rfl
  rw [h2] at h1 ⊢
  rw [Bool.and_eq_true] at hres
  have h3 := SV.ren_rep (bs := []) (rs := []) (ρ := ρ') (p := res) (by simpa using hres.1) h1
  have h4 : res.rep (ρ3.ren [] []) v := SV.closed_rep (by rw [Bool.and_eq_true]; exact hres) h3
  exact rep_ren (bs := []) (by simpa using hres.1) h4
end
end Go.Sx
