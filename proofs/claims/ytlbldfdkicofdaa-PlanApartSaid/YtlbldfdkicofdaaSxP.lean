/- Contracts: what a call is told, and what it answers. -/
import Derived.Test.YtlbldfdkicofdaaSxK
namespace Go.Sx
open Go.RowKit
set_option linter.unusedVariables false
set_option linter.unusedSimpArgs false
set_option linter.unusedSectionVars false

/-- A row of elements of which each is so many cells; as it comes in; as it is answered. -/
def rowL {α : Type} (sz : Nat) (f : α → List At) (d : α) (L : List α) : Row := ⟨sz, L.length, fun i => f (L.getD i d), none, false, false⟩
def rowN {α : Type} (sz : Nat) (f : α → List At) (d : α) (L : List α) (e : TypeId) : Row := ⟨sz, L.length, fun i => f (L.getD i d), some e, false, true⟩
def At.isV : At → Bool
  | .v _ => true
  | .lb _ => true
  | _ => false
/-- A value that leads into no memory of the call's own. -/
def At.isA : At → Bool
  | .v _ => true
  | .lb _ => true
  | .ro _ _ _ _ => true
  | _ => false
/-- A value that leads into no slice in a row of slices. -/
def Pt.noRo : Pt → Bool
  | .op _ _ _ _ _ _ => false
  | _ => true
def At.noRo : At → Bool
  | .pt p => p.noRo
  | .clo _ l => l.all Pt.noRo
  | .ro _ _ _ _ => false
  | _ => true
def Cv.noRo : Cv → Bool
  | .one x => x.noRo
  | .agg l => l.all At.noRo
def SV.noRo : SV → Bool
  | .any => true
  | .cv c => c.noRo
  | .tup l => l.all Cv.noRo
section
variable {ρ : Env} {ι' : Value → Nat → Nat → (Nat → List Value) → Prop}
theorem Pt.noRo_den {p : Pt} (h : p.noRo = true) : p.den ⟨ρ.β, ρ.σ, ι'⟩ = p.den ρ := by
  cases p <;> first | rfl | (cases h)
theorem ptDens_noRo : ∀ {l : List Pt}, l.all Pt.noRo = true → ptDens ⟨ρ.β, ρ.σ, ι'⟩ l = ptDens ρ l
  | [], _ => rfl
  | p :: l, h => by
    simp only [List.all_cons, Bool.and_eq_true] at h
    simp only [ptDens, Pt.noRo_den h.1, ptDens_noRo h.2]
theorem bDens_noRo : ∀ {l : List BAt}, bDens ⟨ρ.β, ρ.σ, ι'⟩ l = bDens ρ l
  | [] => rfl
  | p :: l => by
    have : p.den ⟨ρ.β, ρ.σ, ι'⟩ = p.den ρ := by cases p <;> rfl
    simp only [bDens, this, bDens_noRo]
theorem At.noRo_den {p : At} (h : p.noRo = true) : p.den ⟨ρ.β, ρ.σ, ι'⟩ = p.den ρ := by
  cases p with
  | pt p => exact Pt.noRo_den h
  | clo f l => simp only [At.den, ptDens_noRo (show l.all Pt.noRo = true from h)]
  | clb f a l => simp only [At.den, bDens_noRo]
  | ro c sz len cells => cases h
  | _ => rfl
theorem dens_noRo : ∀ {l : List At}, l.all At.noRo = true → dens ⟨ρ.β, ρ.σ, ι'⟩ l = dens ρ l
  | [], _ => rfl
  | p :: l, h => by
    simp only [List.all_cons, Bool.and_eq_true] at h
    simp only [dens, At.noRo_den h.1, dens_noRo h.2]
theorem Cv.noRo_den {p : Cv} (h : p.noRo = true) : p.den ⟨ρ.β, ρ.σ, ι'⟩ = p.den ρ := by
  cases p with
  | one x => exact At.noRo_den h
  | agg l => simp only [Cv.den, dens_noRo (show l.all At.noRo = true from h)]
theorem cvDens_noRo : ∀ {l : List Cv}, l.all Cv.noRo = true → cvDens ⟨ρ.β, ρ.σ, ι'⟩ l = cvDens ρ l
  | [], _ => rfl
  | p :: l, h => by
    simp only [List.all_cons, Bool.and_eq_true] at h
    simp only [cvDens, Cv.noRo_den h.1, cvDens_noRo h.2]
theorem SV.noRo_rep {p : SV} {v : Value} (h : p.noRo = true) : p.rep ⟨ρ.β, ρ.σ, ι'⟩ v ↔ p.rep ρ v := by
  cases p with
  | any => exact Iff.rfl
  | cv c => simp only [SV.rep, Cv.noRo_den (show c.noRo = true from h)]
  | tup l => simp only [SV.rep, cvDens_noRo (show l.all Cv.noRo = true from h)]
end
theorem dens_closed {ρ ρ' : Env} : ∀ {l : List At}, l.all At.isV = true → dens ρ l = dens ρ' l
  | [], _ => rfl
  | x :: l, h => by
    simp only [List.all_cons, Bool.and_eq_true] at h
    simp only [dens, dens_closed (ρ := ρ) (ρ' := ρ') h.2]
    cases x <;> first | rfl | (cases h.1)
theorem RowOk.closed {W W' : Base} {ρ ρ' : Env} {w : World} {v : Value} {R : Row} (h : RowOk W ρ w v R) (hW : ∀ b, W.mine b → W'.mine b) (hc : ∀ i, i < R.len → (R.cells i).all At.isV = true) : RowOk W' ρ' w v R := by
  obtain ⟨A, cap, hv, hcl, hm, hn, ht, h1, h2⟩ := h.form
  refine ⟨⟨A, cap, hv, hcl, hm, hn, ht, fun h0 => ?_, fun e he => ?_⟩, fun i hi => ?_, fun hn b ht => hW b (h.fresh hn b ht)⟩
  · obtain ⟨b, o, hA, hlt, hcell⟩ := h1 h0
    refine ⟨b, o, hA, hlt, fun i vs hi hvs => hcell i vs hi ?_⟩
    rw [dens_closed (hc i hi)]; exact hvs
  · rcases h2 e he with h | ⟨g, cur, fz, hg, hWg, hh⟩
    · exact .inl h
    · exact .inr ⟨g, cur, fz, hg, hW g hWg, hh⟩
  · rw [dens_closed (ρ' := ρ) (hc i hi)]
    exact h.each i hi

/-- How a call ends, told without its caller. -/
def Post (w : World) (blk : Option Nat) (h : Hd) (e : Ending) (w' : World) : Prop :=
  ∃ v vals, e = .returned v ∧ w.grownBy w' blk ∧ (∀ W ρ, W.w.heap.size ≤ w.heap.size → (∀ b, blk = some b → W.mine b) → RowsNew W ρ w w' blk h.rows vals) ∧
    ∀ n ρ', (∀ (k : Nat) u, vals[k]? = some u → ρ'.σ (n + k) = some u) → (h.res n).rep ρ' v
def mkHd (res : SV) (rows : List Row) (kill : Option Nat := none) : Hd := ⟨fun n => res.ren [] (List.range' n rows.length), rows, kill⟩
def closedRow (Q : Row) : Prop := ∀ i, i < Q.len → (Q.cells i).all At.isV = true
/-- A row of the walk's, as it is answered. -/
structure ResRow (s : St) (n : Nat) (Q : Row) : Prop where
  it : ∃ R, s.R[n]? = some (some R) ∧ RowLe R Q ∧ R.new = true
  cl : closedRow Q
theorem Post.mk {w : World} {blk : Option Nat} {s : St} {ρ : Env} {w' : World} {v : Value} (hm : Mem ⟨w, blk, [], []⟩ s ρ w') (res : SV) (rows : List Row) (kill : Option Nat) (idx : List Nat) (hv : (res.ren [] idx).rep ρ v) (hin0 : (res.inn 0 idx.length && (res.ren [] idx).noRo) = true)
    (hrows : ∀ (k n : Nat) Q, idx[k]? = some n → rows[k]? = some Q → ResRow s n Q) (hlen : idx.length = rows.length) (hnd : idx.Nodup) : Post w blk (mkHd res rows kill) (.returned v) w' := by
  have hin : res.inn 0 idx.length = true := ((Bool.and_eq_true _ _).mp hin0).1
  have hnro := ((Bool.and_eq_true _ _).mp hin0).2
  have hgrown : w.grownBy w' blk := ⟨hm.below.os, hm.below.tape, hm.below.output, hm.below.size, fun k hk hne => hm.below.block k hk (fun e => hne e.symm)⟩
  refine ⟨v, idx.map (fun n => (ρ.σ n).getD undef), rfl, hgrown, fun W' ρ' hW hblk => ⟨by rw [List.length_map]; exact hlen, fun k Q u hQ hu => ?_, fun k k' Q Q' u u' b hne hQ hu hQ' hu' hown ht => ?_⟩, fun n ρ' hσ => ?_⟩
  · rw [List.getElem?_map, Option.map_eq_some_iff] at hu
    obtain ⟨n, hn, hu⟩ := hu
    obtain ⟨⟨R, hR, hle, hnew⟩, hcl⟩ := hrows k n Q hn hQ
    obtain ⟨u', hu', hok⟩ := hm.row n R hR
    rw [hu', Option.getD_some] at hu
    subst hu
    refine ⟨(hok.weak hle).closed (fun b hb => ?_) hcl, fun b ht => hok.fresh hnew b (hle.touch ht)⟩
    rcases hb with h | h
    · exact .inl (Nat.le_trans hW h)
    · exact hblk b h
  · rw [List.getElem?_map, Option.map_eq_some_iff] at hu hu'
    obtain ⟨n, hn, hu⟩ := hu
    obtain ⟨n', hn', hu'⟩ := hu'
    obtain ⟨⟨R, hR, hle, ho⟩, _⟩ := hrows k n Q hn hQ
    obtain ⟨⟨R', hR', hle', ho'⟩, _⟩ := hrows k' n' Q' hn' hQ'
    obtain ⟨x, hx, _⟩ := hm.row n R hR
    obtain ⟨x', hx', _⟩ := hm.row n' R' hR'
    rw [hx, Option.getD_some] at hu
    rw [hx', Option.getD_some] at hu'
    subst hu hu'
    have hRo : R.own.isSome = true := by
      rcases hle.own with h | h
      · rw [h] at hown; cases hown
      · rw [← h]; exact hown
    exact fun ht' => hm.rowRow n n' R R' _ _ b (nodup_ne hnd hn hn' hne) hR hR' hx hx' hRo (hle.touch ht) (hle'.touch ht')
  · -- what is answered
    have hle : ((⟨ρ.β, ρ.σ, ρ'.ι⟩ : Env).ren [] idx).le (ρ'.ren [] (List.range' n rows.length)) := by
      refine ⟨fun i b hb => by simp [Env.ren] at hb, fun r u hu => ?_, rfl⟩
      simp only [Env.ren] at hu ⊢
      split at hu
      · rename_i hr
        rw [if_pos (by simp; omega)]
        have h1 : idx[r]? = some (nth idx r) := by simp [nth, List.getD, hr]
        have h2 := hσ r ((ρ.σ (nth idx r)).getD undef) (by rw [List.getElem?_map, h1]; rfl)
        rw [hu, Option.getD_some] at h2
        have h3 : nth (List.range' n rows.length) r = n + r := by
          have hl : r < rows.length := by omega
          simp [nth, List.getD, hl]
        rw [h3]; exact h2
      · cases hu
    have h1 := SV.rep_le hle (SV.ren_rep (bs := []) (rs := idx) (by simpa using hin) ((SV.noRo_rep hnro).2 hv))
    -- back again
    have key : ∀ (p : SV) (bs rs : List Nat) (τ : Env) (u : Value), p.inn bs.length rs.length = true → p.rep (τ.ren bs rs) u → (p.ren bs rs).rep τ u := by
      intro p bs rs τ u hp hu
      cases p with
      | any => trivial
      | cv c => simp only [SV.inn] at hp; simp only [SV.rep, SV.ren, Cv.ren_den hp] at hu ⊢; exact hu
      | tup l =>
        simp only [SV.inn] at hp
        obtain ⟨vs, g1, g2⟩ := hu
        exact ⟨vs, by rw [cvDens_ren hp] at g1; exact g1, g2⟩
    exact key res [] _ ρ' v (by simpa [hlen] using hin) h1

theorem RowLe.of {R : Row} {sz len : Nat} {cells : Nat → List At} (h1 : sz = R.sz) (h2 : len = R.len) (h3 : ∀ i, i < R.len → cells i = R.cells i) : RowLe R ⟨sz, len, cells, none, false, false⟩ := ⟨h1, h2, .inl rfl, (fun h => by cases h), (fun h => by cases h), h3⟩
/-- A row of the walk's, as a new one. -/
theorem ResRow.of {s : St} {n : Nat} {R : Row} {sz len : Nat} {cells : Nat → List At} {e : TypeId} (h : s.R[n]? = some (some R)) (h0 : R.new = true) (h1 : sz = R.sz) (h2 : len = R.len) (h4 : some e = R.own) (h3 : ∀ i, i < R.len → cells i = R.cells i) (hc : ∀ i, (cells i).all At.isV = true) : ResRow s n ⟨sz, len, cells, some e, false, true⟩ :=
  ⟨⟨R, h, ⟨h1, h2, .inr h4, (fun h => by cases h), fun _ => h0, h3⟩, h0⟩, fun i _ => hc i⟩
/-- A caller's row, as the callee knows it. -/
structure ArgRow (Rs : List (Option Row)) (rs : List Nat) (kill : Option Nat) (n : Nat) (Q : Row) : Prop where
  it : ∃ R, Rs[n]? = some (some R) ∧ RowLe R ⟨Q.sz, Q.len, fun i => (Q.cells i).map (At.ren [] rs), Q.own, Q.tight, Q.new⟩
  inn : ∀ i, i < Q.len → (Q.cells i).all (At.inn 0 rs.length) = true
  ro : (Q.own = none ∧ Q.new = false) ∨ (kill = some n ∧ Q.own.isSome = true)
theorem ren_closed {bs rs : List Nat} : ∀ {l : List At}, l.all At.isV = true → l.map (At.ren bs rs) = l
  | [], _ => rfl
  | x :: l, h => by
    simp only [List.all_cons, Bool.and_eq_true] at h
    rw [List.map_cons, ren_closed h.2]
    cases x <;> first | rfl | (cases h.1)
theorem inn_closed {n m : Nat} : ∀ {l : List At}, l.all At.isV = true → l.all (At.inn n m) = true
  | [], _ => rfl
  | x :: l, h => by
    simp only [List.all_cons, Bool.and_eq_true] at h ⊢
    exact ⟨by cases x <;> first | rfl | (cases h.1), inn_closed h.2⟩
theorem ren_A {bs rs : List Nat} : ∀ {l : List At}, l.all At.isA = true → l.map (At.ren bs rs) = l
  | [], _ => rfl
  | x :: l, h => by
    simp only [List.all_cons, Bool.and_eq_true] at h
    rw [List.map_cons, ren_A h.2]
    cases x <;> first | rfl | (cases h.1)
theorem inn_A {n m : Nat} : ∀ {l : List At}, l.all At.isA = true → l.all (At.inn n m) = true
  | [], _ => rfl
  | x :: l, h => by
    simp only [List.all_cons, Bool.and_eq_true] at h ⊢
    exact ⟨by cases x <;> first | rfl | (cases h.1), inn_A h.2⟩
/-- A row whose elements lead into no memory of the call's own. -/
def argRow (Q : Row) : Prop := ∀ i, i < Q.len → (Q.cells i).all At.isA = true
theorem closedRow.arg {Q : Row} (h : closedRow Q) : argRow Q := fun i hi => by
  have h1 := h i hi
  rw [List.all_eq_true] at h1 ⊢
  intro x hx
  have h2 := h1 x hx
  cases x <;> first | rfl | (cases h2)
theorem ArgRow.ro_ {Rs : List (Option Row)} {rs : List Nat} {kill : Option Nat} {n : Nat} {R Q : Row} (h : Rs[n]? = some (some R)) (hle : RowLe R Q) (h1 : Q.own = none) (h2 : Q.new = false) (hc : argRow Q) : ArgRow Rs rs kill n Q := by
  refine ⟨⟨R, h, hle.sz, hle.len, hle.own, hle.tight, hle.new, fun i hi => ?_⟩, fun i hi => inn_A (hc i hi), .inl ⟨h1, h2⟩⟩
  show (Q.cells i).map _ = _
  rw [ren_A (hc i (by rw [hle.len]; exact hi))]
  exact hle.cells i hi
theorem ArgRow.own_ {Rs : List (Option Row)} {rs : List Nat} {n : Nat} {R Q : Row} (h : Rs[n]? = some (some R)) (hle : RowLe R Q) (h1 : Q.own.isSome = true) (hc : argRow Q) : ArgRow Rs rs (some n) n Q := by
  refine ⟨⟨R, h, hle.sz, hle.len, hle.own, hle.tight, hle.new, fun i hi => ?_⟩, fun i hi => inn_A (hc i hi), .inr ⟨rfl, h1⟩⟩
  show (Q.cells i).map _ = _
  rw [ren_A (hc i (by rw [hle.len]; exact hi))]
  exact hle.cells i hi

/-- A function's contract, out of its own walk: the rows that its arguments lead to, by numbers of their own. -/
theorem CallOk.enterK {P : Program} {W : Base} {B : List (Option (List At))} {Rs : List (Option Row)} {g : FuncId} {h : Hd} {fn : Func} {c : Code} (hf : P.funcs[g]? = some fn) (hn : (fn.name == "runtime.NumGoroutine") = false) (hb : fn.body = some c)
    (rs : List Nat) (Qs : List Row) (args' : List SV) {args : List SV} (hl : rs.length = Qs.length) (hrows : ∀ (k n : Nat) Q, rs[k]? = some n → Qs[k]? = some Q → ArgRow Rs rs h.kill n Q)
    (hkill : ∀ r, h.kill = some r → ∀ (k k' : Nat), rs[k]? = some r → rs[k']? = some r → k = k')
    (hargs : args'.map (SV.ren [] rs) = args) (hin : args'.all (SV.inn 0 rs.length) = true)
    (hwalk : ∀ w blk, (h.kill = none → blk = none) → Kept W w → SG P ⟨g, none, []⟩ (Post w blk h) ⟨w, blk, [], []⟩ [.code c] ⟨args' ++ List.replicate (fn.ntmps - args'.length) (.tup []), [], Qs.map some, []⟩) : CallOk P W B Rs g args h := by
  refine ⟨⟨fn, hf, hn, by rw [hb]; rfl⟩, fun s' ρ w vs hm hR _ hkl hreps => ?_⟩
  have hrow : ∀ (k n : Nat) Q, rs[k]? = some n → Qs[k]? = some Q → ∃ R u, s'.R[n]? = some (some R) ∧ ρ.σ n = some u ∧ RowOk W (ρ.ren [] rs) w u Q ∧ (∀ b, Q.touch u b → R.touch u b) ∧ (Q.own.isSome = true → R.own.isSome = true) := fun k n Q hk hQ => by
    obtain ⟨⟨R, h1, h2⟩, h3, h4⟩ := hrows k n Q hk hQ
    obtain ⟨u, hu, hok⟩ := hm.row n R (hR n R h1)
    refine ⟨R, u, hR n R h1, hu, (hok.weak h2).ren h3, fun b ht => h2.touch (v := u) (b := b) ht, fun ho => ?_⟩
    rcases h2.own with h5 | h5
    · dsimp only at h5; rw [h5] at ho; cases ho
    · dsimp only at h5; rw [← h5]; exact ho
  have hvals : (rs.map fun n => (ρ.σ n).getD undef).length = Qs.length := by simpa using hl
  have hget : ∀ k, k < rs.length → (rs.map fun n => (ρ.σ n).getD undef)[k]? = ρ.σ (nth rs k) := fun k hk => by
    have h1 : rs[k]? = some (nth rs k) := by simp [nth, List.getD, hk]
    rw [List.getElem?_map, h1]
    obtain ⟨R, u, _, hu, _⟩ := hrow k (nth rs k) (Qs[k]'(by omega)) h1 (List.getElem?_eq_getElem (by omega))
    simp [hu]
  have hle : (ρ.ren [] rs).le ⟨fun _ => none, fun r => (rs.map fun n => (ρ.σ n).getD undef)[r]?, ρ.ι⟩ := by
    refine ⟨fun i b hb => by simp [Env.ren] at hb, fun r u hu => ?_, rfl⟩
    simp only [Env.ren] at hu
    split at hu
    · rename_i hr
      show (rs.map fun n => (ρ.σ n).getD undef)[r]? = some u
      rw [hget r hr]; exact hu
    · cases hu
  have hval : ∀ (k : Nat) u, (rs.map fun n => (ρ.σ n).getD undef)[k]? = some u → ∃ n, rs[k]? = some n ∧ (ρ.σ n).getD undef = u := fun k u hu => by
    rw [List.getElem?_map, Option.map_eq_some_iff] at hu
    exact hu
  have hkb : ∀ b, killBlk ρ h.kill = some b → W.mine b := fun b hb => by
    cases hk : h.kill with
    | none => rw [hk] at hb; cases hb
    | some r =>
      rw [hk] at hb
      simp only [killBlk] at hb
      split at hb
      · rename_i a nn c hσ
        split at hb
        · cases hb
        · rename_i hc
          injection hb with hb; subst hb
          obtain ⟨R, hR1, hRo⟩ := hkl r hk
          obtain ⟨u, hu, hok⟩ := hm.row r R hR1
          rw [hσ] at hu; injection hu with hu; subst hu
          obtain ⟨A, cap, hA, _, _, _, _, _, h2⟩ := hok.form
          injection hA with e1 _ e3
          subst e1 e3
          obtain ⟨el, hel⟩ := Option.isSome_iff_exists.1 hRo
          rcases h2 el hel with h0 | ⟨g', cur, fz, hg, hW, _⟩
          · exact absurd h0 hc
          · injection hg with hg; subst hg; exact hW
      · cases hb
  refine Calls.mono (calls_enter (killBlk ρ h.kill) hf hb (rs.map fun n => (ρ.σ n).getD undef) Qs args' hvals (hm.innCallee [] hkb) (fun k Q u hQ hu => ?_) (fun k k' Q Q' u u' b hne hQ hu hQ' hu' hown ht => ?_) ?_ (hwalk w (killBlk ρ h.kill) (fun h => by rw [h]; rfl) hm.below)) ?_
  · obtain ⟨n, hn, hu⟩ := hval k u hu
    obtain ⟨R, x, _, hx, hok, _⟩ := hrow k n Q hn hQ
    rw [hx, Option.getD_some] at hu
    subst hu
    have hok2 := hok.le hle
    obtain ⟨A, cap, hv, hcl2, hm2, hn2, ht, h1, h2⟩ := hok2.form
    rcases (hrows k n Q hn hQ).ro with ⟨ho, hnw⟩ | ⟨hk, ho⟩
    · exact ⟨⟨A, cap, hv, hcl2, hm2, hn2, ht, h1, fun e he => by rw [ho] at he; cases he⟩, hok2.each, fun hnw' => by rw [hnw] at hnw'; cases hnw'⟩
    · have hblk : ∀ b, A.map (·.block) = some b → cap ≠ 0 → killBlk ρ h.kill = some b := fun b hA hc => by
        rw [hk]
        simp only [killBlk, hx, hv]
        cases A with
        | none => cases hA
        | some ad => simp at hA; simp [hc, hA]
      refine ⟨⟨A, cap, hv, hcl2, hm2, hn2, ht, h1, fun e he => ?_⟩, hok2.each, fun _ b htch => ?_⟩
      · rcases h2 e he with h | ⟨g, cur, fz, hg, _, hh⟩
        · exact .inl h
        · by_cases hc : cap = 0
          · exact .inl hc
          · exact .inr ⟨g, cur, fz, hg, .inr (hblk g (by rw [hg]; rfl) hc), hh⟩
      · refine .inr (hblk b ?_ ?_)
        · have := htch.1
          rw [hv] at this
          cases A with
          | none => simp [Value.ownBlock] at this
          | some ad => simpa [Value.ownBlock] using this
        · rcases htch.2 with ⟨_, h⟩ | h
          · rw [hv] at h; simp [capOf] at h; omega
          · omega
  · obtain ⟨n, hn, hu⟩ := hval k u hu
    obtain ⟨n', hn', hu'⟩ := hval k' u' hu'
    obtain ⟨R, x, hR1, hx, _, ht1, ho1⟩ := hrow k n Q hn hQ
    obtain ⟨R', x', hR1', hx', _, ht1', _⟩ := hrow k' n' Q' hn' hQ'
    rw [hx, Option.getD_some] at hu
    rw [hx', Option.getD_some] at hu'
    subst hu hu'
    have hnn : n ≠ n' := by
      rcases (hrows k n Q hn hQ).ro with ⟨ho, _⟩ | ⟨hk, _⟩
      · rw [ho] at hown; cases hown
      · rintro rfl
        exact hne (hkill n hk k k' hn hn')
    exact fun ht' => hm.rowRow n n' R R' _ _ b hnn hR1 hR1' hx hx' (ho1 hown) (ht1 b ht) (ht1' b ht')
  · have key : ∀ (l : List SV) (vs : List Value), l.all (SV.inn 0 rs.length) = true → reps ρ (l.map (SV.ren [] rs)) vs → reps (ρ.ren [] rs) l vs := by
      intro l
      induction l with
      | nil => intro vs _ h; cases vs with
        | nil => trivial
        | cons => exact h.elim
      | cons x l ih =>
        intro vs hl h
        simp only [List.all_cons, Bool.and_eq_true] at hl
        cases vs with
        | nil => exact h.elim
        | cons v vs => exact ⟨SV.ren_rep (bs := []) (by simpa using hl.1) h.1, ih vs hl.2 h.2⟩
    rw [← hargs] at hreps
    exact reps_le hle (key args' vs hin hreps)
  · rintro e w' ⟨v, vals, rfl, hb, hn, hres⟩
    exact ⟨v, vals, rfl, hb, hn W ρ hm.below.size hkb, fun n ρ' _ hσ => hres n ρ' hσ⟩
theorem CallOk.enter {P : Program} {W : Base} {B : List (Option (List At))} {Rs : List (Option Row)} {g : FuncId} {h : Hd} {fn : Func} {c : Code} (hf : P.funcs[g]? = some fn) (hn : (fn.name == "runtime.NumGoroutine") = false) (hb : fn.body = some c)
    (rs : List Nat) (Qs : List Row) (args' : List SV) {args : List SV} (hl : rs.length = Qs.length) (hrows : ∀ (k n : Nat) Q, rs[k]? = some n → Qs[k]? = some Q → ArgRow Rs rs h.kill n Q)
    (hkill : ∀ r, h.kill = some r → ∀ (k k' : Nat), rs[k]? = some r → rs[k']? = some r → k = k')
    (hargs : args'.map (SV.ren [] rs) = args) (hin : args'.all (SV.inn 0 rs.length) = true)
    (hwalk : ∀ w blk, (h.kill = none → blk = none) → SG P ⟨g, none, []⟩ (Post w blk h) ⟨w, blk, [], []⟩ [.code c] ⟨args' ++ List.replicate (fn.ntmps - args'.length) (.tup []), [], Qs.map some, []⟩) : CallOk P W B Rs g args h :=
  CallOk.enterK hf hn hb rs Qs args' hl hrows hkill hargs hin fun w blk hk _ => hwalk w blk hk

/-! Small lists of rows. -/
theorem rows0 {A : Nat → Row → Prop} : ∀ (k n : Nat) Q, ([] : List Nat)[k]? = some n → ([] : List Row)[k]? = some Q → A n Q := fun k n Q h => by simp at h
theorem rows1 {A : Nat → Row → Prop} {n0 : Nat} {Q0 : Row} (h0 : A n0 Q0) : ∀ (k n : Nat) Q, [n0][k]? = some n → [Q0][k]? = some Q → A n Q := fun k n Q h h' => by
  cases k with
  | zero => simp at h h'; subst h h'; exact h0
  | succ k => simp at h
theorem rows2 {A : Nat → Row → Prop} {n0 n1 : Nat} {Q0 Q1 : Row} (h0 : A n0 Q0) (h1 : A n1 Q1) : ∀ (k n : Nat) Q, [n0, n1][k]? = some n → [Q0, Q1][k]? = some Q → A n Q := fun k n Q h h' => by
  match k with
  | 0 => simp at h h'; subst h h'; exact h0
  | 1 => simp at h h'; subst h h'; exact h1
  | k + 2 => simp at h
theorem rows3 {A : Nat → Row → Prop} {n0 n1 n2 : Nat} {Q0 Q1 Q2 : Row} (h0 : A n0 Q0) (h1 : A n1 Q1) (h2 : A n2 Q2) : ∀ (k n : Nat) Q, [n0, n1, n2][k]? = some n → [Q0, Q1, Q2][k]? = some Q → A n Q := fun k n Q h h' => by
  match k with
  | 0 => simp at h h'; subst h h'; exact h0
  | 1 => simp at h h'; subst h h'; exact h1
  | 2 => simp at h h'; subst h h'; exact h2
  | k + 3 => simp at h
end Go.Sx
