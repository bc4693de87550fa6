/- A region whose order is drawn: each order by itself. -/
import Derived.Test.YtlbldfdkicofdaaSxX
namespace Go.Sx
open Go.RowKit
set_option linter.unusedVariables false
set_option linter.unusedSimpArgs false
def depsOf : List Oper → List (List Nat)
  | [] => []
  | o :: l => ((o.after.toList.filter (Region.binds .any)).map (·.on)) :: depsOf l
def fDeps : List (List Nat) → (List (List Nat) → Prop) → Prop
  | [], k => k []
  | d :: l, k => fNats d fun d => fDeps l fun l => k (d :: l)
theorem fDeps_eq : ∀ (l : List (List Nat)) (k : List (List Nat) → Prop), fDeps l k = k l
  | [], k => rfl
  | d :: l, k => by simp only [fDeps, fNats_eq, fDeps_eq l]
def allBit (listed : List Bool) : List Nat → Bool
  | [] => true
  | d :: l => bit listed d && allBit listed l
def rdy (listed : List Bool) : List (List Nat) → Nat → List Nat
  | [], _ => []
  | d :: l, i => match bit listed i with
    | true => rdy listed l (i + 1)
    | false => match allBit listed d with
      | true => i :: rdy listed l (i + 1)
      | false => rdy listed l (i + 1)
def allOf (K : Nat → Prop) : Nat → List Nat → Prop
  | i, [] => K i
  | i, j :: l => K i ∧ allOf K j l
theorem allOf_get {K : Nat → Prop} : ∀ {l : List Nat} {i j : Nat}, allOf K i l → j ∈ i :: l → K j
  | [], i, j, h, hj => by simp at hj; subst hj; exact h
  | x :: l, i, j, h, hj => by
    rcases List.mem_cons.1 hj with rfl | hj
    · exact h.1
    · exact allOf_get h.2 hj
def eachOrd (deps : List (List Nat)) (K : List Nat → Prop) : Nat → List Bool → List Nat → Prop
  | 0, _, acc => fNats acc.reverse K
  | n + 1, listed, acc => fNats (rdy listed deps 0) fun rs => match rs with
    | [] => fNats acc.reverse K
    | i :: l => allOf (fun i => fNat i fun i => fBools (listed.set i true) fun listed => eachOrd deps K n listed (i :: acc)) i l
theorem rdy_eq {ops : Array Oper} {listed : List Bool} (hl : listed.length = ops.size) : ∀ (l : List Oper) (i : Nat), (∀ j, l[j]? = ops[i + j]?) → rdy listed (depsOf l) i = (List.range' i l.length).filter (fun i => !listed.toArray.getD i true && ((ops[i]?).map (·.after.all fun e => !Region.binds .any e || listed.toArray.getD e.on false)).getD false)
  | [], i, _ => rfl
  | o :: l, i, h => by
    have ih := rdy_eq hl l (i + 1) (fun j => by have := h (j + 1); simp at this; rw [this]; congr 1; omega)
    have h0 : ops[i]? = some o := (h 0).symm
    have hlt : i < ops.size := (Array.getElem?_eq_some_iff.1 h0).1
    have hb : listed.toArray.getD i true = bit listed i := by
      unfold bit
      simp [Array.getD_eq_getD_getElem?, hl, hlt]
    have hall : ∀ (es : List Edge), allBit listed ((es.filter (Region.binds .any)).map (·.on)) = es.all fun e => !Region.binds .any e || listed.toArray.getD e.on false := by
      intro es
      induction es with
      | nil => rfl
      | cons e es ih2 =>
        have he : listed.toArray.getD e.on false = bit listed e.on := by
          unfold bit
          simp only [Array.getD_eq_getD_getElem?, List.getElem?_toArray]
          cases listed[e.on]? <;> rfl
        rw [List.all_cons, ← ih2, List.filter_cons, he]
        cases hbd : Region.binds .any e
        · simp
        · simp [allBit]
    simp only [depsOf, rdy, List.length_cons, List.range'_succ, List.filter_cons, hb, h0, Option.map_some, Option.getD_some, ih, hall]
    rw [← Array.all_toList]
    cases bit listed i <;> cases (o.after.toList.all fun e => !Region.binds .any e || listed.toArray.getD e.on false) <;> simp
theorem ord_sound {ops : Array Oper} {K : List Nat → Prop} : ∀ (n t : Nat) (listed : List Bool) (acc : List Nat), listed.length = ops.size → eachOrd (depsOf ops.toList) K n listed acc → K (Region.linearise.go .any ops n t listed.toArray acc)
  | 0, t, listed, acc, hl, h => by
    simp only [eachOrd, fNats_eq] at h
    simpa [Region.linearise.go] using h
  | n + 1, t, listed, acc, hl, h => by
    simp only [eachOrd] at h
    rw [fNats_eq, rdy_eq hl ops.toList 0 (fun j => by simp)] at h
    simp only [Array.length_toList, ← List.range_eq_range'] at h
    simp only [Region.linearise.go]
    generalize (List.range ops.size).filter _ = rs at h
    cases rs with
    | nil =>
      simp only [fNats_eq] at h
      simpa using h
    | cons i l =>
      simp only at h
      have hlt : t % (i :: l).length < (i :: l).length := Nat.mod_lt _ (by simp)
      rw [List.getElem?_eq_getElem hlt]
      have := allOf_get h (List.getElem_mem hlt)
      simp only [fNat_eq, fBools_eq] at this
      have ih := ord_sound n (t / (i :: l).length) _ _ (by simpa using hl) this
      simpa using ih
section
variable {P : Program} {f : Fr} {R : Ending → World → Prop} {W : Base} {s : St}
theorem SG.anyOrder (hmx : P.follows .mixedOrders = true) {id : Nat} {ops : Array Oper} {k : List Item}
    (h : fDeps (depsOf ops.toList) fun deps => fBools (List.replicate deps.length false) fun no => eachOrd deps (fun o => SG P f R W (.inRegion ops o :: k) s) deps.length no []) : SG P f R W (.code (.region id ops true) :: k) s := by
  have hd : ∀ l : List Oper, (depsOf l).length = l.length := fun l => by induction l with
    | nil => rfl
    | cons o l ih => simp [depsOf, ih]
  rw [fDeps_eq, fBools_eq, hd, Array.length_toList] at h
  refine ⟨fun ρ w a hm hf hdm => good_region_any hmx fun t => ?_⟩
  have := ord_sound (K := fun o => SG P f R W (.inRegion ops o :: k) s) ops.size t _ [] (by simp) h
  rw [List.toArray_replicate] at this
  exact this.run ρ _ a (hm.keep ⟨hm.below.os, hm.below.tape, hm.below.output, hm.below.size, hm.below.block, hm.below.objs, hm.below.low, hm.below.nd⟩ (Nat.le_refl _) (fun _ _ _ _ _ => rfl) (fun _ _ _ _ _ _ _ => rfl)) hf hdm
/-- A nil slice within a struct in a slot becomes a row. -/
theorem SG.nilSlotAt {todo : List Item} (i jj : Nat) (e : TypeId) (sz : Nat) {l : List At} (hF : s.F[i]? = some (.cv (.agg l))) (hl : l[jj]? = some (.v (.slice none 0 0)))
    (h : SG P f R W todo ⟨s.F.set i (.cv (.agg (l.set jj (.rs s.R.length)))), s.B, setAt s.R s.R.length ⟨sz, 0, fun _ => [], some e, false, true⟩, s.G⟩) : SG P f R W todo s := by
  refine ⟨fun ρ w a hm hf hd => ?_⟩
  have hn := hd.row s.R.length (Nat.le_refl _)
  have h1 := hm.newRow (v := .slice none 0 0) (R := ⟨sz, 0, fun _ => [], some e, false, true⟩) hn ⟨⟨none, 0, rfl, Nat.le_refl _, Nat.zero_le _, fun _ => rfl, (fun h => by cases h), fun h => absurd h (by simp), fun _ _ => .inl rfl⟩, fun i hi => absurd hi (by simp), fun _ b ht => by cases ht.1⟩
    (fun i c b _ _ ht => by cases ht.1) (fun r R' v' b _ _ _ _ ht => by cases ht.1)
  have hle : ρ.le ⟨ρ.β, upd ρ.σ s.R.length (.slice none 0 0), ρ.ι⟩ := Env.le_row hn _
  have hσ : (upd ρ.σ s.R.length (.slice none 0 0)) s.R.length = some (.slice none 0 0) := upd_same _ _ _
  have hd' : dens ⟨ρ.β, upd ρ.σ s.R.length (.slice none 0 0), ρ.ι⟩ (l.set jj (.rs s.R.length)) = dens ⟨ρ.β, upd ρ.σ s.R.length (.slice none 0 0), ρ.ι⟩ l := by
    exact dens_set hl (by simp [At.den, hσ, Value.oneCell'])
  refine h.run ⟨ρ.β, upd ρ.σ s.R.length (.slice none 0 0), ρ.ι⟩ w a (h1.sub (fun _ _ h => h) (fun _ _ h => h)) ⟨hf.defers, ?_⟩ ⟨hd.box, fun r hr => ?_⟩
  · refine reps_set_self i (reps_le hle hf.tmps) hF fun v hv => ?_
    simp only [SV.rep, Cv.den] at hv ⊢
    rw [hd']; exact hv
  · simp only [setAt_len] at hr
    show upd _ _ _ _ = _
    rw [upd_ne _ _ (by omega)]
    exact hd.row r (by omega)
end
/-! A function that answers an argument as it is: the argument's value is kept as a ghost. -/
theorem calls_enterG {P : Program} {R : Ending → World → Prop} {f : FuncId} {fn : Func} {c : Code} {args : Array Value} {w : World} (hf : P.funcs[f]? = some fn) (hb : fn.body = some c) (vals : List Value) (rows : List Row) (F : List SV) {ι : Value → Nat → Nat → (Nat → List Value) → Prop} (hl : vals.length = rows.length)
    (hι : ∀ c sz len cells, ι c sz len cells → InnOk ⟨w, none, args.toList, []⟩ c sz len cells)
    (hrows : ∀ (k : Nat) R u, rows[k]? = some R → vals[k]? = some u → RowOk ⟨w, none, args.toList, []⟩ ⟨fun _ => none, fun r => vals[r]?, ι⟩ w u R)
    (hapart : ∀ (k k' : Nat) R R' u u' b, k ≠ k' → rows[k]? = some R → vals[k]? = some u → rows[k']? = some R' → vals[k']? = some u' → R.own.isSome = true → R.touch u b → ¬ R'.touch u' b)
    (hargs : reps ⟨fun _ => none, fun r => vals[r]?, ι⟩ F args.toList)
    (h : SG P ⟨f, none, []⟩ R ⟨w, none, args.toList, []⟩ [.code c] ⟨F ++ List.replicate (fn.ntmps - F.length) (.tup []), [], rows.map some, F⟩) : Calls P f args w R := by
  refine calls_of_good hf hb (h.run ⟨fun _ => none, fun r => vals[r]?, ι⟩ w _ ⟨Kept.refl _ _ _, fun i c hi => by simp at hi, fun i j c d b _ hi => by simp at hi, fun r R hr => ?_, fun r R v i c b _ _ hi => by simp at hi, fun r r' R R' v v' b hne hr hr' hv hv' hown ht => ?_, hargs, hι⟩ ⟨rfl, ?_⟩ ⟨fun i _ => rfl, fun r hr => ?_⟩)
  · have hr' : rows[r]? = some R := by simpa using hr
    have hlt := (List.getElem?_eq_some_iff.1 hr').1
    have hv : vals[r]? = some vals[r] := List.getElem?_eq_getElem (by omega)
    exact ⟨_, hv, hrows r R _ hr' hv⟩
  · exact hapart r r' R R' v v' b hne (by simpa using hr) hv (by simpa using hr') hv' hown ht
  · have := reps_len hargs
    simp only [Array.toList_append, Array.toList_replicate]
    have he : args.size = F.length := by simpa using this
    rw [he]
    exact reps_append hargs (reps_undef _)
  · show vals[r]? = none
    simp at hr
    exact List.getElem?_eq_none (by omega)
def PostB (w : World) (vs : List Value) (j : Nat) (cs : List Cv) (e : Ending) (w' : World) : Prop :=
  ∃ u us, vs[j]? = some u ∧ e = .returned (.tuple (u :: us).toArray) ∧ w.grownBy w' none ∧ ∀ ρ, cvDens ρ cs = some us
theorem cvDens_closedI {ρ ρ' : Env} (hι : ρ.ι = ρ'.ι) : ∀ {cs : List Cv}, cs.all (Cv.inn 0 0) = true → cvDens ρ cs = cvDens ρ' cs := by
  have hat : ∀ (x : At), x.inn 0 0 = true → x.den ρ = x.den ρ' := by
    intro x hx
    have h1 : ∀ τ : Env, x.den (τ.ren [] []) = (x.ren [] []).den τ := fun τ => At.ren_den (bs := []) (rs := []) (by simpa using hx)
    have h2 : ρ.ren [] [] = ρ'.ren [] [] := by simp [Env.ren, hι]
    have h3 : x.ren [] [] = x := by
      cases x with
      | pt p => cases p <;> first | rfl | simp [At.inn, Pt.inn] at hx
      | rs r => simp [At.inn] at hx
      | clo f c =>
        cases c with
        | nil => rfl
        | cons p l =>
          simp only [At.inn] at hx
          simp only [At.ren]
          congr 1
          have : ∀ (l : List Pt), l.all (Pt.inn 0 0) = true → l.map (Pt.ren [] []) = l := by
            intro l
            induction l with
            | nil => intro _; rfl
            | cons y l ih =>
              intro h
              simp only [List.all_cons, Bool.and_eq_true] at h
              rw [List.map_cons, ih h.2]
              cases y <;> first | rfl | simp [Pt.inn] at h
          exact this _ hx
      | clb f a l =>
        simp only [At.inn] at hx
        simp only [At.ren]
        congr 1
        have : ∀ (l : List BAt), l.all (BAt.inn 0) = true → l.map (BAt.ren []) = l := by
          intro l
          induction l with
          | nil => intro _; rfl
          | cons y l ih =>
            intro h
            simp only [List.all_cons, Bool.and_eq_true] at h
            rw [List.map_cons, ih h.2]
            cases y with
            | rs r => simp [BAt.inn] at h
            | _ => rfl
        exact this l hx
      | _ => rfl
    have h4 := h1 ρ
    have h5 := h1 ρ'
    rw [h3] at h4 h5
    rw [← h4, ← h5, h2]
  have hats : ∀ (l : List At), l.all (At.inn 0 0) = true → dens ρ l = dens ρ' l := by
    intro l
    induction l with
    | nil => intro _; rfl
    | cons y l ih =>
      intro h
      simp only [List.all_cons, Bool.and_eq_true] at h
      simp only [dens, hat y h.1, ih h.2]
  intro cs
  induction cs with
  | nil => intro _; rfl
  | cons c cs ih =>
    intro h
    simp only [List.all_cons, Bool.and_eq_true] at h
    have hc : c.den ρ = c.den ρ' := by
      cases c with
      | one x => exact hat x h.1
      | agg l => simp only [Cv.den, hats l h.1]
    simp only [cvDens, hc, ih h.2]
theorem cvDens_closed {ρ ρ' : Env} {cs : List Cv} (h : (cs.all (Cv.inn 0 0) && cs.all Cv.noRo) = true) : cvDens ρ cs = cvDens ρ' cs := by
  rw [Bool.and_eq_true] at h
  exact (cvDens_noRo (ι' := ρ'.ι) h.2).symm.trans (cvDens_closedI (ρ := ⟨ρ.β, ρ.σ, ρ'.ι⟩) (ρ' := ρ') rfl h.1)
theorem PostB.mk {w w' : World} {vs : List Value} {j : Nat} {x' : Cv} {cs : List Cv} {s : St} {ρ : Env} {v : Value} (hm : Mem ⟨w, none, vs, []⟩ s ρ w') (hv : (SV.tup (x' :: cs)).rep ρ v) (hG : s.G[j]? = some (.cv x')) (hcs : (cs.all (Cv.inn 0 0) && cs.all Cv.noRo) = true) : PostB w vs j cs (.returned v) w' := by
  obtain ⟨u, hu, hru⟩ := reps_get hm.ghost hG
  obtain ⟨l, hl, rfl⟩ := hv
  simp only [cvDens] at hl
  simp only [SV.rep] at hru
  rw [hru] at hl
  split at hl
  · rename_i a us ha hus
    injection ha with ha; subst ha
    injection hl with hl; subst hl
    exact ⟨u, us, hu, rfl, ⟨hm.below.os, hm.below.tape, hm.below.output, hm.below.size, fun k hk hne => hm.below.block k hk (fun e => hne e.symm)⟩, fun ρ' => by rw [← hus]; exact cvDens_closed hcs⟩
  · cases hl
theorem CallOk.enterBack {P : Program} {W : Base} {B : List (Option (List At))} {Rs : List (Option Row)} {g : FuncId} {fn : Func} {c : Code} (hf : P.funcs[g]? = some fn) (hn : (fn.name == "runtime.NumGoroutine") = false) (hb : fn.body = some c)
    (rs : List Nat) (Qs : List Row) (args' : List SV) {args : List SV} (hl : rs.length = Qs.length) (hrows : ∀ (k n : Nat) Q, rs[k]? = some n → Qs[k]? = some Q → ArgRow Rs rs none n Q)
    (hargs : args'.map (SV.ren [] rs) = args) (hin : args'.all (SV.inn 0 rs.length) = true) (j : Nat) {x : Cv} (hx : args[j]? = some (.cv x)) (cs : List Cv)
    (hwalk : ∀ w vs, SG P ⟨g, none, []⟩ (PostB w vs j cs) ⟨w, none, vs, []⟩ [.code c] ⟨args' ++ List.replicate (fn.ntmps - args'.length) (.tup []), [], Qs.map some, args'⟩) : CallOk P W B Rs g args ⟨fun _ => .tup (x :: cs), [], none⟩ := by
  refine ⟨⟨fn, hf, hn, by rw [hb]; rfl⟩, fun s' ρ w vs hm hR _ hkl hreps => ?_⟩
  have hreps0 := hreps
  have hrow : ∀ (k n : Nat) Q, rs[k]? = some n → Qs[k]? = some Q → ∃ R u, s'.R[n]? = some (some R) ∧ ρ.σ n = some u ∧ RowOk W (ρ.ren [] rs) w u Q := fun k n Q hk hQ => by
    obtain ⟨⟨R, h1, h2⟩, h3, h4⟩ := hrows k n Q hk hQ
    obtain ⟨u, hu, hok⟩ := hm.row n R (hR n R h1)
    exact ⟨R, u, hR n R h1, hu, (hok.weak h2).ren h3⟩
  have hvals : (rs.map fun n => (ρ.σ n).getD undef).length = Qs.length := by simpa using hl
  have hget : ∀ k, k < rs.length → (rs.map fun n => (ρ.σ n).getD undef)[k]? = ρ.σ (nth rs k) := fun k hk => by
    have h1 : rs[k]? = some (nth rs k) := by simp [nth, List.getD, hk]
    rw [List.getElem?_map, h1]
    obtain ⟨R, u, _, hu, _⟩ := hrow k (nth rs k) (Qs[k]'(by omega)) h1 (List.getElem?_eq_getElem (by omega))
    simp [hu]
  have hle : (ρ.ren [] rs).le ⟨fun _ => none, fun r => (rs.map fun n => (ρ.σ n).getD undef)[r]?, ρ.ι⟩ := by
    refine ⟨fun i b hb => by simp [Env.ren] at hb, fun r u hu => ?_, rfl⟩
    simp only [Env.ren] at hu
    split at hu
    · rename_i hr
      show (rs.map fun n => (ρ.σ n).getD undef)[r]? = some u
      rw [hget r hr]; exact hu
    · cases hu
  have hval : ∀ (k : Nat) u, (rs.map fun n => (ρ.σ n).getD undef)[k]? = some u → ∃ n, rs[k]? = some n ∧ (ρ.σ n).getD undef = u := fun k u hu => by
    rw [List.getElem?_map, Option.map_eq_some_iff] at hu
    exact hu
  have hro : ∀ (k n : Nat) Q, rs[k]? = some n → Qs[k]? = some Q → Q.own = none ∧ Q.new = false := fun k n Q hk hQ => by
    rcases (hrows k n Q hk hQ).ro with h | ⟨h, _⟩
    · exact h
    · cases h
  refine Calls.mono (calls_enterG hf hb (rs.map fun n => (ρ.σ n).getD undef) Qs args' hvals (hm.innCallee _ (fun b hb => by cases hb)) (fun k Q u hQ hu => ?_) (fun k k' Q Q' u u' b hne hQ hu hQ' hu' hown ht => ?_) ?_ (hwalk w vs.toArray.toList)) ?_
  · obtain ⟨n, hn, hu⟩ := hval k u hu
    obtain ⟨R, x, _, hx, hok⟩ := hrow k n Q hn hQ
    rw [hx, Option.getD_some] at hu
    subst hu
    have hok2 := hok.le hle
    obtain ⟨A, cap, hv, hcl2, hm2, hn2, ht, h1, h2⟩ := hok2.form
    obtain ⟨ho, hnw⟩ := hro k n Q hn hQ
    exact ⟨⟨A, cap, hv, hcl2, hm2, hn2, ht, h1, fun e he => by rw [ho] at he; cases he⟩, hok2.each, fun hnw' => by rw [hnw] at hnw'; cases hnw'⟩
  · obtain ⟨n, hn, _⟩ := hval k u hu
    rw [(hro k n Q hn hQ).1] at hown; cases hown
  · have key : ∀ (l : List SV) (vs : List Value), l.all (SV.inn 0 rs.length) = true → reps ρ (l.map (SV.ren [] rs)) vs → reps (ρ.ren [] rs) l vs := by
      intro l
      induction l with
      | nil => intro vs _ h; cases vs with
        | nil => trivial
        | cons => exact h.elim
      | cons x l ih =>
        intro vs hl h
        simp only [List.all_cons, Bool.and_eq_true] at hl
        cases vs with
        | nil => exact h.elim
        | cons v vs => exact ⟨SV.ren_rep (bs := []) (by simpa using hl.1) h.1, ih vs hl.2 h.2⟩
    rw [← hargs] at hreps
    exact reps_le hle (key args' vs hin hreps)
  · rintro e w' ⟨u, us, hu, rfl, hb, hcs⟩
    obtain ⟨u', hu', hru⟩ := reps_get hreps0 hx
    have huu : u = u' := by simp at hu; rw [hu'] at hu; injection hu with hu; exact hu.symm
    subst huu
    refine ⟨_, [], rfl, hb, ⟨rfl, fun k R u h => by simp at h, fun k k' R R' u u' b _ h => by simp at h⟩, fun n ρ' hle' _ => ⟨u :: us, ?_, rfl⟩⟩
    have h1 : x.den ρ' = some u := Cv.den_le hle' hru
    simp only [cvDens, h1, hcs ρ']
end Go.Sx
