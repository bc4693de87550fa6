/- A region whose order is drawn: each order by itself. -/
import Derived.Test.YtecpnblhhjndgaaSxX
namespace Go.Sx
open Go.RowKit
set_option linter.unusedVariables false
set_option linter.unusedSimpArgs false
def depsOf : List Oper → List (List Nat)
  | [] => []
  | o :: l => ((o.after.toList.filter (Region.binds .any)).map (·.on)) :: depsOf l
def fDeps : List (List Nat) → (List (List Nat) → Prop) → Prop
  | [], k => k []
  | d :: l, k => fNats d fun d => fDeps l fun l => k (d :: l)
theorem fDeps_eq : ∀ (l : List (List Nat)) (k : List (List Nat) → Prop), fDeps l k = k l
  | [], k => rfl
  | d :: l, k => by simp only [fDeps, fNats_eq, fDeps_eq l]
def allBit (listed : List Bool) : List Nat → Bool
  | [] => true
  | d :: l => bit listed d && allBit listed l
def rdy (listed : List Bool) : List (List Nat) → Nat → List Nat
  | [], _ => []
  | d :: l, i => match bit listed i with
    | true => rdy listed l (i + 1)
    | false => match allBit listed d with
      | true => i :: rdy listed l (i + 1)
      | false => rdy listed l (i + 1)
def allOf (K : Nat → Prop) : Nat → List Nat → Prop
  | i, [] => K i
  | i, j :: l => K i ∧ allOf K j l
theorem allOf_get {K : Nat → Prop} : ∀ {l : List Nat} {i j : Nat}, allOf K i l → j ∈ i :: l → K j
  | [], i, j, h, hj => by simp at hj; subst hj; exact h
  | x :: l, i, j, h, hj => by
    rcases List.mem_cons.1 hj with rfl | hj
    · exact h.1
    · exact allOf_get h.2 hj
def eachOrd (deps : List (List Nat)) (K : List Nat → Prop) : Nat → List Bool → List Nat → Prop
  | 0, _, acc => fNats acc.reverse K
  | n + 1, listed, acc => fNats (rdy listed deps 0) fun rs => match rs with
    | [] => fNats acc.reverse K
    | i :: l => allOf (fun i => fNat i fun i => fBools (listed.set i true) fun listed => eachOrd deps K n listed (i :: acc)) i l
theorem rdy_eq {ops : Array Oper} {listed : List Bool} (hl : listed.length = ops.size) : ∀ (l : List Oper) (i : Nat), (∀ j, l[j]? = ops[i + j]?) → rdy listed (depsOf l) i = (List.range' i l.length).filter (fun i => !listed.toArray.getD i true && ((ops[i]?).map (·.after.all fun e => !Region.binds .any e || listed.toArray.getD e.on false)).getD false)
  | [], i, _ => rfl
  | o :: l, i, h => by
    have ih := rdy_eq hl l (i + 1) (fun j => by have := h (j + 1); simp at this; rw [this]; congr 1; omega)
    have h0 : ops[i]? = some o := (h 0).symm
    have hlt : i < ops.size := (Array.getElem?_eq_some_iff.1 h0).1
    have hb : listed.toArray.getD i true = bit listed i := by
      unfold bit
      simp [Array.getD_eq_getD_getElem?, hl, hlt]
    have hall : ∀ (es : List Edge), allBit listed ((es.filter (Region.binds .any)).map (·.on)) = es.all fun e => !Region.binds .any e || listed.toArray.getD e.on false := by
      intro es
      induction es with
      | nil => rfl
      | cons e es ih2 =>
        have he : listed.toArray.getD e.on false = bit listed e.on := by
          unfold bit
          simp only [Array.getD_eq_getD_getElem?, List.getElem?_toArray]
          cases listed[e.on]? <;> rfl
        rw [List.all_cons, ← ih2, List.filter_cons, he]
        cases hbd : Region.binds .any e
        · simp
        · simp [allBit]
    simp only [depsOf, rdy, List.length_cons, List.range'_succ, List.filter_cons, hb, h0, Option.map_some, Option.getD_some, ih, hall]
    rw [← Array.all_toList]
    cases bit listed i <;> cases (o.after.toList.all fun e => !Region.binds .any e || listed.toArray.getD e.on false) <;> simp
theorem ord_sound {ops : Array Oper} {K : List Nat → Prop} : ∀ (n t : Nat) (listed : List Bool) (acc : List Nat), listed.length = ops.size → eachOrd (depsOf ops.toList) K n listed acc → K (Region.linearise.go .any ops n t listed.toArray acc)
  | 0, t, listed, acc, hl, h => by
    simp only [eachOrd, fNats_eq] at h
    simpa [Region.linearise.go] using h
  | n + 1, t, listed, acc, hl, h => by
    simp only [eachOrd] at h
    rw [fNats_eq, rdy_eq hl ops.toList 0 (fun j => by simp)] at h
    simp only [Array.length_toList, ← List.range_eq_range'] at h
    simp only [Region.linearise.go]
    generalize (List.range ops.size).filter _ = rs at h
    cases rs with
    | nil =>
      simp only [fNats_eq] at h
      simpa using h
    | cons i l =>
      simp only at h
      have hlt : t % (i :: l).length < (i :: l).length := Nat.mod_lt _ (by simp)
      rw [List.getElem?_eq_getElem hlt]
      have := allOf_get h (List.getElem_mem hlt)
      simp only [fNat_eq, fBools_eq] at this
      have ih := ord_sound n (t / (i :: l).length) _ _ (by simpa using hl) this
      simpa using ih
section
variable {P : Program} {f : Fr} {R : Ending → World → Prop} {W : Base} {s : St}
theorem SG.anyOrder (hmx : P.follows .mixedOrders = true) {id : Nat} {ops : Array Oper} {k : List Item}
    (h : fDeps (depsOf ops.toList) fun deps => fBools (List.replicate deps.length false) fun no => eachOrd deps (fun o => SG P f R W (.inRegion ops o :: k) s) deps.length no []) : SG P f R W (.code (.region id ops true) :: k) s := by
  have hd : ∀ l : List Oper, (depsOf l).length = l.length := fun l => by induction l with
    | nil => rfl
    | cons o l ih => simp [depsOf, ih]
  rw [fDeps_eq, fBools_eq, hd, Array.length_toList] at h
  refine ⟨fun ρ w a hm hf hdm => good_region_any hmx fun t => ?_⟩
  have := ord_sound (K := fun o => SG P f R W (.inRegion ops o :: k) s) ops.size t _ [] (by simp) h
  rw [List.toArray_replicate] at this
  exact this.run ρ _ a (hm.keep ⟨hm.below.os, hm.below.tape, hm.below.output, hm.below.size, hm.below.block, hm.below.objs, hm.below.low, hm.below.nd⟩ (Nat.le_refl _) (fun _ _ _ _ _ => rfl) (fun _ _ _ _ _ _ _ => rfl)) hf hdm
/-- A nil slice within a struct in a slot becomes a row. -/
theorem SG.nilSlotAt {todo : List Item} (i jj : Nat) (e : TypeId) (sz : Nat) {l : List At} (hF : s.F[i]? = some (.cv (.agg l))) (hl : l[jj]? = some (.v (.slice none 0 0)))
    (h : SG P f R W todo ⟨s.F.set i (.cv (.agg (l.set jj (.rs s.R.length)))), s.B, setAt s.R s.R.length ⟨sz, 0, fun _ => [], some e, false, true⟩, s.G⟩) : SG P f R W todo s := by
  refine ⟨fun ρ w a hm hf hd => ?_⟩
  have hn := hd.row s.R.length (Nat.le_refl _)
  have h1 := hm.newRow (v := .slice none 0 0) (R := ⟨sz, 0, fun _ => [], some e, false, true⟩) hn ⟨⟨none, 0, rfl, Nat.le_refl _, Nat.zero_le _, fun _ => rfl, (fun h => by cases h), fun h => absurd h (by simp), fun _ _ => .inl rfl⟩, fun i hi => absurd hi (by simp), fun _ b ht => by cases ht.1⟩
    (fun i c b _ _ ht => by cases ht.1) (fun r R' v' b _ _ _ _ ht => by cases ht.1)
  have hle : ρ.le ⟨ρ.β, upd ρ.σ s.R.length (.slice none 0 0)⟩ := Env.le_row hn _
  have hσ : (upd ρ.σ s.R.length (.slice none 0 0)) s.R.length = some (.slice none 0 0) := upd_same _ _ _
  have hd' : dens ⟨ρ.β, upd ρ.σ s.R.length (.slice none 0 0)⟩ (l.set jj (.rs s.R.length)) = dens ⟨ρ.β, upd ρ.σ s.R.length (.slice none 0 0)⟩ l := by
    exact dens_set hl (by simp [At.den, hσ, Value.oneCell'])
  refine h.run ⟨ρ.β, upd ρ.σ s.R.length (.slice none 0 0)⟩ w a (h1.sub (fun _ _ h => h) (fun _ _ h => h)) ⟨hf.defers, ?_⟩ ⟨hd.box, fun r hr => ?_⟩
  · refine reps_set_self i (reps_le hle hf.tmps) hF fun v hv => ?_
    simp only [SV.rep, Cv.den] at hv ⊢
    rw [hd']; exact hv
  · simp only [setAt_len] at hr
    show upd _ _ _ _ = _
    rw [upd_ne _ _ (by omega)]
    exact hd.row r (by omega)
end
end Go.Sx
