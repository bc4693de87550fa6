/- Structs and slices that are written out; all operations together. -/
import Derived.Laws.MakeOwn
import Derived.Test.YtlbldfdkicofdaaSxG
namespace Go.Sx
open Go.RowKit
set_option linter.unusedVariables false
set_option linter.unusedSimpArgs false
set_option linter.unusedSectionVars false

theorem foldl_paste (off : Nat) : ∀ (us : List Value) (k : Nat) (vs : List Value), off + k + us.length ≤ vs.length →
    (us.zipIdx k).foldl (fun (cs : Array Value) (p : Value × Nat) => cs.setIfInBounds (off + p.2) p.1) vs.toArray = (vs.take (off + k) ++ (us ++ vs.drop (off + k + us.length))).toArray
  | [], k, vs, h => by simp
  | u :: us, k, vs, h => by
    simp only [List.zipIdx_cons, List.foldl_cons]
    have hl : off + k < vs.length := by simp at h; omega
    have : vs.toArray.setIfInBounds (off + k) u = (vs.set (off + k) u).toArray := by simp
    rw [this, foldl_paste off us (k + 1) (vs.set (off + k) u) (by simp at h ⊢; omega)]
    congr 1
    rw [← Nat.add_assoc]
    apply List.ext_getElem?
    intro q
    have e1 : (vs.set (off + k) u).length = vs.length := by simp
    have g1 := paste_get (vs.set (off + k) u) us (off + k + 1) q (by simp at h ⊢; omega)
    have g2 := paste_get vs (u :: us) (off + k) q (by simp at h ⊢; omega)
    rw [g2, g1]
    simp only [List.length_cons]
    by_cases h1 : q < off + k
    · rw [if_pos h1, if_pos (by omega), List.getElem?_set_ne (by omega)]
    · rw [if_neg h1]
      by_cases h2 : q = off + k
      · subst h2
        rw [if_pos (by omega), if_pos (by omega), List.getElem?_set_self hl]; simp
      · rw [if_neg (by omega)]
        by_cases h3 : q < off + k + 1 + us.length
        · rw [if_pos h3, if_pos (by omega), show q - (off + k) = q - (off + k + 1) + 1 by omega]; simp
        · rw [if_neg h3, if_neg (by omega), List.getElem?_set_ne (by omega)]
theorem fill_paste (off : Nat) (v : Value) (vs : List Value) (h : off + v.cells.size ≤ vs.length) :
    v.cells.zipIdx.foldl (fun (cs : Array Value) (p : Value × Nat) => cs.setIfInBounds (off + p.2) p.1) vs.toArray = (vs.take off ++ (v.cells.toList ++ vs.drop (off + v.cells.toList.length))).toArray := by
  have := foldl_paste off v.cells.toList 0 vs (by simpa using h)
  simp only [Nat.add_zero] at this
  rw [← this, ← Array.foldl_toList]
  simp

section
variable {ρ : Env} {get : Operand → Option SV} {e : Operand → Value} (hget : ∀ x sv, get x = some sv → sv.rep ρ (e x))
include hget
theorem fillParts_run {offs : Nat → Option (Nat × Nat)} : ∀ {parts : List (Nat × Operand)} {cs cs' : List At} {vs : List Value}, fillParts offs get cs parts = some cs' → dens ρ cs = some vs →
    ∃ vs', Instr.fill offs vs.toArray (parts.map fun p => (p.1, e p.2)) = some vs'.toArray ∧ dens ρ cs' = some vs'
  | [], cs, cs', vs, h, hd => by injection h with h; subst h; exact ⟨vs, rfl, hd⟩
  | (i, x) :: l, cs, cs', vs, h, hd => by
    simp only [fillParts] at h
    split at h
    · rename_i off size c hoff hx
      split at h
      · rename_i hc
        obtain ⟨h1, h2⟩ := hc
        have hcd := Cv.den_cells (hget _ _ hx)
        have hl := dens_len hcd
        have hsz : (e x).cells.size = size := by simpa using hl.trans h1
        have hvl := dens_len hd
        obtain ⟨vs', g1, g2⟩ := fillParts_run h (dens_pasted hd hcd off)
        refine ⟨vs', ?_, g2⟩
        rw [← g1]
        simp only [List.map_cons, Instr.fill, hoff]
        rw [if_neg (by simp [hsz]; omega)]
        rw [fill_paste off (e x) vs (by omega)]
      · cases h
    · cases h
theorem rowParts_run {size : Nat} : ∀ {parts : List (Nat × Operand)} {k : Nat} {css : List (List At)} {done rest : List Value}, rowParts get size k parts = some css → done.length = k * size → css.length * size ≤ rest.length →
    ∃ us : List Value, Instr.fill (fun i => some (i * size, size)) (done ++ rest).toArray (parts.map fun p => (p.1, e p.2)) = some (done ++ us ++ rest.drop (css.length * size)).toArray ∧ us.length = css.length * size ∧
      (∀ i c, css[i]? = some c → ∃ vs, dens ρ c = some vs ∧ vs.length = size ∧ ∀ j u, vs[j]? = some u → us[i * size + j]? = some u) ∧ (∀ u ∈ us, u.oneCell' = true)
  | [], k, css, done, rest, h, hd, hr => by
    injection h with h; subst h
    exact ⟨[], by simp [Instr.fill], by simp, fun i c hi => by simp at hi, by simp⟩
  | (i, x) :: l, k, css, done, rest, h, hd, hr => by
    simp only [rowParts] at h
    split at h
    · rename_i c hx
      split at h
      · rename_i hc
        obtain ⟨rfl, hcl⟩ := hc
        split at h
        · rename_i r hrest
          injection h with h; subst h
          have hcd := Cv.den_cells (hget _ _ hx)
          have hl := dens_len hcd
          have hsz : (e x).cells.size = size := by simpa using hl.trans hcl
          have hszl : (e x).cells.toList.length = size := by simpa using hsz
          simp only [List.length_cons, Nat.add_mul, Nat.one_mul] at hr
          obtain ⟨us, g1, g2, g3, g4⟩ := rowParts_run (done := done ++ (e x).cells.toList) (rest := rest.drop size) hrest (by simp [hd, hsz, Nat.add_mul]) (by simp; omega)
          refine ⟨(e x).cells.toList ++ us, ?_, by simp [g2, hsz, Nat.add_mul]; omega, ?_, ?_⟩
          · simp only [List.map_cons, Instr.fill]
            rw [if_neg (by simp [hsz, hd]; omega), fill_paste _ _ _ (by simp [hsz, hd]; omega)]
            have hpaste : (done ++ rest).take (i * size) ++ ((e x).cells.toList ++ (done ++ rest).drop (i * size + (e x).cells.toList.length)) = done ++ (e x).cells.toList ++ rest.drop size := by
              rw [hszl, ← hd]
              simp [List.drop_append]
            rw [hpaste, g1]
            congr 2
            simp only [List.append_assoc, List.drop_drop, List.length_cons, Nat.add_mul, Nat.one_mul]
            congr 3
            rw [Nat.add_comm]
          · intro i' c' hi'
            cases i' with
            | zero =>
              simp at hi'; subst hi'
              refine ⟨_, hcd, hszl, fun j u hu => ?_⟩
              simp only [Nat.zero_mul, Nat.zero_add]
              rw [List.getElem?_append_left (List.getElem?_eq_some_iff.1 hu).1]; exact hu
            | succ i' =>
              simp at hi'
              obtain ⟨vs, k1, k2, k3⟩ := g3 i' c' hi'
              refine ⟨vs, k1, k2, fun j u hu => ?_⟩
              rw [List.getElem?_append_right (by rw [hszl, Nat.add_mul]; omega), hszl, ← k3 j u hu]
              congr 1
              rw [Nat.add_mul]; omega
          · intro u hu
            rcases List.mem_append.1 hu with hu | hu
            · exact dens_one hcd u hu
            · exact g4 u hu
        · cases h
      · cases h
    · cases h
end

section
variable {P : Program} {T : Tab} (hT : TabOk P T) {W : Base} {s : St} {ρ : Env} {w : World} (hm : Mem W s ρ w) {get : Operand → Option SV} {box : Nat → Option (List At)} {row : Nat → Option Row} {nb nr : Nat} {e : Operand → Value}
  (hget : ∀ x sv, get x = some sv → sv.rep ρ (e x)) (hbox : ∀ i c, box i = some c → s.B[i]? = some (some c)) (hrow : ∀ r R, row r = some R → s.R[r]? = some (some R))
  (hnb : ρ.β nb = none) (hnr : ρ.σ nr = none) {o : Oper} {ev : Ev} (hob : ev.ob)
include hT hm hget hbox hrow hnb hnr hob

theorem snd_build {t : TypeId} {parts : Array (Nat × Operand)} (ho : o.op = .build t parts) (h : evalOp T get box row (.build t parts) = some ev) : Comes1 P W s ρ w nb nr e o ev := by
  simp only [evalOp] at h
  split at h
  · rename_i ty hty
    split at h
    · rename_i fs hk
      split at h
      · rename_i cs hcs
        split at h
        · rename_i hall
          injection h with h; subst h
          have hok := hT _ _ hty
          obtain ⟨gs, hgs, hmap⟩ := hok.struct hk
          obtain ⟨i0, hi0, _, _, hi3⟩ := hok.info
          obtain ⟨vs', g1, g2⟩ := fillParts_run hget hcs (dens_atOf hok.2.2.2.1)
          -- the places of the fields
          have hpl : ∀ (l : List Field), (∀ p ∈ l.map (fun f => (f.offset, f.type)), (T.get p.2).isSome = true) → ∃ places : List (Nat × Nat), l.mapM (fun f => (P.info? f.type).map fun i => (f.offset, i.size)) = some places ∧
              ∀ i : Nat, places[i]? = offsOf T (l.map (fun f : Field => (f.offset, f.type))) i := by
            intro l
            induction l with
            | nil => intro _; exact ⟨[], rfl, fun i => by simp [offsOf]⟩
            | cons f l ih =>
              intro hl
              obtain ⟨places, h1, h2⟩ := ih fun p hp => hl p (by simp only [List.map_cons, List.mem_cons]; exact .inr hp)
              have hf := hl (f.offset, f.type) (by simp)
              obtain ⟨tf, htf⟩ := Option.isSome_iff_exists.1 hf
              obtain ⟨fi, hfi, hfs, _⟩ := (hT _ _ htf).info
              refine ⟨(f.offset, tf.size) :: places, ?_, fun i => ?_⟩
              · simp [List.mapM_cons, h1, hfi, hfs]
              · cases i with
                | zero => simp [offsOf, htf]
                | succ i => simpa [offsOf] using h2 i
          obtain ⟨places, hp1, hp2⟩ := hpl gs.toList (by rw [hmap]; simpa using hall)
          have hb : P.built t (parts.map fun (i, x) => (i, e x)).toList = some vs'.toArray := by
            simp only [Program.built, hi0, hgs, hi3, hp1]
            rw [hmap] at hp2
            have : (fun i : Nat => places.toArray[i]?) = offsOf T fs := funext fun i => by simpa using hp2 i
            rw [this]
            simpa using g1
          refine .val hm (v := .agg vs'.toArray) ?_ (by simp [SV.rep, Cv.den, g2])
          unfold execOp
          rw [ho]
          simp only [Sem.run_bind, run_build w t _ _ hb, Result.andThen_ok]
          rfl
        · cases h
      · cases h
    · rename_i n el hk
      split at h
      · rename_i te hte
        split at h
        · rename_i cs hcs
          injection h with h; subst h
          have hok := hT _ _ hty
          have hgs := hok.array hk
          obtain ⟨i0, hi0, _, _, hi3⟩ := hok.info
          obtain ⟨i1, hi1, hs1, _, _⟩ := (hT _ _ hte).info
          obtain ⟨vs', g1, g2⟩ := fillParts_run hget hcs (dens_atOf hok.2.2.2.1)
          have hb : P.built t (parts.map fun (i, x) => (i, e x)).toList = some vs'.toArray := by
            simp only [Program.built, hi0, hgs, hi3, hi1, hs1]
            simpa using g1
          refine .val hm (v := .agg vs'.toArray) ?_ (by simp [SV.rep, Cv.den, g2])
          unfold execOp
          rw [ho]
          simp only [Sem.run_bind, run_build w t _ _ hb, Result.andThen_ok]
          rfl
        · cases h
      · cases h
    · cases h
  · cases h

theorem snd_makeSlice {t : TypeId} {l c : Operand} (ho : o.op = .makeSlice t l c) (h : evalOp T get box row (.makeSlice t l c) = some ev) : Comes1 P W s ρ w nb nr e o ev := by
  simp only [evalOp] at h
  split at h
  · rename_i ty hty
    split at h
    · rename_i el hk
      split at h
      · rename_i te kl n km m hte hl hc
        split at h
        · rename_i hpos
          injection h with h; subst h
          obtain ⟨o1, o2, o3, o4⟩ := hob
          have hu := (hT _ _ hty).slice hk
          have hok := hT _ _ hte
          obtain ⟨i, hi, hi1, hi2, hi3⟩ := hok.info
          have el1 := hget _ _ hl
          injection el1 with el1
          have ec1 := hget _ _ hc
          injection ec1 with ec1
          have hmk := run_make (P := P) w t el i te.zero hu hi hi3 kl km n m o1 o2 (by rw [hi2]; exact o3) o4
          rw [hi1] at hmk
          have hrun : (execOp e o).run P w = .ok (.value (.slice (some ⟨w.heap.size, 0, none⟩) n.toNat m.toNat)) (w.alloc (.cells (madeCells te.zero.cells (m.toNat * te.size)) el)) := by
            unfold execOp
            rw [ho]
            simp only [← el1, ← ec1, Sem.run_bind, hmk, Result.andThen_ok]
            rfl
          have hnew := heap_alloc_new w (.cells (madeCells te.zero.cells (m.toNat * te.size)) el)
          have hzl : te.zero.cells.toList.length = te.size := by rw [Array.length_toList]; exact hok.2.2.1
          have hden : ∀ ρ, dens ρ (te.zero.cells.toList.map atOf) = some te.zero.cells.toList := fun ρ => dens_atOf hok.2.2.2.1
          refine ⟨_, _, { ρ with σ := upd ρ.σ nr (.slice (some ⟨w.heap.size, 0, none⟩) n.toNat m.toNat) }, .inl hrun, Env.le_row hnr _, ?_, ?_, fun _ _ => rfl, fun r hr => upd_ne _ _ (hr.resolve_right (by simp [Ev.isRow]))⟩
          · simp [Ev.sv, SV.rep, Cv.den, At.den, upd_same]
          · refine hm.freshRow (w' := w.alloc (.cells (madeCells te.zero.cells (m.toNat * te.size)) el)) ((Below.refl _ _).alloc (Nat.le_refl _) _) hnr (v := .slice (some ⟨w.heap.size, 0, none⟩) n.toNat m.toNat) ⟨⟨_, m.toNat, rfl, by dsimp only; omega, by unfold maxLen; omega, (fun h => by cases h), (fun h => by cases h), fun _ => ⟨_, 0, rfl, by simp, fun i vs hi hvs j u hu => ?_⟩, fun e' he' => ?_⟩, fun i hi => ⟨_, hden ρ, hzl⟩, fun _ b hb => by have h1 := hb.1; have h2 := hm.below.size; simp [Value.ownBlock] at h1; exact .inl (by omega)⟩ ?_
            · dsimp only at hi hvs ⊢
              rw [hden] at hvs; injection hvs with hvs; subst hvs
              have hj : j < te.size := by rw [← hzl]; exact (List.getElem?_eq_some_iff.1 hu).1
              have hnew' : (w.alloc (.cells (madeCells te.zero.cells (m.toNat * te.size)) el)).heap[w.heap.size]? = some (.cells (madeCells te.zero.cells (m.toNat * te.size)).toList.toArray el (0, 0)) := by rw [Array.toArray_toList]; exact hnew
              rw [cell_of_blk hnew', Array.getElem?_toList]
              have hlt : 0 + i * te.size + j < m.toNat * te.size := by
                have : (i + 1) * te.size ≤ m.toNat * te.size := Nat.mul_le_mul_right _ (by omega)
                rw [Nat.add_mul] at this
                omega
              have hzs : te.zero.cells.size = te.size := hok.2.2.1
              have hmod : (0 + i * te.size + j) % te.zero.cells.size = j := by rw [hzs, Nat.zero_add, Nat.mul_comm, Nat.mul_add_mod]; exact Nat.mod_eq_of_lt hj
              have hzj : te.zero.cells[j]! = u := by
                rw [Array.getElem?_toList] at hu
                simp [Array.getElem!_eq_getD, Array.getD_eq_getD_getElem?, hu]
              rw [madeCells, Array.getElem?_map, Array.getElem?_range, if_pos hlt, Option.map_some, hmod, hzj]
            · injection he' with he'; subst he'
              exact .inr ⟨_, _, (0, 0), rfl, .inl hm.below.size, hnew, size_madeCells _ _, .zero _⟩
            · intro b hb
              have := hb.1
              simp [Value.ownBlock] at this
              omega
        · cases h
      · cases h
    · cases h
  · cases h
theorem snd_buildSlice {t : TypeId} {n : Nat} {parts : Array (Nat × Operand)} (ho : o.op = .buildSlice t n parts) (h : evalOp T get box row (.buildSlice t n parts) = some ev) : Comes1 P W s ρ w nb nr e o ev := by
  simp only [evalOp] at h
  split at h
  · rename_i ty hty
    split at h
    · rename_i el hk
      split at h
      · rename_i te hte
        split at h
        · rename_i css hcss
          split at h
          · rename_i hc
            obtain ⟨hn, hpos, hbig⟩ := hc
            injection h with h; subst h
            have hu := (hT _ _ hty).slice hk
            have hokE := hT _ _ hte
            have hz := hokE.runZero w
            have hs := hokE.runSize w
            obtain ⟨us, g1, g2, g3, g4⟩ := rowParts_run hget (done := []) (rest := ((Array.range (n * te.size)).map (te.zero.cells[· % te.zero.cells.size]!)).toList) hcss (by simp) (by simp [hn])
            simp only [List.nil_append, hn] at g1
            rw [List.drop_eq_nil_of_le (by simp), List.append_nil, Array.toArray_toList] at g1
            have hrun : (execOp e o).run P w = .ok (.value (.slice (some ⟨w.heap.size, 0, none⟩) n n)) (w.alloc (.cells us.toArray el)) := by
              have hfill : (parts.map fun (i, x) => (i, e x)).toList = parts.toList.map fun p => (p.1, e p.2) := by simp
              have h24 : ¬ (n * te.size > 2 ^ 24) := by omega
              unfold execOp
              rw [ho]
              simp only [Instr.buildSlice, Sem.run_bind, run_underlying hu, Result.andThen_ok, hs, hfill]
              rw [if_neg h24]
              by_cases hn0 : n = 0
              · have hne : n * te.size = 0 := by rw [hn0, Nat.zero_mul]
                have ha : ((Array.range (n * te.size)).map fun i => (#[] : Array Value)[i % (#[] : Array Value).size]!) = (Array.range (n * te.size)).map (te.zero.cells[· % te.zero.cells.size]!) := by rw [hne]; simp
                rw [if_pos hne]
                simp only [Sem.run_bind, Result.andThen_ok, pure, Sem.run, ha, g1]
                rfl
              · have hne : n * te.size ≠ 0 := Nat.mul_ne_zero (by omega) (by omega)
                rw [if_neg hne]
                simp only [Sem.run_bind, hz, Result.andThen_ok, pure, Sem.run, g1]
                rfl
            have hlen : us.length = n * te.size := by rw [g2, hn]
            have hnew := heap_alloc_new w (.cells us.toArray el)
            refine ⟨_, _, { ρ with σ := upd ρ.σ nr (.slice (some ⟨w.heap.size, 0, none⟩) n n) }, .inl hrun, Env.le_row hnr _, ?_, ?_, fun _ _ => rfl, fun r hr => upd_ne _ _ (hr.resolve_right (by simp [Ev.isRow]))⟩
            · simp [Ev.sv, SV.rep, Cv.den, At.den, upd_same]
            · have hle : n ≤ maxLen := by
                have : n ≤ n * te.size := Nat.le_mul_of_pos_right n hpos
                unfold maxLen; omega
              refine hm.freshRow (w' := w.alloc (.cells us.toArray el)) ((Below.refl _ _).alloc (Nat.le_refl _) _) hnr (v := .slice (some ⟨w.heap.size, 0, none⟩) n n) ⟨⟨_, n, rfl, Nat.le_refl _, hle, (fun h => by cases h), fun _ => rfl, fun _ => ⟨_, 0, rfl, by simp, fun i vs hi hvs j u hu => ?_⟩, fun e' he' => ?_⟩, fun i hi => ?_, fun _ b hb => by have h1 := hb.1; have h2 := hm.below.size; simp [Value.ownBlock] at h1; exact .inl (by omega)⟩ ?_
              · dsimp only at hi hvs
                have hci : css[i]? = some css[i] := List.getElem?_eq_getElem (by omega)
                rw [hci] at hvs
                obtain ⟨vs', k1, k2, k3⟩ := g3 i _ hci
                simp only [Option.getD_some] at hvs
                rw [hvs] at k1; injection k1 with k1; subst k1
                rw [cell_of_blk hnew]
                simpa using k3 j u hu
              · injection he' with he'; subst he'
                exact .inr ⟨_, us.toArray, (0, 0), rfl, .inl hm.below.size, hnew, (by simpa using hlen), .zero _⟩
              · dsimp only at hi ⊢
                have hci : css[i]? = some css[i] := List.getElem?_eq_getElem (by omega)
                obtain ⟨vs', k1, k2, k3⟩ := g3 i _ hci
                rw [hci]
                exact ⟨vs', k1, k2⟩
              · intro b hb
                have := hb.1
                simp [Value.ownBlock] at this
                omega
          · cases h
        · cases h
      · cases h
    · cases h
  · cases h

theorem evalOp_sound (h : evalOp T get box row o.op = some ev) : Comes1 P W s ρ w nb nr e o ev := by
  cases ho : o.op with
  | move x => rw [ho] at h; exact snd_move hT hm hget hbox hrow hnb hnr hob (.inl ho) h
  | assign x => rw [ho] at h; exact snd_move hT hm hget hbox hrow hnb hnr hob (.inr ho) h
  | pick c a b => rw [ho] at h; exact snd_pick hT hm hget hbox hrow hnb hnr hob ho h
  | box t x => rw [ho] at h; exact snd_box hT hm hget hbox hrow hnb hnr hob ho h
  | alloc t => rw [ho] at h; exact snd_alloc hT hm hget hbox hrow hnb hnr hob ho h
  | load t x => rw [ho] at h; exact snd_load hT hm hget hbox hrow hnb hnr hob ho h
  | store t x y => rw [ho] at h; exact snd_store hT hm hget hbox hrow hnb hnr hob ho h
  | nilCheck x => rw [ho] at h; exact snd_nilCheck hT hm hget hbox hrow hnb hnr hob ho h
  | binOp op t x y ty => rw [ho] at h; exact snd_binOp hT hm hget hbox hrow hnb hnr hob ho h
  | unOp op t x => rw [ho] at h; exact snd_unOp hT hm hget hbox hrow hnb hnr hob ho h
  | convert a b x => rw [ho] at h; exact snd_convert hT hm hget hbox hrow hnb hnr hob ho h
  | makeFunc fn first caps =>
    rw [ho] at h
    cases fn with
    | func f => exact snd_makeFunc hT hm hget hbox hrow hnb hnr hob ho h
    | _ => simp [evalOp] at h
  | slice t x lo hi mx => rw [ho] at h; exact snd_slice hT hm hget hbox hrow hnb hnr hob ho h
  | fieldAddr t x f => rw [ho] at h; exact snd_fieldAddr hT hm hget hbox hrow hnb hnr hob ho h
  | field t x f => rw [ho] at h; exact snd_field hT hm hget hbox hrow hnb hnr hob ho h
  | indexAddr t x i => rw [ho] at h; exact snd_indexAddr hT hm hget hbox hrow hnb hnr hob ho h
  | index t x i => rw [ho] at h; exact snd_index hT hm hget hbox hrow hnb hnr hob ho h
  | extract x i => rw [ho] at h; exact snd_extract hT hm hget hbox hrow hnb hnr hob ho h
  | build t parts => rw [ho] at h; exact snd_build hT hm hget hbox hrow hnb hnr hob ho h
  | buildSlice t n parts => rw [ho] at h; exact snd_buildSlice hT hm hget hbox hrow hnb hnr hob ho h
  | makeSlice t l c => rw [ho] at h; exact snd_makeSlice hT hm hget hbox hrow hnb hnr hob ho h
  | call c => rw [ho] at h; exact snd_call hT hm hget hbox hrow hnb hnr hob ho h
  | _ => rw [ho] at h; simp [evalOp] at h
end
end Go.Sx
