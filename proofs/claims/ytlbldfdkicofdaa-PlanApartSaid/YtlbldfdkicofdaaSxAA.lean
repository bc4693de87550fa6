/- Bytes and strings: string(b), append(b, s...). -/
import Derived.Test.YtlbldfdkicofdaaSxY
import Derived.Test.YtlbldfdkicofdaaSxR
import Derived.Laws.IdiomStrings
import Derived.Lib.BufferRead
import Derived.Lib.AppendStr
namespace Go.Sx
open Go.RowKit
set_option linter.unusedVariables false
set_option linter.unusedSimpArgs false
set_option linter.unusedSectionVars false
section
variable {P : Program} {f : Fr} {Q : Ending → World → Prop} {W : Base} {T : Tab} {k : List Item} {s : St}
/-- string(b): what b's cells read as. -/
theorem SG.convBytes (hT : TabOk P T) (l : List UInt8) {ops : Array Oper} {i : Nat} {rest : List Nat} {o : Oper} {src dst e : TypeId} {ts td te : Ty} {x : Operand} {r : Nat} {R : Row}
    (h1 : ops.toList[i]? = some o) (g1 : o.guard = none) (p1 : o.op = .convert src dst x) (hs : T.get src = some ts) (hk : ts.k = .slice e) (he : T.get e = some te) (hke : te.k = .int .u8) (hd : T.get dst = some td) (hkd : td.k = .str)
    (hx : s.get x = some (.cv (.one (.rs r)))) (hR : s.row r = some R) (hRs : R.sz = 1) (hlen : R.len = l.length) (hc : ∀ j (h : j < l.length), R.cells j = [.v (.int .u8 (l[j].toNat : Int))])
    (h : SG P f Q W (.inRegion ops rest :: k) (s.put o.dst (.cv (.one (.v (.string ⟨l.toArray⟩)))))) : SG P f Q W (.inRegion ops (i :: rest) :: k) s := by
  refine ⟨fun ρ w a hm hf hdm => ?_⟩
  have hv := St.get_ok hf hx
  obtain ⟨v, hσ, hrow⟩ := hm.row r R (St.row_ok hR)
  obtain ⟨A, cap, rfl, hcc, hcm, hnn, htt, hcell, hownf⟩ := hrow.form
  have ex : a.eval x = .slice A R.len cap := by
    simp only [SV.rep, Cv.den, At.den, hσ] at hv
    injection hv with hv; exact hv.symm
  have hus := (hT _ _ hs).slice hk
  have hue := (hT _ _ he).int hke
  have hud := (hT _ _ hd).str hkd
  have hconv : (convert src dst (.slice A R.len cap)).run P w = .ok (.string ⟨l.toArray⟩) w := by
    cases A with
    | none =>
      have hc0 := hnn rfl
      have h0 : R.len = 0 := by omega
      have hl0 : l = [] := List.eq_nil_of_length_eq_zero (by omega)
      rw [h0, hl0]
      exact Go.Lib.run_convert_nil_bytes w src dst e cap hus hue hud
    | some ad =>
      rw [hlen]
      refine run_convert_bytes_back w src dst e ad cap l hus hue hud fun j hj => ?_
      obtain ⟨b, oo, eA, _, hcl⟩ := hcell (by omega)
      injection eA with eA; subst eA
      have hd1 : dens ρ (R.cells j) = some [.int .u8 (l[j].toNat : Int)] := by
        rw [hc j hj]; rfl
      have := hcl j _ (by omega) hd1 0 _ rfl
      rw [hRs, Nat.mul_one, Nat.add_zero] at this
      rw [show (Addr.add ⟨b, oo, none⟩ j) = ⟨b, oo + j, none⟩ from add_none' ..]
      exact this
  have hrun : (execOp a.eval o).run P w = .ok (.value (.string ⟨l.toArray⟩)) w := by
    unfold execOp
    rw [p1]
    simp only [Sem.run_bind, ex, hconv, Result.andThen_ok]
    rfl
  refine Good.op (K := fun u w2 => u = .string ⟨l.toArray⟩ ∧ w2 = w) (by simpa using h1) (by simp [Region.wanted, g1]) (by intro c; rw [p1]; simp) ?_ ?_
  · unfold Does
    rw [hrun]
    exact ⟨rfl, rfl⟩
  · rintro u w2 ⟨rfl, rfl⟩
    exact h.run ρ _ _ (hm.put _ _) (reps_put_any hf o (v := .string ⟨l.toArray⟩) (x := .cv (.one (.v (.string ⟨l.toArray⟩)))) rfl s rfl) (hdm.put _ _)
/-- append onto an own row that is not empty, of a string's bytes: and where the result lies. -/
theorem run_app_str {P : Program} (w : World) (base : Nat) (t u ty e : TypeId) (i : TypeInfo) (ht : P.underlying t = some (.slice e)) (hu : P.underlying u = some .string) (hi : P.info? e = some i) (hz : i.zero = some (.int .u8 0))
    (hsize : i.size = 1) (hby : i.bytes = 1) (v : Value) (n : Nat) (xs : List Value) (hown : ownsB w base e 1 v n xs) (hn : 0 < n) (s : ByteArray) (hb : n + s.size ≤ 140737488355328) (hbase : base ≤ w.heap.size) :
    ∃ v' w', (Builtin.append_ #[t, u] ty #[v, .string s]).run P w = .ok v' w' ∧ ownsB w' base e 1 v' (n + s.size) (xs ++ Go.Lib.strCells s) ∧ w.grownBy w' v.ownBlock ∧ (v'.ownBlock = v.ownBlock ∨ v'.ownBlock = some w.heap.size) := by
  have h63 : n + s.size ≤ maxLen := by unfold maxLen; omega
  have hxl : xs.length = n := by simpa using hown.1
  have hlen : (xs ++ Go.Lib.strCells s).length = (n + s.size) * 1 := by rw [List.length_append, hxl, Go.Lib.strCells_length, Nat.mul_one]
  rcases hown.2 with ⟨_, h0⟩ | ⟨g, cap, cur, fz, rfl, hbg, hg, hbeh, hnc, hcm, hcs, htake⟩
  · omega
  · have hcs' : cur.size = cap := by simpa using hcs
    by_cases hroom : n + s.size ≤ cap
    · have hf := Go.Lib.run_firstCells_string (P := P) w 1 s
      have hst := run_storeCells_beh P g n e fz (Go.Lib.strCells s) 0 cur w hg hbeh (by simp [Go.Lib.strCells_length]; omega) (Go.Lib.strCells_oneCell s)
      simp only [Nat.add_zero, Go.Lib.strCells_length] at hst
      have hr : (Builtin.append_ #[t, u] ty #[.slice (some ⟨g, 0, none⟩) n cap, .string s]).run P w = .ok (.slice (some ⟨g, 0, none⟩) (n + s.size) cap) (w.setRow g (cur.toList.take n ++ Go.Lib.strCells s ++ cur.toList.drop (n + s.size)).toArray) := by
        simp [Builtin.append_, run_underlying ht, run_underlying hu, sizeOf, typeInfo, hi, hsize, Builtin.lenOf, hroom, hf, Addr.add_lit, hst]
      have hsz : (cur.toList.take n ++ Go.Lib.strCells s ++ cur.toList.drop (n + s.size)).toArray.size = cur.size := by
        simp only [List.size_toArray, List.length_append, List.length_take, List.length_drop, Array.length_toList, Go.Lib.strCells_length]
        omega
      refine ⟨_, _, hr, ⟨hlen, .inr ⟨g, cap, _, fz, rfl, hbg, setRow_heap w g cur _ e _ hg, hbeh.of_size hsz, hroom, hcm, hsz.trans hcs, ?_⟩⟩, ⟨rfl, rfl, rfl, by simp, fun k _ hk => setRow_other w g k _ (fun e => hk (by simp [Value.ownBlock, e]))⟩, .inl rfl⟩
      have ht' : cur.toList.take n = xs := by simpa using htake
      rw [ht', ← hlen]
      exact List.take_left
    · have holds : ∀ j u, xs[j]? = some u → w.cell? ((⟨g, 0, none⟩ : Addr).add j) = some u := hown.cells (g := g) rfl
      have hr := Go.Lib.run_append_grow_string (P := P) w t u ty e i (.int .u8 0) ht hu hi hz ⟨g, 0, none⟩ n cap xs (by rw [hsize]; simpa using hxl) holds s (by omega) (by unfold maxLen at h63; omega) (by rw [hby]; exact growslice_fits (by omega) (by omega))
      have hge := grownCap_ge w (n + s.size) cap e
      have hcm2 : grownCap w (n + s.size) cap e ≤ maxLen := grownCap_le_maxLen w (n + s.size) cap e h63
      refine ⟨_, _, hr, ⟨hlen, .inr ⟨w.heap.size, _, _, (0, 0), rfl, hbase, heap_alloc_new w.drew _, .zero _, hge, hcm2, ?_, ?_⟩⟩, ⟨rfl, rfl, rfl, by simp, fun k hk _ => heap_alloc_old w.drew _ hk⟩, .inr rfl⟩
      · have hz1 : (Value.int IntKind.u8 0).cells.size = 1 := rfl
        simp only [Array.size_append, List.size_toArray, size_zeroCells, hz1, hxl, Go.Lib.strCells_length]
        omega
      · simp only [Array.toList_append, List.append_assoc]
        rw [← List.append_assoc, ← hlen]
        exact List.take_left
/-- append(b, s...), onto an own row that is not empty. -/
theorem SG.appStr (hT : TabOk P T) {ops : Array Oper} {i : Nat} {rest : List Nat} {o : Oper} {t u el : TypeId} {tt tu te : Ty} {x y : Operand} {r : Nat} {X : Row} {str : ByteArray}
    (h1 : ops.toList[i]? = some o) (g1 : o.guard = none) (p1 : o.op = .call { callee := .builtin .append, args := #[x, y], argTypes := #[t, u] })
    (ht : T.get t = some tt) (hk : tt.k = .slice el) (he : T.get el = some te) (hz : te.zero = .int .u8 0) (hs1 : te.size = 1) (hby : te.bytes = 1) (hu : T.get u = some tu) (hku : tu.k = .str)
    (hx : s.get x = some (.cv (.one (.rs r)))) (hX : s.row r = some X) (hXs : X.sz = 1) (hown : X.own = some el) (hy : s.get y = some (.cv (.one (.v (.string str)))))
    (hpos : 0 < X.len) (hb : X.len + str.size ≤ 140737488355328)
    (h : SG P f Q W (.inRegion ops rest :: k) ((St.mk s.F s.B (setAt (unset s.R r) s.R.length ⟨1, X.len + str.size, fun i => if i < X.len then X.cells i else [.v (.int .u8 (str.data.toList.getD (i - X.len) 0).toNat)], some el, false, true⟩) s.G).put o.dst (.cv (.one (.rs s.R.length))))) :
    SG P f Q W (.inRegion ops (i :: rest) :: k) s := by
  refine ⟨fun ρ w a hm hf hdm => ?_⟩
  have hv := St.get_ok hf hx
  have hw := St.get_ok hf hy
  have hnr := hdm.row s.R.length (Nat.le_refl _)
  have hXr := St.row_ok hX
  obtain ⟨v, hσ, hrow⟩ := hm.row r X hXr
  obtain ⟨A, cap, rfl, hcc, hcm, hnn, htt, hcell, hownf⟩ := hrow.form
  have ex : a.eval x = .slice A X.len cap := by
    simp only [SV.rep, Cv.den, At.den, hσ] at hv
    injection hv with hv; exact hv.symm
  have ey : a.eval y = .string str := by
    simp only [SV.rep, Cv.den, At.den] at hw
    injection hw with hw; exact hw.symm
  have hus := (hT _ _ ht).slice hk
  have huu := (hT _ _ hu).str hku
  obtain ⟨i0, hi0, hi1, hi2, hi3⟩ := (hT _ _ he).info
  have how := hrow.owns hown (by simp only [capOf]; omega)
  rw [hXs] at how
  obtain ⟨v', w', r1, r2, r3, r4⟩ := run_app_str (P := P) w 0 t u o.type el i0 hus huu hi0 (by rw [hi3, hz]) (by rw [hi1, hs1]) (by rw [hi2, hby]) _ X.len _ how hpos str hb (Nat.zero_le _)
  have hrun : (execOp a.eval o).run P w = .ok (.value v') w' := by
    unfold execOp
    simp only [p1, resolve, invoke, builtin, Sem.run_bind, Sem.run_pure, Result.andThen_ok, List.map_toArray, List.map_cons, List.map_nil, ex, ey, r1]
  obtain ⟨g, hg, hmg⟩ : ∃ g, (Value.slice A X.len cap).ownBlock = some g ∧ W.mine g := by
    rcases hownf el hown with h | ⟨g, cur, fz, rfl, hbg, _⟩
    · omega
    · exact ⟨g, rfl, hbg⟩
  have heach : ∀ i, i < X.len + str.size → ∃ vs, dens ρ (if i < X.len then X.cells i else [.v (.int .u8 (str.data.toList.getD (i - X.len) 0).toNat)]) = some vs ∧ vs.length = 1 ∧ ∀ j u, vs[j]? = some u → (X.flat ρ ++ Go.Lib.strCells str)[i * 1 + j]? = some u := by
    intro i hi
    by_cases h : i < X.len
    · rw [if_pos h]
      obtain ⟨vs, g1, g2⟩ := hrow.each i h
      refine ⟨vs, g1, g2.trans hXs, fun j u hu => ?_⟩
      have hj : j < X.sz := by rw [← g2]; exact (List.getElem?_eq_some_iff.1 hu).1
      have h2 := X.flat_get ρ h g1 g2 hj
      rw [hXs] at h2
      rw [List.getElem?_append_left (by rw [X.flat_length, hXs]; omega), h2]
      exact hu
    · rw [if_neg h]
      refine ⟨_, rfl, rfl, fun j u hu => ?_⟩
      cases j with
      | succ j => simp at hu
      | zero =>
        simp only [List.getElem?_cons_zero, Option.some.injEq] at hu
        subst hu
        have hlt : i - X.len < str.data.toList.length := by
          have : str.size = str.data.toList.length := by rw [Array.length_toList]; rfl
          omega
        rw [List.getElem?_append_right (by rw [X.flat_length, hXs]; omega), X.flat_length, hXs]
        simp only [Go.Lib.strCells, Nat.mul_one, Nat.add_zero, List.getElem?_map, List.getElem?_eq_getElem hlt, List.getD_eq_getElem?_getD, Option.map_some, Option.getD_some]
  have hrok := RowOk.of_ownsB (W := W) (ρ := ρ) r2 (fun g' hg' => by
    rcases r4 with h | h
    · rw [h, hg] at hg'; injection hg' with hg'; subst hg'; exact hmg
    · rw [h] at hg'; injection hg' with hg'; subst hg'; exact .inl hm.below.size) heach
  have hmu : Mem W { s with R := unset s.R r } ρ w := hm.sub (fun _ _ h => h) (fun r' R' h => (unset_get _ _ _ _ h).2)
  have htx : X.touch (.slice A X.len cap) g := ⟨hg, .inl ⟨by rw [hown]; rfl, by simp only [capOf]; omega⟩⟩
  have hbg : ∀ i c b, s.B[i]? = some (some c) → ρ.β i = some b → b ≠ g := fun i c b hi hb he => by
    subst he; exact hm.rowBox r X _ i c b hXr hσ hi hb htx
  have hrg : ∀ r' R' v2 b, r' ≠ r → s.R[r']? = some (some R') → ρ.σ r' = some v2 → R'.touch v2 b → b ≠ g := fun r' R' v2 b hne hr' hv2 ht he => by
    subst he; exact hm.rowRow r r' X R' _ v2 b (Ne.symm hne) hXr hr' hσ hv2 (by rw [hown]; rfl) htx ht
  have hmu' : Mem W { s with R := unset s.R r } ρ w' := by
    refine hmu.keep (hm.below.but r3 (fun k hk => by rw [hg] at hk; injection hk with hk; subst hk; exact hmg) (fun k hk => by rw [hg] at hk; injection hk with hk; subst hk; exact hrow.own_cells (by rw [hown]; rfl) htx)) r3.size ?_ ?_
    · intro i c b hi hb
      refine r3.block b (hm.box_lt hi hb) ?_
      rw [hg]; intro h; injection h with h; exact hbg i c b hi hb h
    · intro r' R' v2 b hr' hv2 ht
      obtain ⟨hne, hr'⟩ := unset_get _ _ _ _ hr'
      refine r3.block b (hm.row_lt hr' hv2 ht) ?_
      rw [hg]; intro h; injection h with h; exact hrg r' R' v2 b hne hr' hv2 ht h
  obtain ⟨A', cap', hv', _⟩ := hrok.form
  have hblk : ∀ b, v'.ownBlock = some b → b = g ∨ b = w.heap.size := fun b hb => by
    rcases r4 with h | h
    · rw [h, hg] at hb; injection hb with hb; exact .inl hb.symm
    · rw [h] at hb; injection hb with hb; exact .inr hb.symm
  have hm2 := hmu'.newRow hnr hrok (fun i c b hi hb ht => by
      rcases hblk b ht.1 with h | h
      · exact hbg i c b hi hb h
      · have := hm.box_lt hi hb; omega) (fun r' R' v2 b hr' hv2 _ ht ht2 => by
      obtain ⟨hne, hr'⟩ := unset_get _ _ _ _ hr'
      rcases hblk b ht2.1 with h | h
      · exact hrg r' R' v2 b hne hr' hv2 ht h
      · have := hm.row_lt hr' hv2 ht; omega)
  have hle : ρ.le ⟨ρ.β, upd ρ.σ s.R.length v', ρ.ι⟩ := Env.le_row hnr _
  refine Good.op (K := fun u w2 => u = v' ∧ w2 = w') (by simpa using h1) (by simp [Region.wanted, g1]) (by intro c; rw [p1]; simp) ?_ ?_
  · unfold Does
    rw [hrun]
    exact ⟨rfl, rfl⟩
  · rintro u w2 ⟨rfl, rfl⟩
    have hf2 : Frm ⟨ρ.β, upd ρ.σ s.R.length u, ρ.ι⟩ s.F a := ⟨hf.defers, reps_le hle hf.tmps⟩
    have hd2 : ∀ X', Dom ⟨s.F, s.B, setAt (unset s.R r) s.R.length X', s.G⟩ ⟨ρ.β, upd ρ.σ s.R.length u, ρ.ι⟩ := fun X' => ⟨hdm.box, fun q hq => by
      simp only [setAt_len, unset_len] at hq
      show upd _ _ _ _ = _
      rw [upd_ne _ _ (by omega)]
      exact hdm.row q (by omega)⟩
    refine h.run ⟨ρ.β, upd ρ.σ s.R.length u, ρ.ι⟩ _ _ (hm2.put _ _) (reps_put_any hf2 o (v := u) (x := .cv (.one (.rs s.R.length))) ?_ (St.mk s.F s.B (setAt (unset s.R r) s.R.length _) s.G) rfl) ((hd2 _).put _ _)
    simp only [SV.rep, Cv.den, At.den, upd_same, hv']
theorem below_bytes (w : World) (e : TypeId) (s : ByteArray) : Below w.heap.size w (Go.Lib.bytesWorld w e s) :=
  ⟨rfl, rfl, rfl, by rw [Go.Lib.bytesWorld_size]; omega, fun k hk => Go.Lib.bytesWorld_at_old w e s k hk⟩
theorem ownsB_bytes (w : World) (e : TypeId) (s : ByteArray) (hs : s.size ≤ 140737488355328) : ownsB (Go.Lib.bytesWorld w e s) w.heap.size e 1 (.slice (some ⟨w.heap.size, 0, none⟩) s.size (grownCap w s.size 0 e)) s.size (Go.Lib.strCells s) := by
  have hge := grownCap_ge w s.size 0 e
  have hl : (Go.Lib.strCells s).length = s.size := Go.Lib.strCells_length s
  have hsz : (Go.Lib.bytesCells w e s).size = grownCap w s.size 0 e := by
    have : s.data.size = s.size := rfl
    simp [Go.Lib.bytesCells]
    omega
  refine ⟨by simpa using hl, .inr ⟨w.heap.size, _, Go.Lib.bytesCells w e s, _, rfl, Nat.le_refl _, Go.Lib.bytesWorld_at_new w e s, .inl (Nat.le_refl _), hge, grownCap_le_maxLen w s.size 0 e (by unfold maxLen; omega), by rw [hsz, Nat.mul_one], ?_⟩⟩
  have he : (s.data.map fun b => Value.int .u8 b.toNat).toList = Go.Lib.strCells s := by simp [Go.Lib.strCells]
  rw [Go.Lib.bytesCells, Array.toList_append, he, Nat.mul_one, ← hl, List.take_left]
/-- []byte(s): a row of the call's own. -/
theorem SG.strBytes (hT : TabOk P T) {ops : Array Oper} {i : Nat} {rest : List Nat} {o : Oper} {src dst e : TypeId} {ts td te : Ty} {x : Operand} {str : ByteArray}
    (h1 : ops.toList[i]? = some o) (g1 : o.guard = none) (p1 : o.op = .convert src dst x) (hs : T.get src = some ts) (hk : ts.k = .str) (hd : T.get dst = some td) (hkd : td.k = .slice e) (he : T.get e = some te) (hke : te.k = .int .u8)
    (hx : s.get x = some (.cv (.one (.v (.string str))))) (hb : str.size ≤ 140737488355328)
    (h : SG P f Q W (.inRegion ops rest :: k) ((St.mk s.F s.B (setAt s.R s.R.length ⟨1, str.size, fun i => [.v (.int .u8 (str.data.toList.getD i 0).toNat)], some e, false, true⟩) s.G).put o.dst (.cv (.one (.rs s.R.length))))) :
    SG P f Q W (.inRegion ops (i :: rest) :: k) s := by
  refine ⟨fun ρ w a hm hf hdm => ?_⟩
  have hw := St.get_ok hf hx
  have hnr := hdm.row s.R.length (Nat.le_refl _)
  have ex : a.eval x = .string str := by
    simp only [SV.rep, Cv.den, At.den] at hw
    injection hw with hw; exact hw.symm
  have hconv := Go.Lib.run_convert_string_bytes (P := P) w src dst e str ((hT _ _ hs).str hk) ((hT _ _ hd).slice hkd) ((hT _ _ he).int hke)
  have hrun : (execOp a.eval o).run P w = .ok (.value (.slice (some ⟨w.heap.size, 0, none⟩) str.size (grownCap w str.size 0 e))) (Go.Lib.bytesWorld w e str) := by
    unfold execOp
    rw [p1]
    simp only [Sem.run_bind, ex, hconv, Result.andThen_ok]
    rfl
  have how := ownsB_bytes w e str hb
  have hrok := RowOk.of_ownsB (W := W) (ρ := ρ) (cells := fun i => [.v (.int .u8 (str.data.toList.getD i 0).toNat)]) how (fun g hg => by
    simp [Value.ownBlock] at hg; subst hg; exact .inl hm.below.size) (fun i hi => ⟨_, rfl, rfl, fun j u hu => by
      cases j with
      | succ j => simp at hu
      | zero =>
        simp only [List.getElem?_cons_zero, Option.some.injEq] at hu
        subst hu
        have hlt : i < str.data.toList.length := by
          have : str.size = str.data.toList.length := by rw [Array.length_toList]; rfl
          omega
        simp only [Go.Lib.strCells, Nat.mul_one, Nat.add_zero, List.getElem?_map, List.getElem?_eq_getElem hlt, List.getD_eq_getElem?_getD, Option.map_some, Option.getD_some]⟩)
  have hm2 := hm.freshRow (below_bytes w e str) hnr hrok (fun b hb => by have := hb.1; simp [Value.ownBlock] at this; omega)
  have hle : ρ.le ⟨ρ.β, upd ρ.σ s.R.length (.slice (some ⟨w.heap.size, 0, none⟩) str.size (grownCap w str.size 0 e)), ρ.ι⟩ := Env.le_row hnr _
  refine Good.op (K := fun u w2 => u = .slice (some ⟨w.heap.size, 0, none⟩) str.size (grownCap w str.size 0 e) ∧ w2 = Go.Lib.bytesWorld w e str) (by simpa using h1) (by simp [Region.wanted, g1]) (by intro c; rw [p1]; simp) ?_ ?_
  · unfold Does
    rw [hrun]
    exact ⟨rfl, rfl⟩
  · rintro u w2 ⟨hu, rfl⟩
    rw [← hu] at hm2 hle
    have hf2 : Frm ⟨ρ.β, upd ρ.σ s.R.length u, ρ.ι⟩ s.F a := ⟨hf.defers, reps_le hle hf.tmps⟩
    have hd2 : ∀ X', Dom ⟨s.F, s.B, setAt s.R s.R.length X', s.G⟩ ⟨ρ.β, upd ρ.σ s.R.length u, ρ.ι⟩ := fun X' => ⟨hdm.box, fun q hq => by
      simp only [setAt_len] at hq
      show upd _ _ _ _ = _
      rw [upd_ne _ _ (by omega)]
      exact hdm.row q (by omega)⟩
    refine h.run ⟨ρ.β, upd ρ.σ s.R.length u, ρ.ι⟩ _ _ (hm2.put _ _) (reps_put_any hf2 o (v := u) (x := .cv (.one (.rs s.R.length))) ?_ (St.mk s.F s.B (setAt s.R s.R.length _) s.G) rfl) ((hd2 _).put _ _)
    simp only [SV.rep, Cv.den, At.den, upd_same, hu]
theorem freeze_at {w : World} {g : Nat} {cur : Array Value} {e : TypeId} {fz : Nat × Nat} (hg : w.heap[g]? = some (.cells cur e fz)) (hb : Beh cur fz) :
    ∃ fz', (w.freeze ⟨g, cur.size, none⟩ 1).heap[g]? = some (.cells cur e fz') ∧ Beh cur fz' := by
  obtain ⟨lo, hi⟩ := fz
  refine ⟨if lo == hi then (cur.size, cur.size + 1) else (min lo cur.size, max hi (cur.size + 1)), by simp [World.freeze, Array.getElem?_modify, hg], ?_⟩
  rcases hb with h | h
  · left
    simp only at h
    split <;> dsimp only <;> omega
  · injection h with h1 h2
    subst h1 h2
    exact .inl (Nat.le_refl _)
theorem freeze_other {w : World} {a : Addr} {n k : Nat} (h : k ≠ a.block) : (w.freeze a n).heap[k]? = w.heap[k]? := by
  unfold World.freeze
  split
  · rfl
  · simp [Array.getElem?_modify, Ne.symm h]
/-- []byte("..") of a constant: the literal's row, marked. -/
theorem SG.markBytes (hT : TabOk P T) {ops : Array Oper} {i : Nat} {rest : List Nat} {o : Oper} {t e : TypeId} {td te : Ty} {x : Operand} {r : Nat} {R : Row}
    (h1 : ops.toList[i]? = some o) (g1 : o.guard = none) (p1 : o.op = .convert t t x) (hd : T.get t = some td) (hkd : td.k = .slice e) (he : T.get e = some te) (hke : te.k = .int .u8)
    (hx : s.get x = some (.cv (.one (.rs r)))) (hR : s.row r = some R) (hown : R.own = some e) (hpos : 0 < R.len)
    (h : SG P f Q W (.inRegion ops rest :: k) ((St.mk s.F s.B (setAt s.R r ⟨R.sz, R.len, R.cells, R.own, R.tight, R.new⟩) s.G).put o.dst (.cv (.one (.rs r))))) :
    SG P f Q W (.inRegion ops (i :: rest) :: k) s := by
  refine ⟨fun ρ w a hm hf hdm => ?_⟩
  have hv := St.get_ok hf hx
  have hXr := St.row_ok hR
  obtain ⟨v, hσ, hrow⟩ := hm.row r R hXr
  obtain ⟨A, cap, rfl, hcc, hcm, hnn, htt, hcell, hownf⟩ := hrow.form
  obtain ⟨g, cur, fz, rfl, hmine, hg, hcs, hbeh⟩ := (hownf e hown).resolve_left (by omega)
  have ex : a.eval x = .slice (some ⟨g, 0, none⟩) R.len cap := by
    simp only [SV.rep, Cv.den, At.den, hσ] at hv
    injection hv with hv; exact hv.symm
  have hu := (hT _ _ hd).slice hkd
  have hue := (hT _ _ he).int hke
  have hsh : w.shape? g = some (e, cur.size) := by simp [World.shape?, hg]
  have hrun : (execOp a.eval o).run P w = .ok (.value (.slice (some ⟨g, 0, none⟩) R.len cap)) (w.freeze ⟨g, cur.size, none⟩ 1) := by
    unfold execOp
    rw [p1]
    simp [ex, convert, run_underlying hu, run_underlying hue, markStringish, hsh, Sem.run_bind, Result.andThen]
  obtain ⟨fz', hg', hbeh'⟩ := freeze_at hg hbeh
  have hoth : ∀ k, k ≠ g → (w.freeze ⟨g, cur.size, none⟩ 1).heap[k]? = w.heap[k]? := fun k hk => freeze_other hk
  have hcl : ∀ ad : Addr, (w.freeze ⟨g, cur.size, none⟩ 1).cell? ad = w.cell? ad := fun ad => by
    by_cases hb : ad.block = g
    · unfold World.cell?; rw [hb, hg', hg]
    · exact World.cell?_of_block (hoth _ hb)
  have hsz : (w.freeze ⟨g, cur.size, none⟩ 1).heap.size = w.heap.size := by simp [World.freeze]
  have hm2 := hm.putRow (w' := w.freeze ⟨g, cur.size, none⟩ 1) (R' := ⟨R.sz, R.len, R.cells, R.own, R.tight, R.new⟩) hXr hσ (by rw [hown]; rfl) (b := g) ⟨rfl, .inr hpos⟩ hmine ⟨_, _, _, hg⟩ rfl rfl
    ⟨⟨_, cap, rfl, hcc, hcm, hnn, htt, fun h0 => by
      obtain ⟨b, o, hA, hlt, hc⟩ := hcell h0
      exact ⟨b, o, hA, by rw [hsz]; exact hlt, fun i vs hi hvs j u hu => (hcl _).trans (hc i vs hi hvs j u hu)⟩, fun e' he' => by
      rw [hown] at he'; injection he' with he'; subst he'
      exact .inr ⟨g, cur, fz', rfl, hmine, hg', hcs, hbeh'⟩⟩, hrow.each, hrow.fresh⟩ hoth hsz ⟨rfl, rfl, rfl⟩
  refine Good.op (K := fun u w2 => u = .slice (some ⟨g, 0, none⟩) R.len cap ∧ w2 = w.freeze ⟨g, cur.size, none⟩ 1) (by simpa using h1) (by simp [Region.wanted, g1]) (by intro c; rw [p1]; simp) ?_ ?_
  · unfold Does
    rw [hrun]
    exact ⟨rfl, rfl⟩
  · rintro u w2 ⟨rfl, rfl⟩
    have hlt := (List.getElem?_eq_some_iff.1 hXr).1
    have hd2 : ∀ X', Dom ⟨s.F, s.B, setAt s.R r X', s.G⟩ ρ := fun X' => ⟨hdm.box, fun q hq => hdm.row q (by
      simp only [setAt_len] at hq
      omega)⟩
    refine h.run ρ _ _ (hm2.put _ _) (reps_put_any hf o (v := .slice (some ⟨g, 0, none⟩) R.len cap) (x := .cv (.one (.rs r))) ?_ (St.mk s.F s.B (setAt s.R r _) s.G) rfl) ((hd2 _).put _ _)
    simp only [SV.rep, Cv.den, At.den, hσ]
end
end Go.Sx
