/- clear(s[n:]), s a row of one's own, of elements of one cell. -/
import Derived.Test.YtlbldfdkicofdaaSxS
import Derived.Laws.IdiomCopy
import Derived.Lib.SliceRun
namespace Go.Sx
open Go.RowKit
set_option linter.unusedVariables false
set_option linter.unusedSimpArgs false
set_option linter.unusedSectionVars false
theorem setCells_blk (b : Nat) : ∀ (vs : List Value) (o : Nat) (w : World) (cur : Array Value) (e : TypeId) (fz : Nat × Nat), w.heap[b]? = some (.cells cur e fz) →
    (∃ cur', (w.setCells b o vs).heap[b]? = some (.cells cur' e fz) ∧ cur'.size = cur.size) ∧ (∀ k, k ≠ b → (w.setCells b o vs).heap[k]? = w.heap[k]?) ∧ (w.setCells b o vs).heap.size = w.heap.size ∧
      (w.setCells b o vs).os = w.os ∧ (w.setCells b o vs).tape = w.tape ∧ (w.setCells b o vs).output = w.output
  | [], o, w, cur, e, fz, h => ⟨⟨cur, h, rfl⟩, fun _ _ => rfl, rfl, rfl, rfl, rfl⟩
  | v :: vs, o, w, cur, e, fz, h => by
    have h1 : (w.setCell ⟨b, o, none⟩ v).heap[b]? = some (.cells (cur.setIfInBounds o v) e fz) := by
      simp [World.setCell, Array.getElem?_modify, h]
    obtain ⟨⟨cur', g1, g2⟩, g3, g4, g5, g6, g7⟩ := setCells_blk b vs (o + 1) _ _ e fz h1
    refine ⟨⟨cur', g1, by rw [g2]; simp⟩, fun k hk => (g3 k hk).trans ?_, g4.trans (by simp [World.setCell]), g5, g6, g7⟩
    simp [World.setCell, Array.getElem?_modify, Ne.symm hk]
section
variable {P : Program} {f : Fr} {Q : Ending → World → Prop} {W : Base} {T : Tab} {k : List Item} {s : St}
theorem SG.clearTail (hT : TabOk P T) {ops : Array Oper} {i j : Nat} {rest : List Nat} {o1 o2 : Oper} {t e eo : TypeId} {tt te : Ty} {x y d : Tmp} {r : Nat} {n : Int} {R : Row}
    (h1 : ops.toList[i]? = some o1) (g1 : o1.guard = none) (p1 : o1.op = .slice t (.tmp x) (some (.tmp y)) none none) (d1 : o1.dst = some d)
    (h2 : ops.toList[j]? = some o2) (g2 : o2.guard = none) (p2 : o2.op = .call { callee := .builtin .clear, args := #[.tmp d], argTypes := #[t] }) (d2 : o2.dst = none)
    (ht : T.get t = some tt) (hk : tt.k = .slice e) (he : T.get e = some te) (hs1 : te.size = 1) (hz : te.zero.cells = #[te.zero])
    (hx : s.get (.tmp x) = some (.cv (.one (.rs r)))) (hy : s.get (.tmp y) = some (.cv (.one (.v (.int .i64 n))))) (hR : s.row r = some R) (hRs : R.sz = 1) (hown : R.own = some eo) (hd : d < s.F.length)
    (hn : 0 ≤ n ∧ n < R.len)
    (h : SG P f Q W (.inRegion ops rest :: k) ⟨s.F.set d .any, s.B, setAt s.R r ⟨1, R.len, fun q => if q < n.toNat then R.cells q else [.v te.zero], R.own, R.tight, R.new⟩, s.G⟩) : SG P f Q W (.inRegion ops (i :: j :: rest) :: k) s := by
  refine ⟨fun ρ w a hm hf hdm => ?_⟩
  obtain ⟨hn0, hn1⟩ := hn
  have hv := St.get_ok hf hx
  have hw := St.get_ok hf hy
  obtain ⟨v, hσ, hrow⟩ := hm.row r R (St.row_ok hR)
  obtain ⟨A, cap, rfl, hc, hcm, hnn, htt, hcell, hownf⟩ := hrow.form
  obtain ⟨g, cur, fz, rfl, hmine, hg, hcs, hbeh⟩ := (hownf eo hown).resolve_left (by omega)
  rw [hRs, Nat.mul_one] at hcs
  have ex : a.eval (.tmp x) = .slice (some ⟨g, 0, none⟩) R.len cap := by
    simp only [SV.rep, Cv.den, At.den, hσ] at hv
    injection hv with hv; exact hv.symm
  have ey : a.eval (.tmp y) = .int .i64 n := by
    simp only [SV.rep, Cv.den, At.den] at hw
    injection hw with hw; exact hw.symm
  have hu := (hT t tt ht).slice hk
  have hel : P.elem t = e := by simp [Program.elem, hu]
  have hu' : P.underlying t = some (.slice (P.elem t)) := by rw [hel]; exact hu
  have hsize := (hT _ _ he).runSize w
  rw [hs1] at hsize
  have hzero := fun w => (hT _ _ he).runZero w
  have hone : te.zero.oneCell' = true := (hT _ _ he).2.2.2.1 te.zero (by rw [hz]; simp)
  have hcapn : cap ≠ n.toNat := by omega
  refine Good.op (K := fun u w2 => u = .slice (some ⟨g, n.toNat, none⟩) (R.len - n.toNat) (cap - n.toNat) ∧ w2 = w) (by simpa using h1) (by simp [Region.wanted, g1]) (by intro c; rw [p1]; simp) ?_ ?_
  · unfold Does
    have : (execOp a.eval o1).run P w = .ok (.value (.slice (some ⟨g, n.toNat, none⟩) (R.len - n.toNat) (cap - n.toNat))) w := by
      unfold execOp
      rw [p1]
      simp only [Option.map_some, Option.map_none, ex, ey]
      rw [Sem.run_bind, run_sliceAt_slice w t _ _ _ _ hu']
      have hrun := run_slice_l w t (some ⟨g, 0, none⟩) R.len cap hu' .i64 n hn0 (by omega)
      rw [hel, hsize] at hrun
      rw [hrun]
      simp [sliced, hcapn, Addr.add]
      intro h0; omega
    rw [this]
    exact ⟨rfl, rfl⟩
  · rintro u w2 ⟨rfl, rfl⟩
    rw [d1]
    have hda : d < a.tmps.size := by have hrl := reps_len hf.tmps; rw [Array.length_toList] at hrl; exact Nat.lt_of_lt_of_eq hd hrl.symm
    have hlen : 0 < R.len - n.toNat := by omega
    have hcells : ∀ q, q < R.len → ∃ u, dens ρ (R.cells q) = some [u] ∧ w2.cell? ⟨g, q, none⟩ = some u := fun q hq => by
      obtain ⟨vs, e1, e2⟩ := hrow.each q hq
      rw [hRs] at e2
      obtain ⟨u, rfl⟩ := List.length_eq_one_iff.1 e2
      obtain ⟨b, o, eA, _, hcell⟩ := hcell (by omega)
      injection eA with eA; injection eA with eb eo2; subst eb eo2
      have := hcell q _ hq e1 0 u rfl
      rw [hRs] at this
      simp only [Nat.mul_one, Nat.zero_add, Nat.add_zero] at this
      exact ⟨u, e1, this⟩
    have hcl : ∀ ty, (Builtin.clear_ #[t] ty #[.slice (some ⟨g, n.toNat, none⟩) (R.len - n.toNat) (cap - n.toNat)]).run P w2 = .ok (.tuple #[]) (w2.setCells g n.toNat (List.replicate (R.len - n.toNat) te.zero)) := fun ty =>
      Lib.run_clear_slice w2 t e ty te.zero hu hzero hz hone g n.toNat _ _ hlen (fun q hq => by obtain ⟨u, _, hu⟩ := hcells (n.toNat + q) (by omega); rw [hu]; rfl) (fun q hq => hbeh.free hg (by omega))
    obtain ⟨⟨cur', b1, b2⟩, b3, b4, b5, b6, b7⟩ := setCells_blk g (List.replicate (R.len - n.toNat) te.zero) n.toNat w2 cur eo fz hg
    refine Good.op (K := fun u w3 => w3 = w2.setCells g n.toNat (List.replicate (R.len - n.toNat) te.zero)) (by simpa using h2) (by simp [Region.wanted, g2]) (by intro c; rw [p2]; simp) ?_ ?_
    · have ed : (a.put (some d) (.slice (some ⟨g, n.toNat, none⟩) (R.len - n.toNat) (cap - n.toNat))).eval (.tmp d) = .slice (some ⟨g, n.toNat, none⟩) (R.len - n.toNat) (cap - n.toNat) := by
        simp [Act.eval, Act.put, hda]
      unfold Does
      have : (execOp (a.put (some d) (.slice (some ⟨g, n.toNat, none⟩) (R.len - n.toNat) (cap - n.toNat))).eval o2).run P w2 = .ok (.value (.tuple #[])) (w2.setCells g n.toNat (List.replicate (R.len - n.toNat) te.zero)) := by
        unfold execOp
        simp only [p2, resolve, invoke, builtin, Sem.run_bind, Sem.run_pure, Result.andThen_ok, List.map_toArray, List.map_cons, List.map_nil, ed, hcl]
      rw [this]
    · rintro u w3 rfl
      rw [d2]
      have hrl : r < s.R.length := (List.getElem?_eq_some_iff.1 (St.row_ok hR)).1
      refine h.run ρ _ _ ?_ ?_ ?_
      · have hm' := hm.putRow (w' := w2.setCells g n.toNat (List.replicate (R.len - n.toNat) te.zero)) (R' := ⟨1, R.len, fun q => if q < n.toNat then R.cells q else [.v te.zero], R.own, R.tight, R.new⟩) (St.row_ok hR) hσ (by rw [hown]; rfl) (b := g) ⟨rfl, .inr (by omega)⟩ hmine ⟨_, _, _, hg⟩ rfl rfl ?_ b3 b4 ⟨b5, b6, b7⟩
        · exact hm'.put (some d) .any
        · refine ⟨⟨_, cap, rfl, hc, hcm, hnn, htt, fun _ => ⟨g, 0, rfl, by rw [b4]; exact lt_of_some hg, fun q vs hq hd' jj u hu' => ?_⟩, fun e' he' => .inr ⟨g, cur', fz, rfl, hmine, ?_, (by simp [b2, hcs]), hbeh.of_size b2⟩⟩, fun q hq => ?_, fun hnw b ht => hrow.fresh hnw b (by unfold Row.touch at ht ⊢; exact ht)⟩
          · dsimp only at hd' hq ⊢
            rw [Nat.mul_one, Nat.zero_add]
            split at hd'
            · rename_i hqn
              obtain ⟨u0, e1, e2⟩ := hcells q hq
              rw [e1] at hd'; injection hd' with hd'; subst hd'
              have : jj = 0 := by have := (List.getElem?_eq_some_iff.1 hu').1; simp at this; exact this
              subst this
              simp at hu'; subst hu'
              rw [Nat.add_zero, World.cell?_setCells_out g _ _ _ _ (fun _ _ => .inl hqn)]
              exact e2
            · rename_i hqn
              simp only [dens, At.den, hone, if_true, Option.some.injEq] at hd'
              subst hd'
              have : jj = 0 := by have := (List.getElem?_eq_some_iff.1 hu').1; simp at this; exact this
              subst this
              simp at hu'; subst hu'
              have hin := World.cell?_setCells_in g (List.replicate (R.len - n.toNat) te.zero) n.toNat w2 (fun jj hj => by obtain ⟨u, _, hu⟩ := hcells (n.toNat + jj) (by simp at hj; omega); rw [hu]; rfl) (q - n.toNat) (by simp; omega)
              rw [show n.toNat + (q - n.toNat) = q by omega] at hin
              rw [Nat.add_zero, hin]; simp
          · rw [b1]
            dsimp only at he'
            rw [hown] at he'; injection he' with he'; subst he'; rfl
          · dsimp only at hq ⊢
            split
            · obtain ⟨u0, e1, _⟩ := hcells q hq
              exact ⟨_, e1, rfl⟩
            · exact ⟨[te.zero], by simp [dens, At.den, hone], rfl⟩
      · have hp := reps_put_any hf o1 (v := .slice (some ⟨g, n.toNat, none⟩) (R.len - n.toNat) (cap - n.toNat)) (x := .any) trivial s rfl
        rw [d1] at hp
        exact hp
      · refine ⟨hdm.box, fun q hq => hdm.row q ?_⟩
        simp only [setAt_len] at hq
        omega
/-- A Bool that is known to be c. -/
theorem SG.lbSlot {todo : List Item} (i : Nat) {b c : Bool} (hF : s.F[i]? = some (.cv (.one (.v (.bool b))))) (he : b = c) (h : SG P f Q W todo ⟨s.F.set i (.cv (.one (.lb c))), s.B, s.R, s.G⟩) : SG P f Q W todo s := by
  refine ⟨fun ρ w a hm hf hd => h.run ρ w a (hm.sub (fun _ _ h => h) (fun _ _ h => h)) ⟨hf.defers, ?_⟩ ⟨hd.box, hd.row⟩⟩
  refine reps_of (by simpa using reps_len hf.tmps) fun q x hx => ?_
  by_cases hq : i = q
  · subst hq
    obtain ⟨v, h1, h2⟩ := reps_get hf.tmps hF
    have hlt := (List.getElem?_eq_some_iff.1 hF).1
    rw [List.getElem?_set_self hlt] at hx
    injection hx with hx; subst hx
    refine ⟨v, h1, ?_⟩
    subst he; exact h2
  · rw [List.getElem?_set_ne hq] at hx
    exact reps_get hf.tmps hx
/-- A Bool in a slot, by another name. -/
theorem SG.boolSlot {todo : List Item} (i : Nat) {x : At} {b c : Bool} (hF : s.F[i]? = some (.cv (.one x))) (hx : boolOf x = some b) (he : b = c) (h : SG P f Q W todo ⟨s.F.set i (.cv (.one (.v (.bool c)))), s.B, s.R, s.G⟩) : SG P f Q W todo s := by
  refine ⟨fun ρ w a hm hf hd => h.run ρ w a (hm.sub (fun _ _ h => h) (fun _ _ h => h)) ⟨hf.defers, ?_⟩ ⟨hd.box, hd.row⟩⟩
  refine reps_of (by simpa using reps_len hf.tmps) fun q y hy => ?_
  by_cases hq : i = q
  · subst hq
    obtain ⟨v, h1, h2⟩ := reps_get hf.tmps hF
    have hlt := (List.getElem?_eq_some_iff.1 hF).1
    rw [List.getElem?_set_self hlt] at hy
    injection hy with hy; subst hy
    refine ⟨v, h1, ?_⟩
    subst he
    have h3 := boolOf_den (ρ := ρ) hx
    simp only [SV.rep, Cv.den, h3, Option.some.injEq] at h2
    subst h2
    rfl
  · rw [List.getElem?_set_ne hq] at hy
    exact reps_get hf.tmps hy
/-- A nil slice at the head of a box becomes a row. -/
theorem SG.nilBox {todo : List Item} (i : Nat) (e : TypeId) (sz : Nat) {l : List At} (hB : s.B[i]? = some (some (.v (.slice none 0 0) :: l)))
    (h : SG P f Q W todo ⟨s.F, s.B.set i (some (.rs s.R.length :: l)), setAt s.R s.R.length ⟨sz, 0, fun _ => [], some e, false, true⟩, s.G⟩) : SG P f Q W todo s := by
  refine ⟨fun ρ w a hm hf hd => ?_⟩
  have hn := hd.row s.R.length (Nat.le_refl _)
  have h1 := hm.newRow (v := .slice none 0 0) (R := ⟨sz, 0, fun _ => [], some e, false, true⟩) hn ⟨⟨none, 0, rfl, Nat.le_refl _, Nat.zero_le _, fun _ => rfl, (fun h => by cases h), fun h => absurd h (by simp), fun _ _ => .inl rfl⟩, fun i hi => absurd hi (by simp), fun _ b ht => by cases ht.1⟩
    (fun i c b _ _ ht => by cases ht.1) (fun r R' v' b _ _ _ _ ht => by cases ht.1)
  have hle : ρ.le ⟨ρ.β, upd ρ.σ s.R.length (.slice none 0 0), ρ.ι⟩ := Env.le_row hn _
  have hσ : (upd ρ.σ s.R.length (.slice none 0 0)) s.R.length = some (.slice none 0 0) := upd_same _ _ _
  have hlt := (List.getElem?_eq_some_iff.1 hB).1
  have hd' : dens ⟨ρ.β, upd ρ.σ s.R.length (.slice none 0 0), ρ.ι⟩ (.rs s.R.length :: l) = dens ⟨ρ.β, upd ρ.σ s.R.length (.slice none 0 0), ρ.ι⟩ (.v (.slice none 0 0) :: l) := by
    simp [dens, At.den, hσ, Value.oneCell']
  have hget : ∀ (j : Nat) c, (s.B.set i (some (.rs s.R.length :: l)))[j]? = some (some c) → ∃ c0, s.B[j]? = some (some c0) ∧ dens ⟨ρ.β, upd ρ.σ s.R.length (.slice none 0 0), ρ.ι⟩ c = dens ⟨ρ.β, upd ρ.σ s.R.length (.slice none 0 0), ρ.ι⟩ c0 := fun j c hj => by
    by_cases hij : i = j
    · subst hij
      rw [List.getElem?_set_self hlt] at hj
      injection hj with hj; injection hj with hj; subst hj
      exact ⟨_, hB, hd'⟩
    · rw [List.getElem?_set_ne hij] at hj
      exact ⟨c, hj, rfl⟩
  refine h.run ⟨ρ.β, upd ρ.σ s.R.length (.slice none 0 0), ρ.ι⟩ w a ⟨h1.below, fun j c hj => ?_, fun j k c d b hne hj hk hb hb' => ?_, h1.row, fun r R v j c b hr hv hj hb ht => ?_, h1.rowRow, h1.ghost, h1.inn⟩ ⟨hf.defers, reps_le hle hf.tmps⟩ ⟨fun j hj => hd.box j (by simpa using hj), fun r hr => ?_⟩
  · obtain ⟨c0, g1, g2⟩ := hget j c hj
    rw [g2]
    exact h1.box j c0 g1
  · obtain ⟨c0, g1, _⟩ := hget j c hj
    obtain ⟨d0, g2, _⟩ := hget k d hk
    exact h1.boxNe j k c0 d0 b hne g1 g2 hb hb'
  · obtain ⟨c0, g1, _⟩ := hget j c hj
    exact h1.rowBox r R v j c0 b hr hv g1 hb ht
  · have hr' : s.R.length < r := by simp only [setAt_len] at hr; omega
    show upd ρ.σ s.R.length (.slice none 0 0) r = none
    rw [upd_ne _ _ (by omega)]
    exact hd.row r (by omega)
end
end Go.Sx
