/- A new row out of cells that were set; a slice expression of which nothing is wanted. -/
import Derived.Test.YtlbldfdkicofdaaSxW
import Derived.Laws.IdiomCopy
namespace Go.Sx
open Go.RowKit
set_option linter.unusedVariables false
set_option linter.unusedSimpArgs false
set_option linter.unusedSectionVars false
section
variable {α : Type} {g : α → List Value} {sz : Nat}
theorem flat_take (hg : ∀ x, (g x).length = sz) : ∀ (L : List α) (i : Nat), (L.flatMap g).take (i * sz) = (L.take i).flatMap g
  | [], i => by simp
  | x :: L, 0 => by simp
  | x :: L, i + 1 => by
    rw [List.flatMap_cons, List.take_succ_cons, List.flatMap_cons, ← flat_take hg L i, Nat.add_mul, Nat.one_mul, List.take_append, hg, List.take_of_length_le (by rw [hg]; omega), Nat.add_sub_cancel]
theorem flat_drop (hg : ∀ x, (g x).length = sz) : ∀ (L : List α) (i : Nat), (L.flatMap g).drop (i * sz) = (L.drop i).flatMap g
  | [], i => by simp
  | x :: L, 0 => by simp
  | x :: L, i + 1 => by
    rw [List.flatMap_cons, List.drop_succ_cons, ← flat_drop hg L i, Nat.add_mul, Nat.one_mul, List.drop_append, hg, List.drop_of_length_le (by rw [hg]; omega), Nat.add_sub_cancel, List.nil_append]
end
/-- Three parts of a row, of which two are set. -/
theorem three_parts {A V D : List Value} {k : Nat} {u : Value} (h : (A ++ (V ++ D))[k]? = some u) :
    (k < A.length ∧ A[k]? = some u) ∨ (∃ j, k = A.length + j ∧ j < V.length ∧ V[j]? = some u) ∨ (∃ j, k = A.length + V.length + j ∧ j < D.length ∧ D[j]? = some u) := by
  by_cases h1 : k < A.length
  · exact .inl ⟨h1, by rwa [List.getElem?_append_left h1] at h⟩
  · rw [List.getElem?_append_right (by omega)] at h
    by_cases h2 : k - A.length < V.length
    · exact .inr (.inl ⟨k - A.length, by omega, h2, by rwa [List.getElem?_append_left h2] at h⟩)
    · rw [List.getElem?_append_right (by omega)] at h
      exact .inr (.inr ⟨k - A.length - V.length, by omega, (List.getElem?_eq_some_iff.1 h).1, h⟩)
theorem set_parts {b : Nat} {A V D : List Value} {w : World} (hA : ∀ j u, A[j]? = some u → w.cell? ⟨b, j, none⟩ = some u) (hs : ∀ j, j < A.length + V.length + D.length → (w.cell? ⟨b, j, none⟩).isSome = true) {w1 w2 : World}
    (h1 : ∀ x, w1.cell? x = (w.setCells b A.length V).cell? x) (h2 : ∀ x, w2.cell? x = (w1.setCells b (A.length + V.length) D).cell? x) : ∀ k u, (A ++ (V ++ D))[k]? = some u → w2.cell? ⟨b, k, none⟩ = some u := by
  have hs1 : ∀ j, j < A.length + V.length + D.length → (w1.cell? ⟨b, j, none⟩).isSome = true := fun j hj => by
    rw [h1]
    by_cases hin : A.length ≤ j ∧ j < A.length + V.length
    · have := World.cell?_setCells_in b V A.length w (fun i hi => hs _ (by omega)) (j - A.length) (by omega)
      rw [show A.length + (j - A.length) = j by omega] at this
      rw [this]; rfl
    · rw [World.cell?_setCells_out b V A.length w ⟨b, j, none⟩ (fun _ _ => by show j < A.length ∨ A.length + V.length ≤ j; omega)]
      exact hs j hj
  intro k u hk
  rw [h2]
  rcases three_parts hk with ⟨hlt, h⟩ | ⟨j, rfl, hj, h⟩ | ⟨j, rfl, hj, h⟩
  · rw [World.cell?_setCells_out _ _ _ _ _ (fun _ _ => by dsimp only; omega), h1, World.cell?_setCells_out _ _ _ _ _ (fun _ _ => by dsimp only; omega)]
    exact hA k u h
  · rw [World.cell?_setCells_out _ _ _ _ _ (fun _ _ => by dsimp only; omega), h1, World.cell?_setCells_in _ _ _ _ (fun i hi => hs _ (by omega)) j hj]
    rw [List.getElem?_eq_getElem hj] at h; exact h
  · rw [World.cell?_setCells_in _ _ _ _ (fun i hi => hs1 _ (by omega)) j hj]
    rw [List.getElem?_eq_getElem hj] at h; exact h
theorem set_parts' {b : Nat} {A V D : List Value} {w : World} (hA : ∀ j u, A[j]? = some u → w.cell? ⟨b, j, none⟩ = some u) (hs : ∀ j, j < A.length + V.length + D.length → (w.cell? ⟨b, j, none⟩).isSome = true) {w1 w2 : World}
    (h1 : ∀ x, w1.cell? x = (w.setCells b (A.length + V.length) D).cell? x) (h2 : ∀ x, w2.cell? x = (w1.setCells b A.length V).cell? x) : ∀ k u, (A ++ (V ++ D))[k]? = some u → w2.cell? ⟨b, k, none⟩ = some u := by
  have hs1 : ∀ j, j < A.length + V.length + D.length → (w1.cell? ⟨b, j, none⟩).isSome = true := fun j hj => by
    rw [h1]
    by_cases hin : A.length + V.length ≤ j ∧ j < A.length + V.length + D.length
    · have := World.cell?_setCells_in b D (A.length + V.length) w (fun i hi => hs _ (by omega)) (j - (A.length + V.length)) (by omega)
      rw [show A.length + V.length + (j - (A.length + V.length)) = j by omega] at this
      rw [this]; rfl
    · rw [World.cell?_setCells_out b D (A.length + V.length) w ⟨b, j, none⟩ (fun _ _ => by show j < A.length + V.length ∨ A.length + V.length + D.length ≤ j; omega)]
      exact hs j hj
  intro k u hk
  rw [h2]
  rcases three_parts hk with ⟨hlt, h⟩ | ⟨j, rfl, hj, h⟩ | ⟨j, rfl, hj, h⟩
  · rw [World.cell?_setCells_out _ _ _ _ _ (fun _ _ => by dsimp only; omega), h1, World.cell?_setCells_out _ _ _ _ _ (fun _ _ => by dsimp only; omega)]
    exact hA k u h
  · rw [World.cell?_setCells_in _ _ _ _ (fun i hi => hs1 _ (by omega)) j hj]
    rw [List.getElem?_eq_getElem hj] at h; exact h
  · rw [World.cell?_setCells_out _ _ _ _ _ (fun _ _ => by dsimp only; omega), h1, World.cell?_setCells_in _ _ _ _ (fun i hi => hs _ (by omega)) j hj]
    rw [List.getElem?_eq_getElem hj] at h; exact h
/-- A call that answers one new row. -/
theorem hd_row {α : Type} {f : α → List At} {g : α → List Value} {d : α} {sz : Nat} (hden : ∀ ρ x, dens ρ (f x) = some (g x)) (hgl : ∀ x, (g x).length = sz) {W : Base} {ρ : Env} {w w' : World} {blk : Option Nat} {g' cap' : Nat} {el : TypeId} {L' : List α} {cur' : Array Value} {kill : Option Nat}
    (hmine : W.mine g') (hfr : w.heap.size ≤ g' ∨ blk = some g') (hh : w'.heap[g']? = some (.cells cur' el (0, 0))) (hcs : cur'.size = cap' * sz) (hc : L'.length ≤ cap') (hcm : cap' ≤ maxLen)
    (hcell : ∀ k u, (L'.flatMap g)[k]? = some u → w'.cell? ⟨g', k, none⟩ = some u) (hgr : w.grownBy w' blk) :
    ∃ v vals, Ending.returned (.slice (some ⟨g', 0, none⟩) L'.length cap') = .returned v ∧ w.grownBy w' blk ∧ RowsNew W ρ w w' blk [rowN sz f d L' el] vals ∧ ∀ n ρ', ρ.le ρ' → (∀ (k : Nat) u, vals[k]? = some u → ρ'.σ (n + k) = some u) → ((mkHd (.cv (.one (.rs 0))) [rowN sz f d L' el] kill).res n).rep ρ' v := by
  refine ⟨_, [.slice (some ⟨g', 0, none⟩) L'.length cap'], rfl, hgr, ⟨rfl, fun k R u hR hu => ?_, fun k k' R R' u u' b hne hR hu hR' hu' => ?_⟩, fun n ρ' _ hσ => ?_⟩
  · cases k with
    | succ k => simp at hR
    | zero =>
      simp at hR hu; subst hR hu
      have ht : ∀ b, (rowN sz f d L' el).touch (.slice (some ⟨g', 0, none⟩) L'.length cap') b → b = g' := fun b ht => by have := ht.1; simp [Value.ownBlock] at this; exact this.symm
      refine ⟨⟨⟨_, cap', rfl, hc, hcm, (fun h => by cases h), (fun h => by cases h), fun h0 => ⟨g', 0, rfl, lt_of_some hh, fun i vs hi hvs j u hu => ?_⟩, fun e he => .inr ⟨g', cur', (0, 0), rfl, hmine, ?_, hcs, .zero _⟩⟩, fun i hi => ⟨_, hden ρ _, hgl _⟩, fun _ b hb => by rw [ht b hb]; exact hmine⟩, fun b hb => by rw [ht b hb]; exact hfr⟩
      · dsimp only [rowN] at hi hvs ⊢
        rw [hden] at hvs; injection hvs with hvs; subst hvs
        have hj : j < sz := by rw [← hgl (L'.getD i d)]; exact (List.getElem?_eq_some_iff.1 hu).1
        refine hcell _ u ?_
        rw [Nat.zero_add]
        have hx : L'[i]? = some (L'.getD i d) := by rw [List.getD_eq_getElem?_getD, List.getElem?_eq_getElem hi]; rfl
        rw [flat_get hgl L' i j _ hx hj]
        exact hu
      · dsimp only [rowN] at he
        injection he with he; subst he; exact hh
  · cases k with
    | succ k => simp at hR
    | zero => cases k' with
      | succ k' => simp at hR'
      | zero => exact absurd rfl hne
  · have := hσ 0 _ (by rfl)
    simp only [Nat.add_zero] at this
    simp [mkHd, SV.ren, Cv.ren, At.ren, SV.rep, Cv.den, At.den, nth, this]
theorem zero_cells (z : Array Value) (n : Nat) : (Builtin.zeroCells z n).toList.length = n * z.size := by
  simp [Builtin.zeroCells]
theorem zero_get (z : Array Value) (n i j : Nat) (u : Value) (hi : i < n) (hu : z.toList[j]? = some u) : (Builtin.zeroCells z n).toList[i * z.size + j]? = some u := by
  have hj : j < z.size := by have := (List.getElem?_eq_some_iff.1 hu).1; simpa using this
  have hlt : i * z.size + j < n * z.size := by
    have : (i + 1) * z.size ≤ n * z.size := Nat.mul_le_mul_right _ hi
    rw [Nat.add_mul] at this
    omega
  have hmod : (i * z.size + j) % z.size = j := by rw [Nat.mul_comm, Nat.mul_add_mod]; exact Nat.mod_eq_of_lt hj
  have hzj : z[j]! = u := by
    rw [Array.getElem?_toList] at hu
    simp [Array.getElem!_eq_getD, Array.getD_eq_getD_getElem?, hu]
  rw [Array.getElem?_toList, Builtin.zeroCells, Array.getElem?_map, Array.getElem?_range, if_pos hlt, Option.map_some, hmod, hzj]
theorem zero_one (z : Array Value) (n : Nat) (h : ∀ u ∈ z.toList, u.oneCell' = true) : ∀ u ∈ (Builtin.zeroCells z n).toList, u.oneCell' = true := by
  intro u hu
  rw [Array.mem_toList_iff, Builtin.zeroCells, Array.mem_map] at hu
  obtain ⟨i, hi, rfl⟩ := hu
  rw [Array.mem_range] at hi
  have hz : 0 < z.size := by
    rcases Nat.eq_zero_or_pos z.size with h0 | h0
    · rw [h0] at hi; simp at hi
    · exact h0
  have hlt : i % z.size < z.size := Nat.mod_lt _ hz
  have e : z[i % z.size]! = z[i % z.size] := by simp [Array.getElem!_eq_getD, Array.getD_eq_getD_getElem?, hlt]
  rw [e]
  exact h _ (by simp)
theorem run_clear_wide {P : Program} (w : World) (t e ty : TypeId) (z : Value) (ht : P.underlying t = some (.slice e)) (hv : ∀ w, (zeroValue e).run P w = .ok z w) (h1 : ∀ u ∈ z.cells.toList, u.oneCell' = true) (b o n c : Nat) (hn : 0 < n)
    (hc : ∀ j, j < n * z.cells.size → (w.cell? ⟨b, o + j, none⟩).isSome = true) (hf : ∀ j, j < n * z.cells.size → w.frozen? ⟨b, o + j, none⟩ = false) :
    (Builtin.clear_ #[t] ty #[.slice (some ⟨b, o, none⟩) n c]).run P w = .ok (.tuple #[]) (w.setCells b o (Builtin.zeroCells z.cells n).toList) := by
  have hst := run_storeCells_cells (P := P) b o (Builtin.zeroCells z.cells n).toList 0 w (fun j hj => by rw [zero_cells] at hj; simpa using hc j hj) (fun j hj => by rw [zero_cells] at hj; simpa using hf j hj) (zero_one _ _ h1)
  simp only [Nat.add_zero] at hst
  obtain ⟨m, rfl⟩ : ∃ m, n = m + 1 := ⟨n - 1, by omega⟩
  simp [Builtin.clear_, run_underlying ht, hv, hst]
/-- A row with one more element behind. -/
theorem RowLe.snoc {α : Type} {f : α → List At} {d : α} {L M : List α} {x : α} {sz len : Nat} {cells c : Nat → List At} {e : TypeId} {tg : Bool} (hM : M = L ++ [x]) (hlen : len = L.length + 1) (hc : ∀ i, i < L.length → cells i = f (L.getD i d)) (hx : cells L.length = f x) (hg : ∀ i, c i = f (M.getD i d)) :
    RowLe ⟨sz, len, cells, some e, tg, true⟩ ⟨sz, M.length, c, some e, false, true⟩ := by
  subst hM
  refine ⟨rfl, by simp [hlen], .inr rfl, (fun h => by cases h), (fun _ => rfl), fun i hi => ?_⟩
  dsimp only at hi ⊢
  rw [hg]
  simp only [List.getD_eq_getElem?_getD]
  by_cases h : i < L.length
  · rw [List.getElem?_append_left h, hc i h, List.getD_eq_getElem?_getD]
  · have : i = L.length := by omega
    subst this
    rw [hx]; simp
theorem RowLe.snoc2 {α : Type} {f : α → List At} {d : α} {L M : List α} {x y : α} {sz len : Nat} {cells c : Nat → List At} {e : TypeId} {tg : Bool} (hM : M = (L ++ [x]) ++ [y]) (hlen : len = L.length + 1 + 1) (hc : ∀ i, i < L.length → cells i = f (L.getD i d)) (hx : cells L.length = f x) (hy : cells (L.length + 1) = f y) (hg : ∀ i, c i = f (M.getD i d)) :
    RowLe ⟨sz, len, cells, some e, tg, true⟩ ⟨sz, M.length, c, some e, false, true⟩ := by
  refine RowLe.snoc (L := L ++ [x]) (x := y) hM (by simp [hlen]) (fun i hi => ?_) (by simpa using hy) hg
  simp only [List.getD_eq_getElem?_getD]
  by_cases h : i < L.length
  · rw [List.getElem?_append_left h, hc i h, List.getD_eq_getElem?_getD]
  · have : i = L.length := by simp at hi; omega
    subst this
    rw [hx]; simp
theorem toNat_succ (k : Nat) : ((k : Int) + 1).toNat = k + 1 := by omega
theorem toNat_pred (k : Nat) : ((k : Int) + 1 - 1).toNat = k := by omega
theorem take_snoc {α : Type} {L : List α} {k : Nat} {d : α} (h : k < L.length) : L.take (k + 1) = L.take k ++ [L.getD k d] := by
  rw [List.take_succ_eq_append_getElem h]
  simp [List.getD_eq_getElem?_getD, h]
theorem map_take_snoc {α β : Type} {g : α → β} {L : List α} {k : Nat} {d : α} (h : k < L.length) : (L.take (k + 1)).map g = (L.take k).map g ++ [g (L.getD k d)] := by
  rw [take_snoc (d := d) h]; simp
theorem filt_take_yes {α : Type} {p : α → Bool} {L : List α} {k : Nat} {d : α} (h : k < L.length) (hp : p (L.getD k d) = true) : (L.take (k + 1)).filter p = (L.take k).filter p ++ [L.getD k d] := by
  rw [take_snoc (d := d) h]; simp [List.filter_cons, hp, - List.getD_eq_getElem?_getD]
theorem filt_take_no {α : Type} {p : α → Bool} {L : List α} {k : Nat} {d : α} (h : k < L.length) (hp : p (L.getD k d) = false) : (L.take (k + 1)).filter p = (L.take k).filter p := by
  rw [take_snoc (d := d) h]; simp [List.filter_cons, hp, - List.getD_eq_getElem?_getD]
section
variable {P : Program} {f : Fr} {Q : Ending → World → Prop} {W : Base} {T : Tab} {k : List Item} {s : St}
/-- 's[y:]', of which nothing is wanted. -/
theorem SG.cutAny (hT : TabOk P T) {ops : Array Oper} {i : Nat} {rest : List Nat} {o : Oper} {t e : TypeId} {tt te : Ty} {x y d : Tmp} {r : Nat} {n : Int} {R : Row}
    (h1 : ops.toList[i]? = some o) (g1 : o.guard = none) (p1 : o.op = .slice t (.tmp x) (some (.tmp y)) none none) (d1 : o.dst = some d)
    (ht : T.get t = some tt) (hk : tt.k = .slice e) (he : T.get e = some te)
    (hx : s.get (.tmp x) = some (.cv (.one (.rs r)))) (hy : s.get (.tmp y) = some (.cv (.one (.v (.int .i64 n))))) (hR : s.row r = some R)
    (hn : 0 ≤ n ∧ n ≤ R.len)
    (h : SG P f Q W (.inRegion ops rest :: k) ⟨s.F.set d .any, s.B, s.R, s.G⟩) : SG P f Q W (.inRegion ops (i :: rest) :: k) s := by
  refine ⟨fun ρ w a hm hf hdm => ?_⟩
  obtain ⟨hn0, hn1⟩ := hn
  have hv := St.get_ok hf hx
  have hw := St.get_ok hf hy
  obtain ⟨v, hσ, hrow⟩ := hm.row r R (St.row_ok hR)
  obtain ⟨A, cap, rfl, hc, hcm, hnn, htt, hcell, hownf⟩ := hrow.form
  have ex : a.eval (.tmp x) = .slice A R.len cap := by
    simp only [SV.rep, Cv.den, At.den, hσ] at hv
    injection hv with hv; exact hv.symm
  have ey : a.eval (.tmp y) = .int .i64 n := by
    simp only [SV.rep, Cv.den, At.den] at hw
    injection hw with hw; exact hw.symm
  have hu := (hT t tt ht).slice hk
  have hel : P.elem t = e := by simp [Program.elem, hu]
  have hu' : P.underlying t = some (.slice (P.elem t)) := by rw [hel]; exact hu
  have hsize := (hT _ _ he).runSize w
  have hrun := run_slice_l w t A R.len cap hu' .i64 n hn0 (by omega)
  rw [hel, hsize] at hrun
  refine Good.op (K := fun u w2 => w2 = w) (by simpa using h1) (by simp [Region.wanted, g1]) (by intro c; rw [p1]; simp) ?_ ?_
  · unfold Does
    have : ∃ u, (execOp a.eval o).run P w = .ok (.value u) w := by
      refine ⟨sliced A n.toNat R.len cap te.size, ?_⟩
      · unfold execOp
        rw [p1]
        simp only [Option.map_some, Option.map_none, ex, ey]
        rw [Sem.run_bind, run_sliceAt_slice w t _ _ _ _ hu', hrun]
        rfl
    obtain ⟨u, hu2⟩ := this
    rw [hu2]
  · rintro u w2 rfl
    rw [d1]
    refine h.run ρ _ _ (hm.sub (fun _ _ h => h) (fun _ _ h => h)) ?_ ⟨hdm.box, hdm.row⟩
    have hp := reps_put_any hf o (v := u) (x := .any) trivial s rfl
    rw [d1] at hp
    exact hp
theorem SG.clearWide (hT : TabOk P T) {ops : Array Oper} {i j : Nat} {rest : List Nat} {o1 o2 : Oper} {t e eo : TypeId} {tt te : Ty} {x y d : Tmp} {r : Nat} {n : Int} {R : Row}
    (h1 : ops.toList[i]? = some o1) (g1 : o1.guard = none) (p1 : o1.op = .slice t (.tmp x) (some (.tmp y)) none none) (d1 : o1.dst = some d)
    (h2 : ops.toList[j]? = some o2) (g2 : o2.guard = none) (p2 : o2.op = .call { callee := .builtin .clear, args := #[.tmp d], argTypes := #[t] }) (d2 : o2.dst = none)
    (ht : T.get t = some tt) (hk : tt.k = .slice e) (he : T.get e = some te) (hs0 : 0 < te.size)
    (hx : s.get (.tmp x) = some (.cv (.one (.rs r)))) (hy : s.get (.tmp y) = some (.cv (.one (.v (.int .i64 n))))) (hR : s.row r = some R) (hRs : R.sz = te.size) (hown : R.own = some eo) (hd : d < s.F.length)
    (hn : 0 ≤ n ∧ n < R.len)
    (h : SG P f Q W (.inRegion ops rest :: k) ⟨s.F.set d .any, s.B, setAt s.R r ⟨R.sz, R.len, fun q => if q < n.toNat then R.cells q else te.zero.cells.toList.map atOf, R.own, R.tight, R.new⟩, s.G⟩) : SG P f Q W (.inRegion ops (i :: j :: rest) :: k) s := by
  refine ⟨fun ρ w a hm hf hdm => ?_⟩
  obtain ⟨hn0, hn1⟩ := hn
  have hv := St.get_ok hf hx
  have hw := St.get_ok hf hy
  obtain ⟨v, hσ, hrow⟩ := hm.row r R (St.row_ok hR)
  obtain ⟨A, cap, rfl, hc, hcm, hnn, htt, hcell, hownf⟩ := hrow.form
  obtain ⟨g, cur, fz, rfl, hmine, hg, hcs, hbeh⟩ := (hownf eo hown).resolve_left (by omega)
  have ex : a.eval (.tmp x) = .slice (some ⟨g, 0, none⟩) R.len cap := by
    simp only [SV.rep, Cv.den, At.den, hσ] at hv
    injection hv with hv; exact hv.symm
  have ey : a.eval (.tmp y) = .int .i64 n := by
    simp only [SV.rep, Cv.den, At.den] at hw
    injection hw with hw; exact hw.symm
  have hu := (hT t tt ht).slice hk
  have hel : P.elem t = e := by simp [Program.elem, hu]
  have hu' : P.underlying t = some (.slice (P.elem t)) := by rw [hel]; exact hu
  have hsize := (hT _ _ he).runSize w
  have hzero := fun w => (hT _ _ he).runZero w
  have hzs : te.zero.cells.size = te.size := (hT _ _ he).2.2.1
  have hone : ∀ u ∈ te.zero.cells.toList, u.oneCell' = true := (hT _ _ he).2.2.2.1
  have hcapn : cap ≠ n.toNat := by omega
  have hoff : n.toNat * te.size + (R.len - n.toNat) * te.size = R.len * te.size := by rw [← Nat.add_mul]; congr 1; omega
  have hRc : R.len * te.size ≤ cur.size := by rw [hcs, hRs]; exact Nat.mul_le_mul_right _ hc
  refine Good.op (K := fun u w2 => u = .slice (some ⟨g, n.toNat * te.size, none⟩) (R.len - n.toNat) (cap - n.toNat) ∧ w2 = w) (by simpa using h1) (by simp [Region.wanted, g1]) (by intro c; rw [p1]; simp) ?_ ?_
  · unfold Does
    have : (execOp a.eval o1).run P w = .ok (.value (.slice (some ⟨g, n.toNat * te.size, none⟩) (R.len - n.toNat) (cap - n.toNat))) w := by
      unfold execOp
      rw [p1]
      simp only [Option.map_some, Option.map_none, ex, ey]
      rw [Sem.run_bind, run_sliceAt_slice w t _ _ _ _ hu']
      have hrun := run_slice_l w t (some ⟨g, 0, none⟩) R.len cap hu' .i64 n hn0 (by omega)
      rw [hel, hsize] at hrun
      rw [hrun]
      simp [sliced, hcapn, Addr.add]
      intro h0; omega
    rw [this]
    exact ⟨rfl, rfl⟩
  · rintro u w2 ⟨rfl, rfl⟩
    rw [d1]
    have hda : d < a.tmps.size := by have hrl := reps_len hf.tmps; rw [Array.length_toList] at hrl; exact Nat.lt_of_lt_of_eq hd hrl.symm
    have hlen : 0 < R.len - n.toNat := by omega
    have hsome : ∀ q, q < R.len * te.size → (w2.cell? ⟨g, q, none⟩).isSome = true := fun q hq => by
      have : q < cur.size := by omega
      simp [World.cell?, hg, this]
    have hcl : ∀ ty, (Builtin.clear_ #[t] ty #[.slice (some ⟨g, n.toNat * te.size, none⟩) (R.len - n.toNat) (cap - n.toNat)]).run P w2 = .ok (.tuple #[]) (w2.setCells g (n.toNat * te.size) (Builtin.zeroCells te.zero.cells (R.len - n.toNat)).toList) := fun ty =>
      run_clear_wide w2 t e ty te.zero hu hzero hone g (n.toNat * te.size) _ _ hlen (fun q hq => hsome _ (by rw [hzs] at hq; omega)) (fun q hq => hbeh.free hg (by rw [hzs] at hq; omega))
    obtain ⟨⟨cur', b1, b2⟩, b3, b4, b5, b6, b7⟩ := setCells_blk g (Builtin.zeroCells te.zero.cells (R.len - n.toNat)).toList (n.toNat * te.size) w2 cur eo fz hg
    refine Good.op (K := fun u w3 => w3 = w2.setCells g (n.toNat * te.size) (Builtin.zeroCells te.zero.cells (R.len - n.toNat)).toList) (by simpa using h2) (by simp [Region.wanted, g2]) (by intro c; rw [p2]; simp) ?_ ?_
    · have ed : (a.put (some d) (.slice (some ⟨g, n.toNat * te.size, none⟩) (R.len - n.toNat) (cap - n.toNat))).eval (.tmp d) = .slice (some ⟨g, n.toNat * te.size, none⟩) (R.len - n.toNat) (cap - n.toNat) := by
        simp [Act.eval, Act.put, hda]
      unfold Does
      have : (execOp (a.put (some d) (.slice (some ⟨g, n.toNat * te.size, none⟩) (R.len - n.toNat) (cap - n.toNat))).eval o2).run P w2 = .ok (.value (.tuple #[])) (w2.setCells g (n.toNat * te.size) (Builtin.zeroCells te.zero.cells (R.len - n.toNat)).toList) := by
        unfold execOp
        simp only [p2, resolve, invoke, builtin, Sem.run_bind, Sem.run_pure, Result.andThen_ok, List.map_toArray, List.map_cons, List.map_nil, ed, hcl]
      rw [this]
    · rintro u w3 rfl
      rw [d2]
      have hrl : r < s.R.length := (List.getElem?_eq_some_iff.1 (St.row_ok hR)).1
      refine h.run ρ _ _ ?_ ?_ ?_
      · have hm' := hm.putRow (w' := w2.setCells g (n.toNat * te.size) (Builtin.zeroCells te.zero.cells (R.len - n.toNat)).toList) (R' := ⟨R.sz, R.len, fun q => if q < n.toNat then R.cells q else te.zero.cells.toList.map atOf, R.own, R.tight, R.new⟩) (St.row_ok hR) hσ (by rw [hown]; rfl) (b := g) ⟨rfl, .inr (by omega)⟩ hmine ⟨_, _, _, hg⟩ rfl rfl ?_ b3 b4 ⟨b5, b6, b7⟩
        · exact hm'.put (some d) .any
        · refine ⟨⟨_, cap, rfl, hc, hcm, hnn, htt, fun _ => ⟨g, 0, rfl, by rw [b4]; exact lt_of_some hg, fun q vs hq hd' jj u hu' => ?_⟩, fun e' he' => .inr ⟨g, cur', fz, rfl, hmine, ?_, (by rw [b2, hcs]), hbeh.of_size b2⟩⟩, fun q hq => ?_, fun hnw b ht => hrow.fresh hnw b (by unfold Row.touch at ht ⊢; exact ht)⟩
          · dsimp only at hd' hq ⊢
            rw [Nat.zero_add]
            split at hd'
            · rename_i hqn
              obtain ⟨b', o', eA, _, hcell'⟩ := hcell (by omega)
              injection eA with eA; injection eA with eb eo2; subst eb eo2
              obtain ⟨vs2, e1, e2⟩ := hrow.each q hq
              rw [e1] at hd'; injection hd' with hd'; subst hd'
              have hjj := (List.getElem?_eq_some_iff.1 hu').1
              have := hcell' q _ hq e1 jj u hu'
              rw [Nat.zero_add] at this
              rw [World.cell?_setCells_out g _ _ _ _ (fun _ _ => .inl ?_)]
              · exact this
              · show q * R.sz + jj < n.toNat * te.size
                have : (q + 1) * te.size ≤ n.toNat * te.size := Nat.mul_le_mul_right _ hqn
                rw [Nat.add_mul] at this
                rw [hRs]; rw [e2, hRs] at hjj; omega
            · rename_i hqn
              rw [dens_atOf hone] at hd'
              injection hd' with hd'; subst hd'
              have hjj : jj < te.size := by have := (List.getElem?_eq_some_iff.1 hu').1; rw [Array.length_toList, hzs] at this; exact this
              have hin := World.cell?_setCells_in g (Builtin.zeroCells te.zero.cells (R.len - n.toNat)).toList (n.toNat * te.size) w2 (fun jj hj => hsome _ (by rw [zero_cells, hzs] at hj; omega)) ((q - n.toNat) * te.size + jj) (by
                rw [zero_cells, hzs]
                have : (q - n.toNat + 1) * te.size ≤ (R.len - n.toNat) * te.size := Nat.mul_le_mul_right _ (by omega)
                rw [Nat.add_mul] at this; omega)
              have hz := zero_get te.zero.cells (R.len - n.toNat) (q - n.toNat) jj u (by omega) hu'
              rw [hzs] at hz
              rw [hRs, show q * te.size + jj = n.toNat * te.size + ((q - n.toNat) * te.size + jj) by rw [← Nat.add_assoc, ← Nat.add_mul]; congr 2; omega, hin]
              rw [List.getElem?_eq_getElem] at hz
              exact hz
          · rw [b1]
            dsimp only at he'
            rw [hown] at he'; injection he' with he'; subst he'; rfl
          · dsimp only at hq ⊢
            split
            · exact hrow.each q hq
            · exact ⟨_, dens_atOf hone, by rw [Array.length_toList, hzs, hRs]⟩
      · have hp := reps_put_any hf o1 (v := .slice (some ⟨g, n.toNat * te.size, none⟩) (R.len - n.toNat) (cap - n.toNat)) (x := .any) trivial s rfl
        rw [d1] at hp
        exact hp
      · refine ⟨hdm.box, fun q hq => hdm.row q ?_⟩
        simp only [setAt_len] at hq
        omega
theorem CallOk.args {B : List (Option (List At))} {Rs : List (Option Row)} {g : FuncId} {args args' : List SV} {h : Hd} (H : CallOk P W B Rs g args' h) (ha : ∀ ρ vs, reps ρ args vs → reps ρ args' vs) : CallOk P W B Rs g args h :=
  ⟨H.can, fun s' ρ w vs hm hR hB hk hr => H.does s' ρ w vs hm hR hB hk (ha ρ vs hr)⟩
theorem rp_zero {ρ : Env} {r a b : Nat} : (Pt.rp r 0 a 0).den ρ = (Pt.rp r 0 b 0).den ρ := by simp [Pt.den]
theorem dens_set {ρ : Env} : ∀ {l : List At} {j : Nat} {x y : At}, l[j]? = some y → x.den ρ = y.den ρ → dens ρ (l.set j x) = dens ρ l
  | [], j, x, y, h, _ => by simp at h
  | z :: l, 0, x, y, h, e => by simp at h; subst h; simp [dens, e]
  | z :: l, j + 1, x, y, h, e => by simp only [List.set_cons_succ, dens, dens_set (l := l) (by simpa using h) e]
/-- A nil slice anywhere in a box becomes a row. -/
theorem SG.nilBoxAt {todo : List Item} (i jj : Nat) (e : TypeId) (sz : Nat) {l : List At} (hB : s.B[i]? = some (some l)) (hl : l[jj]? = some (.v (.slice none 0 0)))
    (h : SG P f Q W todo ⟨s.F, s.B.set i (some (l.set jj (.rs s.R.length))), setAt s.R s.R.length ⟨sz, 0, fun _ => [], some e, false, true⟩, s.G⟩) : SG P f Q W todo s := by
  refine ⟨fun ρ w a hm hf hd => ?_⟩
  have hn := hd.row s.R.length (Nat.le_refl _)
  have h1 := hm.newRow (v := .slice none 0 0) (R := ⟨sz, 0, fun _ => [], some e, false, true⟩) hn ⟨⟨none, 0, rfl, Nat.le_refl _, Nat.zero_le _, fun _ => rfl, (fun h => by cases h), fun h => absurd h (by simp), fun _ _ => .inl rfl⟩, fun i hi => absurd hi (by simp), fun _ b ht => by cases ht.1⟩
    (fun i c b _ _ ht => by cases ht.1) (fun r R' v' b _ _ _ _ ht => by cases ht.1)
  have hle : ρ.le ⟨ρ.β, upd ρ.σ s.R.length (.slice none 0 0), ρ.ι⟩ := Env.le_row hn _
  have hσ : (upd ρ.σ s.R.length (.slice none 0 0)) s.R.length = some (.slice none 0 0) := upd_same _ _ _
  have hlt := (List.getElem?_eq_some_iff.1 hB).1
  have hd' : dens ⟨ρ.β, upd ρ.σ s.R.length (.slice none 0 0), ρ.ι⟩ (l.set jj (.rs s.R.length)) = dens ⟨ρ.β, upd ρ.σ s.R.length (.slice none 0 0), ρ.ι⟩ l := by
    exact dens_set hl (by simp [At.den, hσ, Value.oneCell'])
  have hget : ∀ (j : Nat) c, (s.B.set i (some (l.set jj (.rs s.R.length))))[j]? = some (some c) → ∃ c0, s.B[j]? = some (some c0) ∧ dens ⟨ρ.β, upd ρ.σ s.R.length (.slice none 0 0), ρ.ι⟩ c = dens ⟨ρ.β, upd ρ.σ s.R.length (.slice none 0 0), ρ.ι⟩ c0 := fun j c hj => by
    by_cases hij : i = j
    · subst hij
      rw [List.getElem?_set_self hlt] at hj
      injection hj with hj; injection hj with hj; subst hj
      exact ⟨_, hB, hd'⟩
    · rw [List.getElem?_set_ne hij] at hj
      exact ⟨c, hj, rfl⟩
  refine h.run ⟨ρ.β, upd ρ.σ s.R.length (.slice none 0 0), ρ.ι⟩ w a ⟨h1.below, fun j c hj => ?_, fun j k c d b hne hj hk hb hb' => ?_, h1.row, fun r R v j c b hr hv hj hb ht => ?_, h1.rowRow, h1.ghost, h1.inn⟩ ⟨hf.defers, reps_le hle hf.tmps⟩ ⟨fun j hj => hd.box j (by simpa using hj), fun r hr => ?_⟩
  · obtain ⟨c0, g1, g2⟩ := hget j c hj
    rw [g2]
    exact h1.box j c0 g1
  · obtain ⟨c0, g1, _⟩ := hget j c hj
    obtain ⟨d0, g2, _⟩ := hget k d hk
    exact h1.boxNe j k c0 d0 b hne g1 g2 hb hb'
  · obtain ⟨c0, g1, _⟩ := hget j c hj
    exact h1.rowBox r R v j c0 b hr hv g1 hb ht
  · have hr' : s.R.length < r := by simp only [setAt_len] at hr; omega
    show upd ρ.σ s.R.length (.slice none 0 0) r = none
    rw [upd_ne _ _ (by omega)]
    exact hd.row r (by omega)
end
end Go.Sx
