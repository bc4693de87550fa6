/- slices.Insert of one element into a row of one's own. -/
import Derived.Test.YtpbpgkkfpfenhaaInsV
import Derived.Test.YtpbpgkkfpfenhaaSxX
namespace Go.Proofs.Ytpbpgkkfpfenhaa
open Go.Sx Go.RowKit
set_option linter.unusedVariables false
set_option linter.unusedSimpArgs false
theorem mx : Try.prog.follows .mixedOrders = true := Try.checked.mixed
section
variable {W : Base} {B : List (Option (List At))} {Rs : List (Option Row)} {α : Type}
theorem kill2 {r q : Nat} (hne : r ≠ q) : ∀ r', some r = some r' → ∀ (k k' : Nat), [r, q][k]? = some r' → [r, q][k']? = some r' → k = k' := by
  intro r' h k k' h1 h2
  injection h with h; subst h
  have key : ∀ k : Nat, [r, q][k]? = some r → k = 0 := fun k h => by
    match k, h with
    | 0, _ => rfl
    | 1, h => simp at h; exact absurd h.symm hne
    | k + 2, h => simp at h
  rw [key k h1, key k' h2]
theorem getD_insert (L : List α) (x d : α) (j : Nat) : (L ++ [x]).getD j d = if j < L.length then L.getD j d else [x].getD (j - L.length) d := by
  simp only [List.getD_eq_getElem?_getD]
  split
  · rw [List.getElem?_append_left (by assumption)]
  · rw [List.getElem?_append_right (by omega)]
set_option maxRecDepth 100000 in
theorem insert_end {f : α → List At} {d : α} (hV : ∀ x, (f x).all At.isV = true) {r q : Nat} {R Rq : Row} {L : List α} {x : α} (hr : Rs[r]? = some (some R)) (hR : RowLe R (rowN 3 f d L 45)) (hq : Rs[q]? = some (some Rq)) (hRq : RowLe Rq (rowL 3 f d [x])) (hne : r ≠ q) (hl : (L.length + 1) * 24 ≤ 140737488355328) :
    CallOk Try.prog W B Rs insF [.cv (.one (.rs r)), .cv (.one (.v (.int .i64 L.length))), .cv (.one (.rs q))] (mkHd (.cv (.one (.rs 0))) [rowN 3 f d (L ++ [x]) 45] (some r)) := by
  refine CallOk.enter Try.func32 (by kernel_rfl) rfl [r, q] [rowN 3 f d L 45, rowL 3 f d [x]] [.cv (.one (.rs 0)), .cv (.one (.v (.int .i64 L.length))), .cv (.one (.rs 1))] rfl (rows2 (.own_ hr hR rfl (fun i _ => hV _)) (.ro_ hq hRq rfl rfl (fun i _ => hV _))) (kill2 hne) rfl rfl ?_
  intro w blk hblk
  refine SG.walk tab_ok mx 8 [] [] ?_
  conv => whnf
  try dsimp only [rowL, rowN, growOk, hiN, fromL, tightN, maxOk]
  try simp (disch := omega) only [wI, wU64, wU32, wU8, Int.toNat_natCast, toNat_succ, toNat_pred, Int.reduceToNat, Option.getD_some, Option.getD_none, Nat.sub_zero, Nat.zero_add]
  refine ⟨?_, ?_⟩
  · trivial
  refine SG.cutAny tab_ok (x := 10) (y := 11) (d := 12) (r := 0) (n := (L.length : Int)) rfl rfl rfl rfl rfl rfl rfl rfl rfl rfl ⟨by omega, by show (L.length : Int) ≤ (L.length : Int); omega⟩ ?_
  refine SG.walk tab_ok mx 400 [false, true] [] ?_
  conv => whnf
  try dsimp only [rowL, rowN, growOk, hiN, fromL, tightN, maxOk]
  try simp (disch := omega) only [wI, wU64, wU32, wU8, Int.toNat_natCast, toNat_succ, toNat_pred, Int.reduceToNat, Option.getD_some, Option.getD_none, Nat.sub_zero, Nat.zero_add]
  refine ⟨?_, ?_⟩
  · refine ⟨⟨?_, ?_, Nat.zero_le _⟩, by simp, by simp⟩
    · simp only [List.length_cons, List.length_nil]; omega
    · simp only [List.length_cons, List.length_nil]; omega
  · refine SG.ret tab_ok Try.func32 rfl ?_
    intro ρ w' v hm hv
    exact Post.mk hm (.cv (.one (.rs 0))) [rowN 3 f d (L ++ [x]) 45] none [2] hv rfl (rows1 (.of rfl rfl rfl (by simp) rfl (fun i hi => by rw [getD_insert, apply_ite f]) (fun _ => hV _))) rfl (by simp)
theorem insert_mid {f : α → List At} {g : α → List Value} {d : α} (hden : ∀ ρ x, dens ρ (f x) = some (g x)) (hgl : ∀ x, (g x).length = 3) {r q : Nat} {R Rq : Row} {L : List α} {x : α} {i : Nat} (hr : Rs[r]? = some (some R)) (hR : RowLe R (rowN 3 f d L 45)) (hq : Rs[q]? = some (some Rq)) (hRq : RowLe Rq (rowN 3 f d [x] 45)) (hne : r ≠ q) (hl : (L.length + 1) * 24 ≤ 140737488355328) (hi : i < L.length) :
    CallOk Try.prog W B Rs insF [.cv (.one (.rs r)), .cv (.one (.v (.int .i64 i))), .cv (.one (.rs q))] (mkHd (.cv (.one (.rs 0))) [rowN 3 f d (L.take i ++ x :: L.drop i) 45] (some r)) := by
  refine ⟨⟨_, Try.func32, by kernel_rfl, rfl⟩, fun s' ρ w vs hm hR' hB' hkl hreps => ?_⟩
  obtain ⟨v, hσ, hok0⟩ := hm.row r R (hR' r R hr)
  obtain ⟨u, hσu, hoku0⟩ := hm.row q Rq (hR' q Rq hq)
  have hok := hok0.weak hR
  have hoku := hoku0.weak hRq
  obtain ⟨A, c, rfl, hnc, hcm, _, _, hcell, hown⟩ := hok.form
  obtain ⟨A', vc, rfl, hvc, hvcm, _, _, hcell', hown'⟩ := hoku.form
  obtain ⟨b, cur, rfl, hmine, hb, hcs⟩ := (hown _ rfl).resolve_left (by have h1 : L.length ≤ c := hnc; omega)
  obtain ⟨vb, cur', rfl, hmine', hvb, hcs'⟩ := (hown' _ rfl).resolve_left (by have h1 : 1 ≤ vc := hvc; omega)
  have hvs : vs = [.slice (some ⟨b, 0, none⟩) L.length c, .int .i64 i, .slice (some ⟨vb, 0, none⟩) 1 vc] := by
    match vs, hreps with
    | [v1, v2, v3], ⟨h1, h2, h3, _⟩ =>
      simp only [SV.rep, Cv.den, At.den, hσ, hσu] at h1 h3
      injection h1 with h1; injection h3 with h3; injection h2 with h2
      rw [← h1, ← h2, ← h3]; rfl
  subst hvs
  have hne' : vb ≠ b := fun e => by
    subst e
    refine hm.rowRow r q R Rq _ _ vb hne (hR' r R hr) (hR' q Rq hq) hσ hσu ?_ ⟨rfl, .inr ?_⟩ ⟨rfl, .inr ?_⟩
    · rcases hR.own with h | h
      · cases h
      · rw [← h]; rfl
    · rw [← hR.len]; show 0 < L.length; omega
    · rw [← hRq.len]; show 0 < 1; omega
  have hflat : ∀ (M : List α) (bb : Nat), (∀ k, k < M.length → ∀ us, dens ρ (f (M.getD k d)) = some us → ∀ j u, us[j]? = some u → w.cell? ⟨bb, 0 + k * 3 + j, none⟩ = some u) → ∀ q u, (M.flatMap g)[q]? = some u → w.cell? ⟨bb, q, none⟩ = some u := by
    intro M bb h q u hu
    have hlt := (List.getElem?_eq_some_iff.1 hu).1
    rw [flat_len hgl] at hlt
    have h1 : q / 3 < M.length := by omega
    have h2 : q = q / 3 * 3 + q % 3 := by omega
    have hx : M[q / 3]? = some (M.getD (q / 3) d) := by rw [List.getD_eq_getElem?_getD, List.getElem?_eq_getElem h1]; rfl
    have h3 := flat_get hgl M (q / 3) (q % 3) _ hx (by omega)
    rw [← h2, hu] at h3
    have := h (q / 3) h1 _ (hden ρ _) (q % 3) u h3.symm
    rwa [Nat.zero_add, ← h2] at this
  have hcsb : ∀ j v, (L.flatMap g)[j]? = some v → w.cell? ⟨b, j, none⟩ = some v := hflat L b (fun k hk us hus j u hu => by
    obtain ⟨b2, o2, e2, _, hc2⟩ := hcell (by show 0 < L.length; omega)
    injection e2 with e2; injection e2 with e3 e4; subst e3 e4
    exact hc2 k us hk hus j u hu)
  have hcsv : ∀ j v, (g x)[j]? = some v → w.cell? ⟨vb, j, none⟩ = some v := fun j v hv => hflat [x] vb (fun k hk us hus j u hu => by
    obtain ⟨b2, o2, e2, _, hc2⟩ := hcell' (by show 0 < 1; omega)
    injection e2 with e2; injection e2 with e3 e4; subst e3 e4
    exact hc2 k us hk hus j u hu) j v (by simpa using hv)
  have hg1 : ∀ x, ∀ v ∈ g x, v.oneCell' = true := fun x => dens_one (hden ρ x)
  have h1c : ∀ v ∈ L.flatMap g, v.oneCell' = true := fun v hv => by
    obtain ⟨y, _, hy⟩ := List.mem_flatMap.1 hv
    exact hg1 y v hy
  have hcl : (L.flatMap g).length = L.length * 3 := flat_len hgl L
  have hbsz : L.length * 3 ≤ cur.size := by rw [hcs]; exact Nat.mul_le_mul_right _ hnc
  have hAl : ((L.take i).flatMap g).length = i * 3 := by rw [flat_len hgl, List.length_take, Nat.min_eq_left (by omega)]
  have hDl : ((L.drop i).flatMap g).length = (L.length - i) * 3 := by rw [flat_len hgl, List.length_drop]
  have hnew : (L.take i ++ x :: L.drop i).flatMap g = (L.take i).flatMap g ++ (g x ++ (L.drop i).flatMap g) := by simp [List.flatMap_append]
  have hll : (L.take i ++ x :: L.drop i).length = L.length + 1 := by simp; omega
  have hii : i * 3 + (g x).length = (i + 1) * 3 := by rw [hgl]; omega
  have hkb : killBlk ρ (some r) = some b := by
    simp only [killBlk, hσ]
    rw [if_neg (by have h1 : L.length ≤ c := hnc; omega)]
  have hcm' : c ≤ 9223372036854775807 := by unfold maxLen at hcm; omega
  by_cases hroom : L.length + 1 ≤ c
  · have hbsz2 : (L.length + 1) * 3 ≤ cur.size := by rw [hcs]; exact Nat.mul_le_mul_right _ hroom
    refine Calls.mono (ins_shift b L.length c i vb vc (L.flatMap g) (g x) w hi hroom hcm' hne' hcl (hgl x) hcsb (fun j hj => by simp [World.cell?, hb]; omega) (fun j => by simp [World.frozen?, hb]) hcsv h1c (hg1 x) _ _ _ _ (show w.shape? vb = some (45, cur'.size) by simp [World.shape?, hvb]) (show w.shape? b = some (45, cur.size) by simp [World.shape?, hb]) (by omega) (by simp [World.frozen?, hvb]) (by simp [World.frozen?, hvb])) ?_
    rintro e w' ⟨rfl, hw'⟩
    rw [flat_drop hgl] at hw'
    obtain ⟨⟨c1, e1, e2⟩, e3, e4, e5, e6, e7⟩ := setCells_blk b ((L.drop i).flatMap g) ((i + 1) * 3) w.drew cur _ hb
    obtain ⟨⟨c2, k1, k2⟩, k3, k4, k5, k6, k7⟩ := setCells_blk b (g x) (i * 3) _ c1 _ e1
    rw [← hw'] at k1 k3 k4 k5 k6 k7
    have := hd_row (f := f) (d := d) (W := W) (ρ := ρ) (w := w) (w' := w') (blk := killBlk ρ (some r)) (kill := some r) (L' := L.take i ++ x :: L.drop i) (cap' := c) hden hgl hmine (.inr hkb) k1 (by rw [k2, e2, hcs]; rfl) (by rw [hll]; exact hroom) hcm ?_ ⟨k5.trans e5, k6.trans e6, k7.trans e7, by rw [k4, e4]; exact Nat.le_refl _, fun k hk hne => ?_⟩
    · rw [hll] at this; exact this
    · rw [hnew, hw']
      refine set_parts' (w := w.drew) (b := b) (fun j u hu => ?_) (fun j hj => ?_) (fun _ => by rw [hAl, hii]) (fun _ => by rw [hAl])
      · rw [← flat_take hgl] at hu
        exact hcsb j u (take_get hu).1
      · rw [hAl, hii, hDl, ← Nat.add_mul] at hj
        show (w.cell? ⟨b, j, none⟩).isSome = true
        have : (i + 1 + (L.length - i)) * 3 ≤ (L.length + 1) * 3 := Nat.mul_le_mul_right _ (by omega)
        simp [World.cell?, hb]; omega
    · rw [hkb] at hne
      have hkb' : k ≠ b := fun e => hne (by rw [e])
      exact (k3 k hkb').trans (e3 k hkb')
  · have hlt : c < L.length + 1 := by omega
    refine Calls.mono (ins_grow b L.length c i vb vc (L.flatMap g) (g x) w hi hnc hlt hl hcl (hgl x) hcsb hcsv h1c (hg1 x)) ?_
    rintro e w' ⟨ROW, G, rfl, hG1, hG2, hRs, hRh, hw'⟩
    rw [flat_drop hgl] at hw'
    have hal := heap_alloc_new w (.cells ROW 45)
    obtain ⟨⟨c1, e1, e2⟩, e3, e4, e5, e6, e7⟩ := setCells_blk w.heap.size (g x) (i * 3) (w.alloc (.cells ROW 45)).drew ROW _ hal
    obtain ⟨⟨c2, k1, k2⟩, k3, k4, k5, k6, k7⟩ := setCells_blk w.heap.size ((L.drop i).flatMap g) ((i + 1) * 3) (((w.alloc (.cells ROW 45)).drew).setCells w.heap.size (i * 3) (g x)).drew c1 _ e1
    rw [← hw'] at k1 k3 k4 k5 k6 k7
    have hcell0 : ∀ j, ((w.alloc (.cells ROW 45)).drew).cell? ⟨w.heap.size, j, none⟩ = ROW[j]? := fun j => World.cell?_alloc_at (w := w) ROW _ w.heap.size j rfl
    have hRl : (L.length + 1) * 3 ≤ ROW.size := by rw [hRs]; exact Nat.mul_le_mul_right _ hG1
    have := hd_row (f := f) (d := d) (W := W) (ρ := ρ) (w := w) (w' := w') (blk := killBlk ρ (some r)) (kill := some r) (L' := L.take i ++ x :: L.drop i) (cap' := G) hden hgl (.inl hm.below.size) (.inl (Nat.le_refl _)) k1 (by rw [k2, e2, hRs]) (by rw [hll]; exact hG1) hG2 ?_ ⟨k5.trans e5, k6.trans e6, k7.trans e7, ?_, fun k hk hne => ?_⟩
    · rw [hll] at this; exact this
    · rw [hnew, hw']
      refine set_parts (w := (w.alloc (.cells ROW 45)).drew) (b := w.heap.size) (w1 := (((w.alloc (.cells ROW 45)).drew).setCells w.heap.size (i * 3) (g x)).drew) (fun j u hu => ?_) (fun j hj => ?_) (fun _ => by rw [hAl]; rfl) (fun _ => by rw [hAl, hii])
      · have hjl := (List.getElem?_eq_some_iff.1 hu).1
        rw [hAl] at hjl
        rw [← flat_take hgl] at hu
        rw [hcell0, hRh j hjl]
        exact (take_get hu).1
      · rw [hAl, hii, hDl, ← Nat.add_mul] at hj
        have : (i + 1 + (L.length - i)) * 3 ≤ (L.length + 1) * 3 := Nat.mul_le_mul_right _ (by omega)
        rw [hcell0, Array.getElem?_eq_getElem (by omega)]; rfl
    · rw [k4]
      show w.heap.size ≤ (((w.alloc (.cells ROW 45)).drew).setCells w.heap.size (i * 3) (g x)).heap.size
      rw [e4]
      show w.heap.size ≤ (w.alloc (.cells ROW 45)).heap.size
      simp
    · have hkb' : k ≠ w.heap.size := by omega
      exact ((k3 k hkb').trans (e3 k hkb')).trans (Below.heap_alloc w _ k hk)
/-- One element, put in at a place, into a row of one's own. -/
theorem insert_c {f : α → List At} {g : α → List Value} {d : α} (hden : ∀ ρ x, dens ρ (f x) = some (g x)) (hgl : ∀ x, (g x).length = 3) (hV : ∀ x, (f x).all At.isV = true) {r q : Nat} {R Rq : Row} {L : List α} {x : α} {i : Nat} (hr : Rs[r]? = some (some R)) (hR : RowLe R (rowN 3 f d L 45)) (hq : Rs[q]? = some (some Rq)) (hRq : RowLe Rq (rowN 3 f d [x] 45)) (hne : r ≠ q) (hl : (L.length + 1) * 24 ≤ 140737488355328) (hi : i ≤ L.length) :
    CallOk Try.prog W B Rs insF [.cv (.one (.rs r)), .cv (.one (.v (.int .i64 i))), .cv (.one (.rs q))] (mkHd (.cv (.one (.rs 0))) [rowN 3 f d (L.take i ++ x :: L.drop i) 45] (some r)) := by
  by_cases h : i < L.length
  · exact insert_mid hden hgl hr hR hq hRq hne hl h
  · have e : i = L.length := by omega
    subst e
    rw [List.take_length, List.drop_length]
    exact insert_end hV hr hR hq ⟨hRq.sz, hRq.len, .inl rfl, hRq.tight, (fun h => by cases h), hRq.cells⟩ hne hl
end
end Go.Proofs.Ytpbpgkkfpfenhaa
