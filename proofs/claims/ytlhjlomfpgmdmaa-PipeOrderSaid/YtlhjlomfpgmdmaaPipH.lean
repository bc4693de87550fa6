/- PipeOrder: what was written is read, in order: facts on texts; the loop. -/
import Derived.Test.YtlhjlomfpgmdmaaPipC
import Derived.Test.YtlhjlomfpgmdmaaRowI
namespace Go.Proofs.Ytlhjlomfpgmdmaa
open Go.RowKit
set_option linter.unusedVariables false

abbrev Act := Bool × Int × ByteArray
def actC (x : Act) : List Value := [.bool x.1, .int .i64 x.2.1, .string x.2.2]
theorem actC_len (x : Act) : (actC x).length = 3 := rfl
theorem act_cells {w : World} {L : List Act} {b o : Nat} (h : ∀ j u, (L.flatMap actC)[j]? = some u → w.cell? ⟨b, o + j, none⟩ = some u) (k : Nat) (x : Act) (hk : L[k]? = some x) :
    w.cell? ⟨b, o + k * 3, none⟩ = some (.bool x.1) ∧ w.cell? ⟨b, o + k * 3 + 1, none⟩ = some (.int .i64 x.2.1) ∧ w.cell? ⟨b, o + k * 3 + 2, none⟩ = some (.string x.2.2) := by
  have h0 := flat_get actC_len L k 0 x hk (by omega)
  have h1 := flat_get actC_len L k 1 x hk (by omega)
  have h2 := flat_get actC_len L k 2 x hk (by omega)
  exact ⟨h _ _ h0, by have := h _ _ h1; rwa [← Nat.add_assoc] at this, by have := h _ _ h2; rwa [← Nat.add_assoc] at this⟩

theorem read_join {d : ByteArray} {x n : Int} (h : rE d x n = 0) : rS d n ++ rD d n = d := by
  unfold rS rD
  by_cases h0 : n ≤ 0
  · rw [if_pos h0, if_pos h0]
    simp [← ba_empty]
  · rw [if_neg h0, if_neg h0, ByteArray.extract_append_extract]
    rw [show min 0 (min n.toNat d.size) = 0 by omega, show max (min n.toNat d.size) d.size = d.size by omega]
    exact ByteArray.extract_zero_size
theorem write_join (d s : ByteArray) (r : Int) : wD d s r = d ++ s.extract 0 (wK d s r) := by
  unfold wD wK
  split
  · simp
  · rfl
theorem rS_size (d : ByteArray) (n : Int) : (rS d n).size ≤ d.size := by
  unfold rS
  split
  · exact Nat.zero_le _
  · rw [ByteArray.size_extract]; omega
theorem wK_le (d s : ByteArray) (r : Int) : wK d s r ≤ s.size ∧ wK d s r ≤ 8 := by
  unfold wK
  split <;> omega

/-- What holds at a round's head. -/
def ordInv (n k : Nat) (a b d : ByteArray) : Prop := k ≤ n ∧ k ≤ 300 ∧ b ++ d = a ∧ d.size ≤ 8 ∧ a.size ≤ 8 * k
theorem ord_read {n k : Nat} {a b d : ByteArray} {m : Int} (h : ordInv n k a b d) (hk : k < n) (hk3 : k < 300) (he : rE d 1 m = 0) : ordInv n (k + 1) a (b ++ rS d m) (rD d m) := by
  obtain ⟨h1, h2, h3, h4, h5⟩ := h
  refine ⟨hk, hk3, ?_, Nat.le_trans (rD_size d m) h4, by omega⟩
  rw [ByteArray.append_assoc, read_join he, h3]
theorem ord_stay {n k : Nat} {a b d : ByteArray} (h : ordInv n k a b d) (hk : k < n) (hk3 : k < 300) : ordInv n (k + 1) a b d := by
  obtain ⟨h1, h2, h3, h4, h5⟩ := h
  exact ⟨hk, hk3, h3, h4, by omega⟩
theorem ord_write {n k : Nat} {a b d s : ByteArray} (h : ordInv n k a b d) (hk : k < n) (hk3 : k < 300) : ordInv n (k + 1) (a ++ s.extract 0 (wK d s 1)) b (wD d s 1) := by
  obtain ⟨h1, h2, h3, h4, h5⟩ := h
  have hw := wK_le d s 1
  refine ⟨hk, hk3, ?_, wD_size d s 1 h4, ?_⟩
  · rw [write_join, ← ByteArray.append_assoc, h3]
  · rw [ByteArray.size_append, ByteArray.size_extract]; omega
theorem ord_sizes {n k : Nat} {a b d : ByteArray} (h : ordInv n k a b d) : b.size ≤ 2400 ∧ a.size ≤ 2400 ∧ d.size ≤ 8 := by
  obtain ⟨h1, h2, h3, h4, h5⟩ := h
  have : b.size + d.size = a.size := by rw [← h3, ByteArray.size_append]
  omega

/-- A pipe with both ends lies in block P. -/
def pipAt (w : World) (P : Nat) (d : ByteArray) : Prop := P < w.heap.size ∧ (w.cell? ⟨P, 0, none⟩ = some (.string d) ∧ w.cell? ⟨P, 1, none⟩ = some (.int .i64 1) ∧ w.cell? ⟨P, 2, none⟩ = some (.int .i64 1)) ∧
  (w.frozen? ⟨P, 0, none⟩ = false ∧ w.frozen? ⟨P, 1, none⟩ = false ∧ w.frozen? ⟨P, 2, none⟩ = false)
theorem pipAt.below {w w' : World} {P B : Nat} {d : ByteArray} (h : pipAt w P d) (hb : Below B w w') (hB : P < B) : pipAt w' P d := by
  obtain ⟨h0, ⟨h1, h2, h3⟩, h4, h5, h6⟩ := h
  exact ⟨Nat.lt_of_lt_of_le h0 hb.size, ⟨(hb.cell (p := ⟨P, 0, none⟩) hB).trans h1, (hb.cell (p := ⟨P, 1, none⟩) hB).trans h2, (hb.cell (p := ⟨P, 2, none⟩) hB).trans h3⟩,
    (hb.frozen (p := ⟨P, 0, none⟩) hB).trans h4, (hb.frozen (p := ⟨P, 1, none⟩) hB).trans h5, (hb.frozen (p := ⟨P, 2, none⟩) hB).trans h6⟩
theorem pipAt.alloc {w : World} {P : Nat} {d : ByteArray} (h : pipAt w P d) (o : Obj) : pipAt (w.alloc o) P d := h.below ((Below.refl _ _).alloc (Nat.le_refl _) o) h.1
theorem pipAt.set_ {w : World} {P : Nat} {d : ByteArray} (h : pipAt w P d) {p : Addr} (hp : p.block ≠ P) (u : Value) : pipAt (w.setCell p u) P d := by
  obtain ⟨h0, ⟨h1, h2, h3⟩, h4, h5, h6⟩ := h
  have hh := Below.heap_setCell w p u P (Ne.symm hp)
  refine ⟨by simpa [World.setCell] using h0, ⟨(World.cell?_of_block (a := ⟨P, 0, none⟩) hh).trans h1, (World.cell?_of_block (a := ⟨P, 1, none⟩) hh).trans h2, (World.cell?_of_block (a := ⟨P, 2, none⟩) hh).trans h3⟩,
    (World.frozen?_of_block (a := ⟨P, 0, none⟩) hh).trans h4, (World.frozen?_of_block (a := ⟨P, 1, none⟩) hh).trans h5, (World.frozen?_of_block (a := ⟨P, 2, none⟩) hh).trans h6⟩
theorem pipAt.store {w : World} {P : Nat} {d : ByteArray} (h : pipAt w P d) (d' : ByteArray) : pipAt (((w.setCell ⟨P, 0, none⟩ (.string d')).setCell ⟨P, 1, none⟩ (.int .i64 1)).setCell ⟨P, 2, none⟩ (.int .i64 1)) P d' := by
  obtain ⟨h0, ⟨h1, h2, h3⟩, h4, h5, h6⟩ := h
  have a0 := World.cell?_setCell_same w ⟨P, 0, none⟩ (.string d') h1
  have a1 : (w.setCell ⟨P, 0, none⟩ (.string d')).cell? ⟨P, 1, none⟩ = some (.int .i64 1) := (World.cell?_setCell_other w _ _ _ (by simp)).trans h2
  have a2 : (w.setCell ⟨P, 0, none⟩ (.string d')).cell? ⟨P, 2, none⟩ = some (.int .i64 1) := (World.cell?_setCell_other w _ _ _ (by simp)).trans h3
  have b0 := (World.cell?_setCell_other (w.setCell ⟨P, 0, none⟩ (.string d')) ⟨P, 1, none⟩ ⟨P, 0, none⟩ (.int .i64 1) (by simp)).trans a0
  have b1 := World.cell?_setCell_same (w.setCell ⟨P, 0, none⟩ (.string d')) ⟨P, 1, none⟩ (.int .i64 1) a1
  have b2 := (World.cell?_setCell_other (w.setCell ⟨P, 0, none⟩ (.string d')) ⟨P, 1, none⟩ ⟨P, 2, none⟩ (.int .i64 1) (by simp)).trans a2
  refine ⟨by simpa [World.setCell] using h0, ⟨(World.cell?_setCell_other _ _ _ _ (by simp)).trans b0, (World.cell?_setCell_other _ _ _ _ (by simp)).trans b1, World.cell?_setCell_same _ _ _ b2⟩, ?_, ?_, ?_⟩
  · go_simp
  · go_simp
  · go_simp

set_option maxRecDepth 100000 in
set_option maxHeartbeats 20000000 in
theorem order_at (b o cap : Nat) (L : List Act) (w : World) (hlt : b < w.heap.size) (h0 : 0 < L.length) (hnc : L.length ≤ cap) (hcm : cap ≤ maxLen) (hm : L.length ≤ 9223372036854775807)
    (hs : ∀ x ∈ L, x.2.2.size ≤ 140737488351232) (hcell : ∀ j u, (L.flatMap actC)[j]? = some u → w.cell? ⟨b, o + j, none⟩ = some u) :
    Calls Try.prog 5 #[.slice (some ⟨b, o, none⟩) L.length cap] w fun e w' => e = .returned (.bool true) ∧ Below w.heap.size w w' := by
  have HC := Lib.hid hcell
  have HS := Lib.hid hs
  have HL := Lib.hid hlt
  clear hcell hs
  generalize hN : L.length = N at *
  have HN := Lib.hid hN
  clear hN
  go_enter Try.func5, Try.ntmps5
  go_wp2_with fail
  refine (shown_any _).mono ?_
  rintro e w1 ⟨rfl, hb1⟩
  obtain ⟨hc1, hf1⟩ := bcell hb1
  have s1 := hb1.size
  try simp at s1
  try have hd1 := fun b o (h : b < w.heap.size) => hc1 b o (by first | omega | (simp; omega) | simp)
  try have he1 := fun b o (h : b < w.heap.size) => hf1 b o (by first | omega | (simp; omega) | simp)
  try have z1_0 : w.heap.size < w1.heap.size := by omega
  try have z1_1 : w.heap.size + 1 < w1.heap.size := by omega
  try have z1_2 : w.heap.size + 1 + 1 < w1.heap.size := by omega
  try have z1_3 : w.heap.size + 1 + 1 + 1 < w1.heap.size := by omega
  have HB1 := Lib.hid hb1
  clear hb1 hc1 hf1 hd1 he1
  go_wp2
  go_loopw [5, 6, 7] (fun vi vo vk wr => ∃ (k : Nat) (x y d : ByteArray), vk = .int .i64 k ∧ vi = .string x ∧ vo = .string y ∧ Hid (ordInv N k x y d) ∧ Hid (Below w.heap.size w wr) ∧ Hid (pipAt wr w1.heap.size d)) (fun _ _ vk _ => N - (intOf vk).toNat)
  case atStart =>
    refine ⟨0, ⟨#[]⟩, ⟨#[]⟩, ⟨#[]⟩, rfl, rfl, rfl, ⟨by omega, by omega, by decide, by decide, by decide⟩, HB1.out.alloc HB1.out.size _, ?_, ⟨?_, ?_, ?_⟩, ?_, ?_, ?_⟩
    · show w1.heap.size < (w1.alloc _).heap.size
      simp
    all_goals first | (rw [new_cell _ _ _ _ _ rfl]; rfl) | (exact new_free _ _ _ _ _ rfl)
  case round =>
    obtain ⟨k, x, y, d, rfl, rfl, rfl, HI, HB, HP⟩ := hrel
    obtain ⟨HPw, ⟨p0, p1, p2⟩, f0, f1, f2⟩ := HP.out
    have hsz := ord_sizes HI.out
    by_cases hlt : k < N
    · have hd : decide ((k : Int) < (N : Int)) = true := by simpa using hlt
      by_cases hlt3 : k < 300
      · have hd3 : decide ((k : Int) < 300) = true := by simp; omega
        have g1 : (0 : Int) ≤ (k : Int) := by omega
        have g2 : (k : Int) < (N : Int) := by omega
        have g3 : (k : Int) ≤ 300 := by omega
        obtain ⟨⟨r, n, s⟩, hx⟩ : ∃ z, L[k]? = some z := ⟨_, List.getElem?_eq_getElem (by rw [HN.out]; exact hlt)⟩
        obtain ⟨c0, c1, c2⟩ := act_cells HC.out k _ hx
        have d0 : wr.cell? ⟨b, o + k * 3, none⟩ = some (.bool r) := (HB.out.cell HL.out).trans c0
        have d1 : wr.cell? ⟨b, o + k * 3 + 1, none⟩ = some (.int .i64 n) := (HB.out.cell HL.out).trans c1
        have d2 : wr.cell? ⟨b, o + k * 3 + 2, none⟩ = some (.string s) := (HB.out.cell HL.out).trans c2
        have hbs := HS.out _ (List.mem_of_getElem? hx)
        simp only at hbs
        have hbw0 : b < wr.heap.size := Nat.lt_of_lt_of_le HL.out HB.out.size
        have HPx : w1.heap.size < wr.heap.size + 1 := by omega
        have n0 : ¬ wr.heap.size = w1.heap.size := by omega
        have n1 : ¬ w1.heap.size = wr.heap.size := by omega
        have n2 : ¬ wr.heap.size = b := by omega
        have n3 : ¬ b = wr.heap.size := by omega
        have HT := Lib.hid hlt3
        have HLT := Lib.hid hlt
        clear c0 c1 c2 hx
        cases r with
        | true =>
          by_cases he : rE d 1 n = 0
          · have HE := Lib.hid he
            have H2 : Hid (∀ W, Calls Try.prog 14 #[pipV d 1 1, .int .i64 n] W fun e w' => e = .returned (.tuple #[pipV (rD d n) 1 1, .string (rS d n), .int .i64 0]) ∧ Below W.heap.size W w') := fun W => he ▸ read_any d 1 1 n W (by omega)
            have hrs := rS_size d n
            have ha := fun W => run_string_add_sum (P := Try.prog) W y (rS d n) (by omega)
            clear he hbs hm hrs hsz hlt3
            go_wp2_with fail
            go_region_with ((go_at_call 14; refine (H2.out _).mono ?_; rintro e w2 ⟨rfl, hb2⟩; obtain ⟨hc2, hf2⟩ := bcell hb2; have s2 := hb2.size; simp at s2; have z2 : w1.heap.size < w2.heap.size := (by omega); have z3 : wr.heap.size ≤ w2.heap.size := (by omega); have hbw : Below wr.heap.size wr w2 := (by first | exact Below.trans (Below.drew (Below.refl _ _)) hb2 | exact Below.trans (Below.alloc (Below.drew (Below.refl _ _)) (Nat.le_refl _) _) (hb2.mono (by simp))); have HP2 := Lib.hid (HP.out.below hbw HPw); obtain ⟨y0, ⟨e0, e1, e2⟩, j0, j1, j2⟩ := HP2.out; have e3 := (hbw.cell (p := ⟨b, o + k * 3 + 2, none⟩) hbw0).trans d2))
            all_goals
              go_wp2
              have HBw : Below w.heap.size w w2 := Below.trans HB.out (hbw.mono HB.out.size)
              refine ⟨⟨k + 1, x, y ++ rS d n, rD d n, ?_, rfl, rfl, ord_read HI.out HLT.out HT.out HE.out, ?_, ?_⟩, ?_⟩
              · push_cast
                rfl
              · refine Lib.hid ?_
                exact (by (repeat (first | with_reducible exact HBw | with_reducible refine Below.alloc ?_ ?_ _ | with_reducible refine Below.setCell ?_ ?_ _ | with_reducible refine Below.drew ?_)); all_goals first | assumption | omega | (simp; omega))
              · refine Lib.hid ?_
                repeat (first | with_reducible exact HP2.out | with_reducible refine pipAt.store (d := d) ?_ _ | with_reducible refine pipAt.alloc ?_ _ | with_reducible refine pipAt.set_ ?_ ?_ _)
                all_goals first | assumption | omega | (simp; omega)
              · simp only [intOf]
                omega
          · obtain ⟨E, hE⟩ : ∃ E, E = rE d 1 n := ⟨_, rfl⟩
            have hE2 : (E == 0) = false := by rw [hE]; simpa using he
            have H2 : Hid (∀ W, Calls Try.prog 14 #[pipV d 1 1, .int .i64 n] W fun e w' => e = .returned (.tuple #[pipV d 1 1, .string ⟨#[]⟩, .int .i64 E]) ∧ Below W.heap.size W w') := fun W => by
              have h := read_any d 1 1 n W (by omega)
              rw [(rD_same he).1, (rD_same he).2, ← hE] at h
              exact h
            clear he hE hbs hm hsz hlt3
            go_wp2_with fail
            go_region_with ((go_at_call 14; refine (H2.out _).mono ?_; rintro e w2 ⟨rfl, hb2⟩; obtain ⟨hc2, hf2⟩ := bcell hb2; have s2 := hb2.size; simp at s2; have z2 : w1.heap.size < w2.heap.size := (by omega); have z3 : wr.heap.size ≤ w2.heap.size := (by omega); have hbw : Below wr.heap.size wr w2 := (by first | exact Below.trans (Below.drew (Below.refl _ _)) hb2 | exact Below.trans (Below.alloc (Below.drew (Below.refl _ _)) (Nat.le_refl _) _) (hb2.mono (by simp))); have HP2 := Lib.hid (HP.out.below hbw HPw); obtain ⟨y0, ⟨e0, e1, e2⟩, j0, j1, j2⟩ := HP2.out; have e3 := (hbw.cell (p := ⟨b, o + k * 3 + 2, none⟩) hbw0).trans d2))
            all_goals
              go_wp2
              have HBw : Below w.heap.size w w2 := Below.trans HB.out (hbw.mono HB.out.size)
              refine ⟨⟨k + 1, x, y, d, ?_, rfl, rfl, ord_stay HI.out HLT.out HT.out, ?_, ?_⟩, ?_⟩
              · push_cast
                rfl
              · refine Lib.hid ?_
                exact (by (repeat (first | with_reducible exact HBw | with_reducible refine Below.alloc ?_ ?_ _ | with_reducible refine Below.setCell ?_ ?_ _ | with_reducible refine Below.drew ?_)); all_goals first | assumption | omega | (simp; omega))
              · refine Lib.hid ?_
                repeat (first | with_reducible exact HP2.out | with_reducible refine pipAt.store (d := d) ?_ _ | with_reducible refine pipAt.alloc ?_ _ | with_reducible refine pipAt.set_ ?_ ?_ _)
                all_goals first | assumption | omega | (simp; omega)
              · simp only [intOf]
                omega
        | false =>
          obtain ⟨K, hK⟩ : ∃ K, K = wK d s 1 := ⟨_, rfl⟩
          obtain ⟨D, hD⟩ : ∃ D, D = wD d s 1 := ⟨_, rfl⟩
          obtain ⟨E, hE⟩ : ∃ E, E = wE d s 1 := ⟨_, rfl⟩
          have hE2 : E = 0 ∨ ((E != 0) = true ∧ K = 0) := by
            by_cases h : wE d s 1 = 0
            · exact .inl (hE.trans h)
            · exact .inr ⟨by rw [hE]; simpa using h, by rw [hK]; exact (wD_same h).2⟩
          have H1 : Hid (∀ W, Calls Try.prog 12 #[pipV d 1 1, .string s] W fun e w' => e = .returned (.tuple #[pipV D 1 1, .int .i64 K, .int .i64 E]) ∧ Below W.heap.size W w') := fun W => by
            rw [hK, hD, hE]
            exact write_any d s 1 1 W
          have HI2 : Hid (ordInv N (k + 1) (x ++ s.extract 0 K) y D) := by
            rw [hK, hD]
            exact ord_write HI.out hlt hlt3
          have hD8 := (ord_sizes HI2.out).2.2
          have HR : Hid (∀ W, Calls Try.prog 16 #[pipV D 1 1] W fun e w' => e = .returned (.bool true) ∧ Below W.heap.size W w') := fun W => by
            have h := right_any D 1 1 W (by omega)
            rwa [show rightB D 1 1 = true by simp [rightB, hD8]] at h
          have hKs : K ≤ s.size := by rw [hK]; exact (wK_le d s 1).1
          have hK8 : K ≤ 8 := by rw [hK]; exact (wK_le d s 1).2
          have g4 : decide ((s.size : Int) < (K : Int)) = false := by simpa using hKs
          have g5 : decide ((K : Int) < 0) = false := by simp
          have g6 : (0 : Int) ≤ (K : Int) := by omega
          have g7 : (K : Int) ≤ (s.size : Int) := by omega
          have ha := fun W => run_string_add_sum (P := Try.prog) W x (s.extract 0 K) (by rw [ByteArray.size_extract]; omega)
          clear hK hD hE hm hsz hlt3 hD8
          have g8 : E = 0 ∨ ((E != 0) = true ∧ ((K : Int) != 0) = false) := hE2.imp id (fun h => ⟨h.1, by simp [h.2]⟩)
          rcases g8 with rfl | ⟨h8, h9⟩
          all_goals
            go_wp2_with fail
            go_region_with ((go_at_call 12; refine (H1.out _).mono ?_; rintro e w2 ⟨rfl, hb2⟩; obtain ⟨hc2, hf2⟩ := bcell hb2; have s2 := hb2.size; simp at s2; have z2 : w1.heap.size < w2.heap.size := (by omega); have z3 : wr.heap.size ≤ w2.heap.size := (by omega); have hbw : Below wr.heap.size wr w2 := (by first | exact Below.trans (Below.drew (Below.refl _ _)) hb2 | exact Below.trans (Below.alloc (Below.drew (Below.refl _ _)) (Nat.le_refl _) _) (hb2.mono (by simp))); have HP2 := Lib.hid (HP.out.below hbw HPw); obtain ⟨y0, ⟨e0, e1, e2⟩, j0, j1, j2⟩ := HP2.out; have e3 := (hbw.cell (p := ⟨b, o + k * 3 + 2, none⟩) hbw0).trans d2; have zb : b < w2.heap.size := (by omega); have zn : ¬ w2.heap.size = b := (by omega); have zm : ¬ b = w2.heap.size := (by omega)))
            all_goals
              go_wp2_with fail
              refine (HR.out _).mono ?_
              rintro e w3 ⟨rfl, hb3⟩
              have HP3 : Hid (pipAt w3 w1.heap.size D) := Lib.hid (pipAt.below (d := D) (by (repeat (first | with_reducible exact HP2.out | with_reducible refine pipAt.store (d := d) ?_ _ | with_reducible refine pipAt.alloc ?_ _ | with_reducible refine pipAt.set_ ?_ ?_ _)); all_goals first | assumption | omega | (simp; omega)) hb3 (by simp; omega))
              go_wp2
              have HBw : Below w.heap.size w w2 := Below.trans HB.out (hbw.mono HB.out.size)
              have HB3 : Below w.heap.size w w3 := by
                refine Below.trans ?_ (hb3.mono (by simp; omega))
                exact (by (repeat (first | with_reducible exact HBw | with_reducible refine Below.alloc ?_ ?_ _ | with_reducible refine Below.setCell ?_ ?_ _ | with_reducible refine Below.drew ?_)); all_goals first | assumption | omega | (simp; omega))
              refine ⟨⟨k + 1, x ++ s.extract 0 K, y, D, ?_, rfl, rfl, HI2, HB3, HP3⟩, ?_⟩
              · push_cast
                rfl
              · simp only [intOf]
                omega
      · have hd3 : decide ((k : Int) < 300) = false := by simp; omega
        have hxy : y ++ d = x := HI.out.2.2.1
        have ha := fun W => run_string_add_sum (P := Try.prog) W y d (by omega)
        go_wp2_with fail
        go_ret
        exact ⟨rfl, HB.out⟩
    · have hd : decide ((k : Int) < (N : Int)) = false := by simp; omega
      have hxy : y ++ d = x := HI.out.2.2.1
      have ha := fun W => run_string_add_sum (P := Try.prog) W y d (by omega)
      go_wp2_with fail
      go_ret
      exact ⟨rfl, HB.out⟩
end Go.Proofs.Ytlhjlomfpgmdmaa
