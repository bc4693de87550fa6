/- Back of Bytes is the program again; append of a program's elements. -/
import Derived.Test.YtnpgfjkenjldlaaDoorIsaK
import Derived.Test.YtnpgfjkenjldlaaDoorIsaL2
import Derived.Laws.AppendOwnNone
namespace Go.Proofs.YtnpgfjkenjldlaaDoor
open Go.RowKit
set_option linter.unusedVariables false

theorem bytU_append (A B : List I4) : bytU (A ++ B) = bytU A ++ bytU B := by
  induction A with
  | nil => rfl
  | cons x A ih => simp only [List.cons_append, bytU, ih, List.append_assoc]
def lB (l : List UInt8) (k : Nat) : Int := ((l.getD k 0).toNat : Int)
def wI (x : I4) : Int := wordN x.1 x.2.1 x.2.2.1 x.2.2.2
theorem lB_app (l m : List UInt8) (k : Nat) (h : l.length ≤ k) : lB (l ++ m) k = lB m (k - l.length) := by
  unfold lB
  rw [List.getD_eq_getElem?_getD, List.getD_eq_getElem?_getD, List.getElem?_append_right h]
theorem byU_len (n : Int) : (byU n).length = 4 := rfl
theorem bytU_word : ∀ (L : List I4) (k : Nat) (x : I4), L[k]? = some x → (∀ y ∈ L, okI y = true) → lB (bytU L) (4 * k) + 256 * lB (bytU L) (4 * k + 1) + 65536 * lB (bytU L) (4 * k + 2) + 16777216 * lB (bytU L) (4 * k + 3) = wI x
  | [], k, x, h, _ => by simp at h
  | y :: L, 0, x, h, hok => by
    simp at h
    subst h
    have hw := word_lt (show rMay y.1 y.2.1 y.2.2.1 y.2.2.2 = true from hok y (by simp))
    have e0 : lB (bytU (y :: L)) (4 * 0) = ((byteI (wI y)).toNat : Int) := rfl
    have e1 : lB (bytU (y :: L)) (4 * 0 + 1) = ((byteI (wI y / 256)).toNat : Int) := rfl
    have e2 : lB (bytU (y :: L)) (4 * 0 + 2) = ((byteI (wI y / 65536)).toNat : Int) := rfl
    have e3 : lB (bytU (y :: L)) (4 * 0 + 3) = ((byteI (wI y / 16777216)).toNat : Int) := rfl
    rw [e0, e1, e2, e3, byteI_toNat, byteI_toNat, byteI_toNat, byteI_toNat]
    unfold wI
    omega
  | y :: L, k + 1, x, h, hok => by
    have ih := bytU_word L k x (by simpa using h) (fun z hz => hok z (by simp [hz]))
    have e : ∀ j, lB (bytU (y :: L)) (4 * (k + 1) + j) = lB (bytU L) (4 * k + j) := fun j => by
      show lB (byU _ ++ bytU L) _ = _
      rw [lB_app _ _ _ (by rw [byU_len]; omega), byU_len]
      congr 1
      omega
    have e0 := e 0
    rw [Nat.add_zero, Nat.add_zero] at e0
    rw [e0, e 1, e 2, e 3]
    exact ih
theorem wV_bytes (L : List I4) (k : Nat) (x : I4) (h : L[k]? = some x) (hok : ∀ y ∈ L, okI y = true) : wV ⟨(bytU L).toArray⟩ (4 * k) = wI x := bytU_word L k x h hok
theorem backT_bytes (L : List I4) (hok : ∀ y ∈ L, okI y = true) : ∀ n, n ≤ L.length → backT ⟨(bytU L).toArray⟩ n = L.take n
  | 0, _ => rfl
  | n + 1, h => by
    have hx : L[n]? = some L[n] := List.getElem?_eq_getElem (by omega)
    have hm := hok L[n] (List.getElem_mem (by omega))
    obtain ⟨t0, t1, t2, t3⟩ := take_word (show rMay L[n].1 L[n].2.1 L[n].2.2.1 L[n].2.2.2 = true from hm)
    rw [backT, backT_bytes L hok n (by omega), List.take_add_one, hx, wV_bytes L n _ hx hok]
    unfold wI
    rw [t0, t1, t2, t3]
    rfl
theorem backOf (L : List I4) (hok : allOk L = true) (hl : L.length ≤ 1048576) (w : World) (hT : UsesAt w) :
    Calls Tryd.prog 20 #[.string (bytS L)] w fun e w' => (∃ v, e = .returned (.tuple #[v, .int .i64 0]) ∧ progAt w' v L) ∧ Below w.heap.size w w' := by
  have hok' : ∀ y ∈ L, okI y = true := List.all_eq_true.1 hok
  have hsz : (⟨(bytU L).toArray⟩ : ByteArray).size = 4 * L.length := by rw [Lib.size_eq]; exact bytU_len L
  have hb : bytS L = ⟨(bytU L).toArray⟩ := by unfold bytS; rw [hok]; rfl
  rw [hb]
  refine (back_ok ⟨(bytU L).toArray⟩ L.length w hT (by omega) hsz (fun k hk => ?_)).mono ?_
  · have hx : L[k]? = some L[k] := List.getElem?_eq_getElem hk
    rw [wV_bytes L k _ hx hok']
    exact tMay_word (hok' L[k] (List.getElem_mem hk))
  · rintro e w' ⟨⟨v, rfl, ho⟩, hb⟩
    refine ⟨⟨v, rfl, progAt_of_owns (base := w.heap.size) (n := L.length) rfl ?_⟩, hb⟩
    rw [backC_flat, backT_bytes L hok' _ (Nat.le_refl _), List.take_length] at ho
    exact ho
theorem allOk_append (A B : List I4) : allOk (A ++ B) = (allOk A && allOk B) := by simp [allOk]
theorem bytS_append (A B : List I4) (hA : allOk A = true) (hB : allOk B = true) : bytS (A ++ B) = bytS A ++ bytS B := by
  unfold bytS
  rw [allOk_append, hA, hB]
  simp only [Bool.and_self, if_true, bytU_append]
  apply ByteArray.ext
  simp
theorem bytS_size (A : List I4) (hA : allOk A = true) : (bytS A).size = 4 * A.length := by
  unfold bytS
  rw [hA]
  rw [Lib.size_eq]
  exact bytU_len A

/-- A program's cells by their number. -/
theorem insAt_cons {w : World} {b o : Nat} {x : I4} {L : List I4} (h : insAt w b o (x :: L)) : insAt w b (o + 4) L := fun k y hy => by
  have := h (k + 1) y (by simpa using hy)
  rw [show o + (k + 1) * 4 = o + 4 + k * 4 by omega] at this
  exact this
theorem insAt_flat {w : World} {b : Nat} : ∀ (L : List I4) (o : Nat), insAt w b o L → ∀ (j : Nat) (u : Value), (flatI L)[j]? = some u → w.cell? ⟨b, o + j, none⟩ = some u
  | [], o, h, j, u, hu => by simp [flatI] at hu
  | x :: L, o, h, j, u, hu => by
    obtain ⟨c0, c1, c2, c3⟩ := h 0 x rfl
    rw [show o + 0 * 4 = o by omega] at c0 c1 c2 c3
    match j, hu with
    | 0, hu => simp [flatI] at hu; subst hu; exact c0
    | 1, hu => simp [flatI] at hu; subst hu; exact c1
    | 2, hu => simp [flatI] at hu; subst hu; exact c2
    | 3, hu => simp [flatI] at hu; subst hu; exact c3
    | j + 4, hu =>
      have := insAt_flat L (o + 4) (insAt_cons h) j u (by simpa [flatI] using hu)
      rw [show o + 4 + j = o + (j + 4) by omega] at this
      exact this
theorem flatI_len (L : List I4) : (flatI L).length = L.length * 4 := by
  induction L with
  | nil => rfl
  | cons x L ih => simp [flatI, ih]; omega
theorem flatI_one (L : List I4) : ∀ u ∈ flatI L, u.oneCell' = true := by
  induction L with
  | nil => intro u hu; cases hu
  | cons x L ih =>
    intro u hu
    simp only [flatI, List.mem_append, List.mem_cons, List.not_mem_nil, or_false] at hu
    rcases hu with (rfl | rfl | rfl | rfl) | hu
    · rfl
    · rfl
    · rfl
    · rfl
    · exact ih u hu

def progArg (w : World) (v : Value) (L : List I4) : Prop :=
  (v = .slice none 0 0 ∧ L = []) ∨ ∃ ad cap, v = .slice (some ad) L.length cap ∧ (L = [] ∨ ad.block < w.heap.size) ∧ ∀ (j : Nat) (u : Value), (flatI L)[j]? = some u → w.cell? (ad.add j) = some u
theorem progArg.below {w w' : World} {v : Value} {L : List I4} (h : progArg w v L) (hw : Below w.heap.size w w') : progArg w' v L := by
  rcases h with h | ⟨ad, cap, hv, hb, hc⟩
  · exact .inl h
  · refine .inr ⟨ad, cap, hv, ?_, fun j u hu => ?_⟩
    · rcases hb with hb | hb
      · exact .inl hb
      · exact .inr (Nat.lt_of_lt_of_le hb hw.size)
    · rcases hb with rfl | hb
      · simp [flatI] at hu
      · have hbl : (ad.add j).block < w.heap.size := by
          have : (ad.add j).block = ad.block := by unfold Addr.add; split <;> rfl
          omega
        exact (hw.cell hbl).trans (hc j u hu)

/-- 'append' of a program's elements onto a row that the call owns. -/
theorem wpList_append_prog {w : World} {ops : Array Oper} {rest : List Oper} {o : Oper} {a : Act} {Q : Exit → Act → World → Prop} (hgd : o.guard = none) (s x : Operand)
    (ho : o.op = .call { callee := .builtin .append, args := #[s, x], argTypes := #[37, 37] }) (base : Nat)
    (v : Value) (n : Nat) (xs : List Value) (hs : a.eval s = v) (hown : w.ownsRow base 23 4 v n xs) (vx : Value) (L : List I4) (hx : a.eval x = vx) (hp : progArg w vx L)
    (hn : n + L.length ≤ 2097152) (hbase : base ≤ w.heap.size)
    (h : ∀ v' w', w'.ownsRow base 23 4 v' (n + L.length) (xs ++ flatI L) → w.grownBy w' v.ownBlock → wpList Tryd.prog ops Q rest (a.put o.dst v') w') : wpList Tryd.prog ops Q (o :: rest) a w := by
  obtain ⟨i0, hi, hzz⟩ := Option.map_eq_some_iff.1 infoIns
  simp only [Prod.mk.injEq] at hzz
  obtain ⟨hz0, hz1, hz2⟩ := hzz
  rcases hp with ⟨rfl, rfl⟩ | ⟨ad, cap, rfl, _, hc⟩
  · refine wpList_append_own_none hgd s x _ ho base 23 i0 4 Tryd.underlying37 hi v n xs hs hown hx ?_
    have := h v w (by simpa [flatI] using hown) ⟨rfl, rfl, rfl, Nat.le_refl _, fun _ _ _ => rfl⟩
    exact this
  · refine wpList_append_own w hgd s x _ ho base 23 i0 _ 4 32 Tryd.underlying37 hi hz0 hz1 hz2 rfl (by decide) v n xs hs hown ad L.length cap (flatI L) hx (flatI_len L) hc (flatI_one L) (by unfold maxLen; omega) (by omega) hbase ?_
    exact fun v' w' h1 h2 _ => h v' w' h1 h2
end Go.Proofs.YtnpgfjkenjldlaaDoor
