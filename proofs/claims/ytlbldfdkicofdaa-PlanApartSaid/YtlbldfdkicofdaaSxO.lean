/- The walk's rule. -/
import Derived.Test.YtlbldfdkicofdaaSxN
namespace Go.Sx
open Go.RowKit
set_option linter.unusedVariables false
set_option linter.unusedSimpArgs false
set_option linter.unusedSectionVars false
section
variable {P : Program} {W : Base} {T : Tab} {s : St} {B0 : List (Option (List At))} {R0 : List (Option Row)} {os : List Oper}

theorem freeB_get {k : Nat} : ∀ {l : List Rec} {q : Nat} {r : Rec} {c : List At}, freeB k l = true → l[q]? = some r → r.box = some c → r.nb ≠ k
  | [], q, r, c, _, h, _ => by simp at h
  | x :: l, 0, r, c, h, hq, hc => by
    simp at hq; subst hq
    simp only [freeB, hc, Bool.and_eq_true, Bool.not_eq_true'] at h
    exact fun e => by have := h.1; rw [e] at this; simp [Nat.beq_refl] at this
  | x :: l, q + 1, r, c, h, hq, hc => by
    simp only [freeB, Bool.and_eq_true] at h
    exact freeB_get h.2 (by simpa using hq) hc
theorem freeK_get {k : Nat} : ∀ {l : List Rec}, freeK k l = true → ∀ (q : Nat) (r : Rec), l[q]? = some r → r.kill ≠ some k
  | [], h, q, r, hq => by simp at hq
  | x :: l, h, q, r, hq => by
    simp only [freeK, Bool.and_eq_true] at h
    cases q with
    | zero =>
      simp at hq; subst hq
      intro e
      have := h.1
      rw [e] at this
      simp [Nat.beq_refl] at this
    | succ q => exact freeK_get h.2 q r (by simpa using hq)
theorem maker_get {q : Nat} : ∀ {l : List Rec} {j p : Nat}, maker q l j = some p → ∃ (x : Nat) (r : Rec), l[x]? = some r ∧ p = j + x ∧ r.nr ≤ q ∧ q < r.nr + r.rows.length
  | [], j, p, h => by cases h
  | r :: l, j, p, h => by
    simp only [maker] at h
    split at h
    · rename_i hc
      injection h with h; subst h
      simp only [Bool.and_eq_true, Nat.ble_eq] at hc
      exact ⟨0, r, rfl, rfl, hc.1, by have := hc.2; simp [Nat.blt] at this; omega⟩
    · obtain ⟨x, r', h1, h2, h3⟩ := maker_get h
      exact ⟨x + 1, r', by simpa using h1, by omega, h3⟩
theorem usersOk_get {p : Nat} {anc : List Bool} : ∀ {l : List Rec} {j : Nat}, usersOk p anc l j = true → ∀ (x : Nat) (r : Rec), l[x]? = some r → bit r.anc p = true → bit anc (j + x) = true
  | [], j, h, x, r, hx, _ => by simp at hx
  | y :: l, j, h, x, r, hx, hb => by
    simp only [usersOk, Bool.and_eq_true] at h
    cases x with
    | zero =>
      simp at hx; subst hx
      have := h.1
      rw [hb] at this; simpa using this
    | succ x =>
      have := usersOk_get h.2 x r (by simpa using hx) hb
      rwa [show j + (x + 1) = j + 1 + x by omega]
theorem giveOk_get {n q : Nat} {anc : List Bool} {recs : List Rec} (h : giveOk n q anc recs = true) : n ≤ q ∧ (∀ (x : Nat) (r : Rec), recs[x]? = some r → r.kill ≠ some q) ∧ ∃ (p : Nat) (rp : Rec), recs[p]? = some rp ∧ bit anc p = true ∧ rp.nr ≤ q ∧ q < rp.nr + rp.rows.length ∧ ∀ (x : Nat) rx, recs[x]? = some rx → bit rx.anc p = true → bit anc x = true := by
  simp only [giveOk, Bool.and_eq_true, Nat.ble_eq] at h
  obtain ⟨h1, h2, h3⟩ := h
  refine ⟨h1, freeK_get h2, ?_⟩
  split at h3
  · rename_i p hp
    simp only [Bool.and_eq_true] at h3
    obtain ⟨x, r, g1, g2, g3, g4⟩ := maker_get hp
    rw [Nat.zero_add] at g2; subst g2
    exact ⟨p, r, g1, h3.1, g3, g4, fun x rx hx hb => by have := usersOk_get h3.2 x rx hx hb; rwa [Nat.zero_add] at this⟩
  · cases h3
theorem makerB_get {k : Nat} : ∀ {l : List Rec} {j p : Nat}, makerB k l j = some p → ∃ (x : Nat) (r : Rec) (c : List At), l[x]? = some r ∧ p = j + x ∧ r.box = some c ∧ r.nb = k ∧ ∀ (y : Nat) ry cy, y ≠ x → l[y]? = some ry → ry.box = some cy → ry.nb ≠ k
  | [], j, p, h => by cases h
  | r :: l, j, p, h => by
    have step : makerB k l (j + 1) = some p → (∀ c, r.box = some c → r.nb ≠ k) → ∃ (x : Nat) (r' : Rec) (c : List At), (r :: l)[x]? = some r' ∧ p = j + x ∧ r'.box = some c ∧ r'.nb = k ∧ ∀ (y : Nat) ry cy, y ≠ x → (r :: l)[y]? = some ry → ry.box = some cy → ry.nb ≠ k := fun h hne => by
      obtain ⟨x, r', c, h1, h2, h3, h4, h5⟩ := makerB_get h
      refine ⟨x + 1, r', c, by simpa using h1, by omega, h3, h4, fun y ry cy hy hry hcy => ?_⟩
      cases y with
      | zero => simp at hry; subst hry; exact hne cy hcy
      | succ y => exact h5 y ry cy (by omega) (by simpa using hry) hcy
    simp only [makerB] at h
    split at h
    · rename_i c hc
      split at h
      · rename_i he
        have he := Nat.eq_of_beq_eq_true he
        split at h
        · rename_i hf
          injection h with h; subst h
          refine ⟨0, r, c, rfl, rfl, hc, he, fun y ry cy hy hry hcy => ?_⟩
          cases y with
          | zero => exact absurd rfl hy
          | succ y => exact freeB_get hf (by simpa using hry) hcy
        · cases h
      · rename_i he
        exact step h fun c' hc' e => by rw [e] at he; simp [Nat.beq_refl] at he
    · rename_i hc
      exact step h fun c' hc' => by rw [hc] at hc'; cases hc'
theorem putOk_get {n k : Nat} {anc : List Bool} {recs : List Rec} (h : putOk n k anc recs = true) : n ≤ k ∧ ∃ (p : Nat) (rp : Rec) (c : List At), recs[p]? = some rp ∧ rp.box = some c ∧ rp.nb = k ∧ bit anc p = true ∧ (∀ (x : Nat) rx c, x ≠ p → recs[x]? = some rx → rx.box = some c → rx.nb ≠ k) ∧ ∀ (x : Nat) rx, recs[x]? = some rx → bit rx.anc p = true → bit anc x = true := by
  simp only [putOk, Bool.and_eq_true, Nat.ble_eq] at h
  obtain ⟨h1, h3⟩ := h
  refine ⟨h1, ?_⟩
  split at h3
  · rename_i p hp
    simp only [Bool.and_eq_true] at h3
    obtain ⟨x, r, c, g1, g2, g3, g4, g5⟩ := makerB_get hp
    rw [Nat.zero_add] at g2; subst g2
    exact ⟨p, r, c, g1, g3, g4, h3.1, g5, fun x rx hx hb => by have := usersOk_get h3.2 x rx hx hb; rwa [Nat.zero_add] at this⟩
  · cases h3
theorem drw_sound {stopP : Prop} {acc0 : List Prop} {K : List Rec → List Bool → List Hd → List Prop → Prop} : ∀ (rest : List Oper) (recs : List Rec) (i nb nr : Nat) (orc : List Bool) (hs : List Hd) (acc : List Prop),
    (conj acc → Chain P W T s B0 R0 os recs nb nr ∧ conj acc0) → i = recs.length → i ≤ os.length → (∀ j : Nat, rest[j]? = os[i + j]?) → drw P W T s B0 R0 os stopP rest recs i nb nr orc hs acc K →
    stopP ∨ ∃ recs' nb' nr' orc' hs' acc', K recs' orc' hs' acc' ∧ (conj acc' → Chain P W T s B0 R0 os recs' nb' nr' ∧ conj acc0) ∧ recs'.length ≤ os.length ∧ (∀ o, os[recs'.length]? = some o → allBits (ancOf recs' o.after.toList) recs'.length = true) ∧ (∀ (i : Nat) o, recs'.length < i → os[i]? = some o → ∃ e ∈ o.after.toList, Region.binds .any e = true ∧ e.on + 1 = i) := by
  intro rest
  induction rest with
  | nil =>
    intro recs i nb nr orc hs acc hC hi hle hrest h
    have h0 := hrest 0
    simp only [List.getElem?_nil, Nat.add_zero] at h0
    have h1 : os.length ≤ i := List.getElem?_eq_none_iff.1 h0.symm
    refine .inr ⟨recs, nb, nr, orc, hs, acc, h, hC, by omega, fun o ho => ?_, fun q o hq ho => ?_⟩
    · have := (List.getElem?_eq_some_iff.1 ho).1; omega
    · have := (List.getElem?_eq_some_iff.1 ho).1; omega
  | cons o rest ih =>
    intro recs i nb nr orc hs acc hC hi hle hrest h
    have ho : os[recs.length]? = some o := by have := hrest 0; simp only [List.getElem?_cons_zero, Nat.add_zero] at this; rw [← hi]; exact this.symm
    have hrest' : ∀ j : Nat, rest[j]? = os[i + 1 + j]? := fun j => by have := hrest (j + 1); simp only [List.getElem?_cons_succ] at this; rw [this]; congr 1; omega
    have hlen : ∀ r : Rec, i + 1 = (recs ++ [r]).length := fun r => by simp [hi]
    have hle' : i + 1 ≤ os.length := by have := (List.getElem?_eq_some_iff.1 ho).1; omega
    simp only [drw] at h
    rw [fBools_eq] at h
    split at h
    · exact .inl h
    · rename_i hdst
      have base : ∀ (r : Rec), r.dst = o.dst → r.anc = ancOf recs o.after.toList → r.reads = readsOf os o → (r.nb = nb ∨ BoxAt s B0 recs r) → r.nr = nr → Chain P W T s B0 R0 os recs nb nr → Kind P W T s B0 R0 os recs o r → (r.kill = none ∨ KillAt s R0 recs r) → RecOk P W T s B0 R0 os recs o r := by
        intro r h1 h2 h3 h4 h5 hc hk hkl
        refine ⟨h1, h2, h3, by rw [h2]; exact hdst, h4.elim (fun h4 => .inl ⟨by rw [h4]; exact hc.nb.1, fun q r' c hq hb => by rw [h4]; exact hc.nb.2 q r' c hq hb⟩) id, ⟨by rw [h5]; exact hc.nr.1, fun q r' hq => by rw [h5]; exact hc.nr.2 q r' hq⟩, hk, hkl.elim (fun e q hq => by rw [e] at hq; cases hq) id⟩
      have tailed : (allBits (ancOf recs o.after.toList) i && tailOk rest (i + 1)) = true → recs.length ≤ os.length ∧ (∀ o, os[recs.length]? = some o → allBits (ancOf recs o.after.toList) recs.length = true) ∧ (∀ (q : Nat) o, recs.length < q → os[q]? = some o → ∃ e ∈ o.after.toList, Region.binds .any e = true ∧ e.on + 1 = q) := by
        intro hall
        simp only [Bool.and_eq_true] at hall
        refine ⟨by omega, fun o' ho' => ?_, fun q o' hq ho' => ?_⟩
        · rw [ho] at ho'; injection ho' with ho'; subst ho'
          rw [← hi]; exact hall.1
        · have h1 := hrest' (q - (i + 1))
          rw [show i + 1 + (q - (i + 1)) = q by omega, ho'] at h1
          obtain ⟨e, g1, g2, g3⟩ := tailOk_get hall.2 h1
          exact ⟨e, g1, g2, by omega⟩
      split at h
      · -- passed over
        rename_i hg
        rw [fSnoc_eq] at h
        refine ih _ _ _ _ _ _ _ (fun hacc => ?_) (hlen _) hle' hrest' h
        obtain ⟨hc, h0⟩ := hC hacc
        exact ⟨hc.more ho (base _ rfl rfl rfl (.inl rfl) rfl hc (.skip hg rfl rfl rfl) (.inl rfl)) (Nat.le_refl _) (Nat.le_refl _) (fun c hc => by cases hc) (Nat.le_refl _), h0⟩
      · rename_i hg
        split at h
        · -- a value
          rename_i sv ob hev
          rw [fSV_eq] at h
          split at h
          · rename_i e hask
            have hsv : sv = .cv (.one (.v (.bool e))) := by
              unfold askOf at hask
              split at hask
              · split at hask
                · injection hask with hask; subst hask; rfl
                · cases hask
              · cases hask
            split at h
            · rename_i ans orc'
              rw [fSnoc_eq] at h
              refine ih _ _ _ _ _ _ _ (fun hacc => ?_) (hlen _) hle' hrest' h
              obtain ⟨he, hacc⟩ := conj_cons hacc
              obtain ⟨hob, hacc⟩ := conj_more hacc
              obtain ⟨hc, h0⟩ := hC hacc
              exact ⟨hc.more ho (base _ rfl rfl rfl (.inl rfl) rfl hc (.val sv ob hg hev hob (fun ρ v hv => by rw [hsv] at hv; subst he; exact hv) rfl rfl) (.inl rfl)) (Nat.le_refl _) (Nat.le_refl _) (fun c hc => by cases hc) (Nat.le_refl _), h0⟩
            · exact .inl h
          · rw [fSnoc_eq] at h
            refine ih _ _ _ _ _ _ _ (fun hacc => ?_) (hlen _) hle' hrest' h
            obtain ⟨hob, hacc⟩ := conj_more hacc
            obtain ⟨hc, h0⟩ := hC hacc
            exact ⟨hc.more ho (base _ rfl rfl rfl (.inl rfl) rfl hc (.val sv ob hg hev hob (fun ρ v hv => hv) rfl rfl) (.inl rfl)) (Nat.le_refl _) (Nat.le_refl _) (fun c hc => by cases hc) (Nat.le_refl _), h0⟩
        · rename_i c hev
          rw [fAts_eq, fNat_eq] at h
          rw [fSnoc_eq] at h
          refine ih _ _ _ _ _ _ _ (fun hacc => ?_) (hlen _) hle' hrest' h
          obtain ⟨hc, h0⟩ := hC hacc
          exact ⟨hc.more ho (base _ rfl rfl rfl (.inl rfl) rfl hc (.box c hg hev rfl rfl rfl hc.nb.1 hc.nb.2) (.inl rfl)) (Nat.le_succ _) (Nat.le_refl _) (fun c hc => Nat.lt_succ_self _) (Nat.le_refl _), h0⟩
        · rename_i Rw ob hev
          rw [fNat_eq] at h
          rw [fSnoc_eq] at h
          refine ih _ _ _ _ _ _ _ (fun hacc => ?_) (hlen _) hle' hrest' h
          obtain ⟨hob, hacc⟩ := conj_more hacc
          obtain ⟨hc, h0⟩ := hC hacc
          exact ⟨hc.more ho (base _ rfl rfl rfl (.inl rfl) rfl hc (.row _ Rw (.inl ⟨ob, rfl⟩) hg hev hob rfl rfl rfl) (.inl rfl)) (Nat.le_refl _) (Nat.le_succ _) (fun c hc => by cases hc) (Nat.le_refl _), h0⟩
        · rename_i q Rw ob hev
          split at h
          · rename_i Q hq
            split at h
            · rename_i hQ
              rw [fNat_eq] at h
              rw [fSnoc_eq] at h
              refine ih _ _ _ _ _ _ _ (fun hacc => ?_) (hlen _) hle' hrest' h
              obtain ⟨hob, hacc⟩ := conj_more hacc
              obtain ⟨hc, h0⟩ := hC hacc
              exact ⟨hc.more ho (base _ rfl rfl rfl (.inl rfl) rfl hc (.row _ Rw (.inr (.inr ⟨q, Q, ob, rfl, hq, hQ⟩)) hg hev hob rfl rfl rfl) (.inl rfl)) (Nat.le_refl _) (Nat.le_succ _) (fun c hc => by cases hc) (Nat.le_refl _), h0⟩
            · exact .inl h
          · exact .inl h
        · rename_i Rw ob hev
          rw [fNat_eq] at h
          rw [fSnoc_eq] at h
          refine ih _ _ _ _ _ _ _ (fun hacc => ?_) (hlen _) hle' hrest' h
          obtain ⟨hob, hacc⟩ := conj_more hacc
          obtain ⟨hc, h0⟩ := hC hacc
          exact ⟨hc.more ho (base _ rfl rfl rfl (.inl rfl) rfl hc (.row _ Rw (.inr (.inl ⟨ob, rfl⟩)) hg hev hob rfl rfl rfl) (.inl rfl)) (Nat.le_refl _) (Nat.le_succ _) (fun c hc => by cases hc) (Nat.le_refl _), h0⟩
        · -- a row that is given away
          rename_i q Rw ob hev
          split at h
          · rename_i hall
            exact .inr ⟨recs, nb, nr, orc, hs, acc, h, hC, tailed hall⟩
          · split at h
            · rename_i hgive
              rw [fNat_eq, fNat_eq] at h
              rw [fSnoc_eq] at h
              obtain ⟨hge, hfr, p, rp, g1, g2, g3, g4, g5⟩ := giveOk_get hgive
              refine ih _ _ _ _ _ _ _ (fun hacc => ?_) (hlen _) hle' hrest' h
              obtain ⟨hob, hacc⟩ := conj_more hacc
              obtain ⟨hc, h0⟩ := hC hacc
              exact ⟨hc.more ho (base _ rfl rfl rfl (.inl rfl) rfl hc (.give q Rw ob _ hg hev hob rfl rfl rfl rfl (.inl rfl)) (.inr (fun q' hq' => by injection hq' with hq'; subst hq'; exact ⟨hfr, .inr ⟨hge, p, rp, g1, g2, g3, g4, g5⟩⟩))) (Nat.le_refl _) (Nat.le_succ _) (fun c hc => by cases hc) (Nat.le_refl _), h0⟩
            · exact .inl h
        · -- a box that was made within
          rename_i k c hev
          split at h
          · rename_i hall
            exact .inr ⟨recs, nb, nr, orc, hs, acc, h, hC, tailed hall⟩
          · split at h
            · rename_i hput
              rw [fNat_eq, fAts_eq] at h
              rw [fSnoc_eq] at h
              obtain ⟨hge, p, rp, cp, g1, g2, g3, g4, g5, g6⟩ := putOk_get hput
              have hlt : ∀ nb, Chain P W T s B0 R0 os recs nb nr → k < nb := fun nb hc => by rw [← g3]; exact hc.nb.2 p rp cp g1 g2
              refine ih _ _ _ _ _ _ _ (fun hacc => ?_) (hlen _) hle' hrest' h
              obtain ⟨hc, h0⟩ := hC hacc
              exact ⟨hc.more ho (base _ rfl rfl rfl (.inr (.inr (.inr ⟨hge, p, rp, cp, g1, g2, g3, g4, g5, g6⟩))) rfl hc (.putR k c hg hev rfl rfl rfl rfl) (.inl rfl)) (Nat.le_refl _) (Nat.le_refl _) (fun c hc' => hlt nb hc) (Nat.le_refl _), h0⟩
            · exact .inl h
        · -- the last ones
          split at h
          · rename_i hall
            exact .inr ⟨recs, nb, nr, orc, hs, acc, h, hC, tailed hall⟩
          · exact .inl h
        · split at h
          · rename_i g args hcl
            split at h
            · rename_i res rows hs'
              rw [fBs_eq, fRs_eq, fSVs_eq, fNat_eq] at h
              rw [fSnoc_eq] at h
              refine ih _ _ _ _ _ _ _ (fun hacc => ?_) (hlen _) hle' hrest' h
              obtain ⟨hok, hacc⟩ := conj_cons hacc
              obtain ⟨hc, h0⟩ := hC hacc
              exact ⟨hc.more ho (base _ rfl rfl rfl (.inl rfl) rfl hc (.call g args ⟨res, rows, none⟩ hg hcl hok rfl rfl rfl rfl) (.inl rfl)) (Nat.le_refl _) (Nat.le_add_right _ _) (fun c hc => by cases hc) (Nat.le_refl _), h0⟩
            · split at h
              · rename_i hall
                exact .inr ⟨recs, nb, nr, orc, hs, acc, h, hC, tailed hall⟩
              · exact .inl h
          · split at h
            · rename_i ty ad val hop
              split at h
              · rename_i kk off hget
                split at h
                · rename_i k c hev
                  split at h
                  · rename_i hhot
                    rw [fNat_eq, fAts_eq] at h
                    rw [fSnoc_eq] at h
                    simp only [hotOk, Bool.and_eq_true, Nat.beq_eq_true_eq, Bool.not_eq_true'] at hhot
                    obtain ⟨hkk, hkl, hfr, hno, hso⟩ := hhot
                    have hlt : k < s.B.length := by simp [Nat.blt] at hkl; omega
                    have hkk := Nat.eq_of_beq_eq_true hkk
                    subst hkk
                    have hb : BoxAt s B0 recs ⟨o.dst, .tup [], ancOf recs o.after.toList, readsOf os o, k, some c, nr, [], none⟩ := by
                      refine .inr (.inl ⟨hlt, fun q r' c' hq hc' => freeB_get hfr hq hc', fun c' hc' => ?_, ?_⟩)
                      · have : lookB s.B k = some c' := by unfold lookB; rw [hc']
                        simp [noneB, this] at hno
                      · unfold noneB at hso
                        split at hso
                        · rename_i old hold; exact ⟨old, lookB_ok hold⟩
                        · cases hso
                    refine ih _ _ _ _ _ _ _ (fun hacc => ?_) (hlen _) hle' hrest' h
                    obtain ⟨hc, h0⟩ := hC hacc
                    exact ⟨hc.more ho (base _ rfl rfl rfl (.inr hb) rfl hc (.put k c hg hev rfl rfl rfl rfl hlt) (.inl rfl)) (Nat.le_refl _) (Nat.le_refl _) (fun c hc' => Nat.lt_of_lt_of_le hlt hc.nb.1) (Nat.le_refl _), h0⟩
                  · exact .inl h
                · exact .inl h
              · exact .inl h
            · rename_i cc hop
              split at h
              · rename_i kk hfirst
                split at h
                · rename_i q Rw ob hev
                  split at h
                  · rename_i hhot
                    rw [fNat_eq, fNat_eq] at h
                    rw [fSnoc_eq] at h
                    simp only [hotROk, Bool.and_eq_true, Nat.beq_eq_true_eq, Bool.not_eq_true'] at hhot
                    obtain ⟨hkk, hkl, hfr, hno, hso⟩ := hhot
                    have hlt : q < s.R.length := by simp [Nat.blt] at hkl; omega
                    have hkk := Nat.eq_of_beq_eq_true hkk
                    subst hkk
                    have hb : ∀ r : Rec, r.kill = some q → KillAt s R0 recs r := by
                      intro r hrk q' hq'
                      rw [hrk] at hq'; injection hq' with hq'; subst hq'
                      refine ⟨freeK_get hfr, .inl ⟨hlt, fun c' hc' => ?_, ?_⟩⟩
                      · have : lookR s.R q = some c' := by unfold lookR; rw [hc']
                        simp [noneR, this] at hno
                      · unfold noneR at hso
                        split at hso
                        · rename_i old hold; exact ⟨old, lookR_ok hold⟩
                        · cases hso
                    refine ih _ _ _ _ _ _ _ (fun hacc => ?_) (hlen _) hle' hrest' h
                    obtain ⟨hob, hacc⟩ := conj_more hacc
                    obtain ⟨hc, h0⟩ := hC hacc
                    exact ⟨hc.more ho (base _ rfl rfl rfl (.inl rfl) rfl hc (.give q Rw ob _ hg hev hob rfl rfl rfl rfl (.inr ⟨hlt, rfl⟩)) (.inr (hb _ rfl))) (Nat.le_refl _) (Nat.le_succ _) (fun c hc => by cases hc) (Nat.le_refl _), h0⟩
                  · exact .inl h
                · exact .inl h
              · exact .inl h
            · exact .inl h
      · exact .inl h
end
section
variable {P : Program} {f : Fr} {R : Ending → World → Prop} {W : Base} {T : Tab} {k : List Item} {s : St}
theorem maskB_len : ∀ (l : List Nat) (B : List (Option (List At))), (maskB l B).length = B.length
  | [], B => rfl
  | k :: l, B => by rw [maskB, maskB_len l, unset_len]
theorem maskB_get : ∀ (l : List Nat) (B : List (Option (List At))) (k : Nat) (c : List At), (maskB l B)[k]? = some (some c) → B[k]? = some (some c)
  | [], B, k, c, h => h
  | q :: l, B, k, c, h => (unset_get _ _ _ _ (maskB_get l _ k c h)).2
theorem maskR_len : ∀ (l : List Nat) (B : List (Option Row)), (maskR l B).length = B.length
  | [], B => rfl
  | k :: l, B => by rw [maskR, maskR_len l, unset_len]
theorem maskR_get : ∀ (l : List Nat) (B : List (Option Row)) (k : Nat) (c : Row), (maskR l B)[k]? = some (some c) → B[k]? = some (some c)
  | [], B, k, c, h => h
  | q :: l, B, k, c, h => (unset_get _ _ _ _ (maskR_get l _ k c h)).2
theorem fin_sound {todo : List Item} {acc : List Prop} (h : fin P f R W todo s acc) : conj acc ∧ SG P f R W todo s := by
  unfold fin at h
  rwa [fSt_eq, fConj_eq] at h
theorem vc_acc (hT : TabOk P T) (hmx : P.follows .mixedOrders = true) : ∀ (n : Nat) (orc : List Bool) (hs : List Hd) (todo : List Item) (s : St) (acc : List Prop), vc P f R W T n orc hs todo s acc → conj acc ∧ SG P f R W todo s := by
  intro n
  induction n with
  | zero => intro orc hs todo s acc h; exact fin_sound h
  | succ n ih =>
    intro orc hs todo s acc h
    unfold vc at h
    split at h
    · have := ih _ _ _ _ _ h; exact ⟨this.1, .good (fun _ _ => .seq) this.2⟩
    · have := ih _ _ _ _ _ h; exact ⟨this.1, .good (fun _ _ => .skip) this.2⟩
    · have := ih _ _ _ _ _ h; exact ⟨this.1, .good (fun _ _ => .label) this.2⟩
    · have := ih _ _ _ _ _ h; exact ⟨this.1, .good (fun _ _ => .inBlock) this.2⟩
    · have := ih _ _ _ _ _ h; exact ⟨this.1, .good (fun _ _ => .inScope) this.2⟩
    · have := ih _ _ _ _ _ h; exact ⟨this.1, .good (fun _ _ => .block) this.2⟩
    · have := ih _ _ _ _ _ h; exact ⟨this.1, .good (fun _ _ => .scope) this.2⟩
    · split at h
      · rename_i hk
        have := ih _ _ _ _ _ h; exact ⟨this.1, .good (fun _ _ => .exit hk) this.2⟩
      · exact fin_sound h
    · rename_i c x y k
      split at h
      · rename_i b hc
        have key : ∀ z, (if b = true then x else y) = z → SG P f R W (.code z :: k) s → SG P f R W (.code (.cond c x y) :: k) s := by
          intro z hz h
          refine ⟨fun ρ w a hm hf hdm => Good.cond (t := b) ?_ (hz ▸ h.run ρ w a hm hf hdm)⟩
          have := St.get_ok hf hc
          injection this with this; exact this.symm
        split at h
        · have := ih _ _ _ _ _ h; exact ⟨this.1, key x rfl this.2⟩
        · have := ih _ _ _ _ _ h; exact ⟨this.1, key y rfl this.2⟩
      · rename_i e hc
        have key : ∀ z, (if e = true then x else y) = z → SG P f R W (.code z :: k) s → SG P f R W (.code (.cond c x y) :: k) s := by
          intro z hz h
          refine ⟨fun ρ w a hm hf hdm => Good.cond (t := e) ?_ (hz ▸ h.run ρ w a hm hf hdm)⟩
          have := St.get_ok hf hc
          injection this with this; exact this.symm
        split at h
        · have := ih _ _ _ _ _ h; exact ⟨(conj_cons this.1).2, key x (by rw [(conj_cons this.1).1]; rfl) this.2⟩
        · have := ih _ _ _ _ _ h; exact ⟨(conj_cons this.1).2, key y (by rw [(conj_cons this.1).1]; rfl) this.2⟩
        · exact fin_sound h
      · exact fin_sound h
    · rw [fSt_eq] at h
      have := ih _ _ _ _ _ h; exact ⟨this.1, .good (fun _ _ => .region) this.2⟩
    · rename_i id ops k
      split at h
      · rename_i he
        rw [fSt_eq, fNat_eq, fNat_eq] at h
        obtain ⟨hot, h⟩ := hotGo_some _ _ _ _ h
        rw [fBs_eq] at h
        obtain ⟨hotR, h⟩ := hotRGo_some _ _ _ _ h
        rw [fRs_eq] at h
        have hBl := maskB_len hot s.B
        have hRl := maskR_len hotR s.R
        rcases drw_sound (s := ⟨s.F, maskB hot s.B, maskR hotR s.R, s.G⟩) (B0 := s.B) (R0 := s.R) (acc0 := acc) ops.toList [] 0 s.B.length s.R.length orc hs acc (fun hacc => ⟨⟨fun i r hr => by simp at hr, ⟨Nat.le_of_eq hBl, fun q r c hq => by simp at hq⟩, ⟨Nat.le_of_eq hRl, fun q r hq => by simp at hq⟩⟩, hacc⟩) rfl (Nat.zero_le _) (fun j => by rw [Nat.zero_add]) h with h | ⟨recs, nb', nr', orc', hs', acc', h, hC, hlen, hal, htl⟩
        · exact fin_sound h
        · rw [fFinF_eq, fFinB_eq, fFinR_eq, fRs_eq] at h
          obtain ⟨h1, h2⟩ := ih _ _ _ _ _ h
          obtain ⟨hc, h0⟩ := hC h1
          rw [lastL_ix, Array.length_toList] at h2
          exact ⟨h0, SG.drawn (s := ⟨s.F, maskB hot s.B, maskR hotR s.R, s.G⟩) hT hmx rfl he hc (by simpa using hlen) hal htl (fun k c hk => maskB_get hot s.B k c hk) hBl (fun k c hk => maskR_get hotR s.R k c hk) hRl h2⟩
      · exact fin_sound h
    · have := ih _ _ _ _ _ h; exact ⟨this.1, .good (fun _ _ => .regionEnd) this.2⟩
    · split at h
      · exact fin_sound h
      · rename_i o ho
        split at h
        · rename_i hg
          rw [fPut_eq] at h
          have := ih _ _ _ _ _ h; exact ⟨this.1, .opNo ho hg this.2⟩
        · exact fin_sound h
        · rename_i d e hg
          split at h
          · rw [fPut_eq] at h
            have := ih _ _ _ _ _ h
            refine ⟨(conj_cons this.1).2, ?_⟩
            have hd : s.F[d]? = some (.cv (.one (.v (.bool e)))) := by
              unfold guardOf at hg
              split at hg
              · cases hg
              · split at hg
                · split at hg
                  · split at hg
                    · split at hg <;> cases hg
                    · injection hg with h1 h2; subst h1 h2; assumption
                    · cases hg
                    · cases hg
                  · cases hg
                · cases hg
            exact SG.ask hd (conj_cons this.1).1 this.2
          · exact fin_sound h
        · rename_i hg
          split at h
          · rename_i ev hev
            rw [fNat_eq, fNat_eq, fEff_eq, fPut_eq] at h
            have := ih _ _ _ _ _ h; exact ⟨(conj_more this.1).2, .opYes hT ho hg hev (conj_more this.1).1 this.2⟩
          · split at h
            · rename_i g args hc
              split at h
              · rw [fSt_eq, fSVs_eq, fNat_eq, fMem_eq, fPut_eq] at h
                have := ih _ _ _ _ _ h; exact ⟨(conj_cons this.1).2, .opCall ho hg hc (conj_cons this.1).1 (fun r hr => by cases hr) rfl this.2⟩
              · rename_i res rows r hs'
                split at h
                · rename_i hrow
                  rw [fSt_eq, fSVs_eq, fNat_eq, fMem_eq, fPut_eq] at h
                  have := ih _ _ _ _ _ h; exact ⟨(conj_cons this.1).2, .opCall ho hg hc (conj_cons this.1).1 (fun r' hr => by injection hr with hr; subst hr; exact ⟨_, St.row_ok hrow, rfl⟩) rfl this.2⟩
                · exact fin_sound h
              · exact fin_sound h
            · exact fin_sound h
    · exact fin_sound h
/-- The walk's rule: n steps at most; the answers to open tests; what calls answer. -/
theorem SG.walk (hT : TabOk P T) (hmx : P.follows .mixedOrders = true) (n : Nat) (orc : List Bool) (hs : List Hd) {todo : List Item} (h : vc P f R W T n orc hs todo s []) : SG P f R W todo s := (vc_acc hT hmx n orc hs todo s [] h).2
end
end Go.Sx
