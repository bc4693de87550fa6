/- Regions whose order is drawn: sound. -/
import Derived.Test.YtlbldfdkicofdaaSxJ
namespace Go.Sx
open Go.RowKit
set_option linter.unusedVariables false
set_option linter.unusedSimpArgs false
set_option linter.unusedSectionVars false

theorem bit_orL : ∀ (a b : List Bool) (j : Nat), bit (orL a b) j = (bit a j || bit b j)
  | [], m, j => by simp [orL, bit]
  | a :: l, [], j => by simp [orL, bit]
  | a :: l, b :: m, 0 => by simp [orL, bit]
  | a :: l, b :: m, j + 1 => by have := bit_orL l m j; simpa [orL, bit] using this
theorem bit_oneL : ∀ (n j : Nat), bit (oneL n) j = true → j = n
  | 0, 0, _ => rfl
  | 0, j + 1, h => by simp [oneL, bit] at h
  | n + 1, 0, h => by simp [oneL, bit] at h
  | n + 1, j + 1, h => by have := bit_oneL n j (by simpa [oneL, bit] using h); omega
theorem bit_ancOf {recs : List Rec} : ∀ {es : List Edge} {j : Nat}, bit (ancOf recs es) j = true → ∃ e ∈ es, Region.binds .any e = true ∧ (j = e.on ∨ ∃ r, recs[e.on]? = some r ∧ bit r.anc j = true)
  | [], j, h => by simp [ancOf, bit] at h
  | e :: es, j, h => by
    simp only [ancOf] at h
    split at h
    · rename_i hb
      split at h
      · rename_i r hr
        rw [bit_orL, bit_orL, Bool.or_eq_true, Bool.or_eq_true] at h
        rcases h with (h | h) | h
        · exact ⟨e, by simp, hb, .inl (bit_oneL _ _ h)⟩
        · exact ⟨e, by simp, hb, .inr ⟨r, hr, h⟩⟩
        · obtain ⟨e', h1, h2⟩ := bit_ancOf h
          exact ⟨e', by simp [h1], h2⟩
      · obtain ⟨e', h1, h2⟩ := bit_ancOf h
        exact ⟨e', by simp [h1], h2⟩
    · obtain ⟨e', h1, h2⟩ := bit_ancOf h
      exact ⟨e', by simp [h1], h2⟩
theorem writer_some {t : Tmp} : ∀ {l : List Rec} {k j : Nat} {sv : SV}, writer t l k = some (j, sv) → ∃ (q : Nat) (r : Rec), l[q]? = some r ∧ j = k + q ∧ r.dst = some t ∧ r.sv = sv
  | [], k, j, sv, h => by cases h
  | r :: l, k, j, sv, h => by
    simp only [writer] at h
    split at h
    · rename_i d hd
      split at h
      · rename_i hdt
        injection h with h; injection h with h1 h2
        exact ⟨0, r, rfl, by omega, by rw [hd, hdt], h2⟩
      · obtain ⟨q, r', h1, h2, h3⟩ := writer_some h
        exact ⟨q + 1, r', by simpa using h1, by omega, h3⟩
    · obtain ⟨q, r', h1, h2, h3⟩ := writer_some h
      exact ⟨q + 1, r', by simpa using h1, by omega, h3⟩
theorem writer_none {t : Tmp} : ∀ {l : List Rec} {k : Nat}, writer t l k = none → ∀ (q : Nat) (r : Rec), l[q]? = some r → r.dst ≠ some t
  | [], k, h, q, r, hq => by simp at hq
  | x :: l, k, h, q, r, hq => by
    simp only [writer] at h
    split at h
    · rename_i d hd
      split at h
      · cases h
      · rename_i hdt
        cases q with
        | zero => simp at hq; subst hq; rw [hd]; intro e; injection e with e; exact hdt e
        | succ q => exact writer_none h q r (by simpa using hq)
    · rename_i hd
      cases q with
      | zero => simp at hq; subst hq; rw [hd]; exact fun e => by cases e
      | succ q => exact writer_none h q r (by simpa using hq)
theorem aloneR_get {d : Tmp} {anc : List Bool} : ∀ {l : List Rec} {k : Nat}, aloneR d anc l k = true → ∀ (q : Nat) (r : Rec), l[q]? = some r → r.dst ≠ some d ∧ (r.reads.contains d = true → bit anc (k + q) = true)
  | [], k, h, q, r, hq => by simp at hq
  | x :: l, k, h, q, r, hq => by
    simp only [aloneR, Bool.and_eq_true] at h
    obtain ⟨⟨h1, h2⟩, h3⟩ := h
    cases q with
    | zero =>
      simp at hq; subst hq
      refine ⟨fun e => by rw [e] at h1; simp at h1, fun hc => ?_⟩
      rw [hc] at h2; simpa using h2
    | succ q =>
      have := aloneR_get h3 q r (by simpa using hq)
      rwa [show k + (q + 1) = k + 1 + q by omega]
theorem setRows_get : ∀ {rows : List Row} {l : List (Option Row)} {n k : Nat} {R : Row}, (setRows l n rows)[k]? = some (some R) → l[k]? = some (some R) ∨ ∃ q : Nat, rows[q]? = some R ∧ n + q = k
  | [], l, n, k, R, h => .inl h
  | X :: Xs, l, n, k, R, h => by
    rcases setRows_get (rows := Xs) h with h | ⟨q, h1, h2⟩
    · rcases setAt_get _ _ _ _ _ h with ⟨rfl, rfl⟩ | ⟨_, h⟩
      · exact .inr ⟨0, rfl, rfl⟩
      · exact .inl h
    · exact .inr ⟨q + 1, by simpa using h1, by omega⟩
theorem unset_get' {α : Type} : ∀ {l : List (Option α)} {n k : Nat} {d : α}, (unset l n)[k]? = some (some d) → k ≠ n ∧ l[k]? = some (some d)
  | [], n, k, d, h => by simp [unset] at h
  | _ :: l, 0, 0, d, h => by simp [unset] at h
  | _ :: l, 0, k + 1, d, h => by simp [unset] at h; exact ⟨by omega, by simpa using h⟩
  | y :: l, n + 1, 0, d, h => by simp [unset] at h; exact ⟨by omega, by simpa using h⟩
  | y :: l, n + 1, k + 1, d, h => by
    simp only [unset, List.getElem?_cons_succ] at h
    have := unset_get' h
    exact ⟨by omega, by simpa using this.2⟩
theorem smallB_get {anc : List Bool} : ∀ {l : List Rec} {j k : Nat} {B : List (Option (List At))} {c : List At}, (smallB anc l j B)[k]? = some (some c) → (B[k]? = some (some c) ∧ ∀ (q : Nat) (r : Rec) c', l[q]? = some r → r.box = some c' → r.nb ≠ k) ∨ ∃ (q : Nat) (r : Rec), l[q]? = some r ∧ bit anc (j + q) = true ∧ r.box = some c ∧ r.nb = k ∧ ∀ (q' : Nat) (r' : Rec) c', q < q' → l[q']? = some r' → r'.box = some c' → r'.nb ≠ k
  | [], j, k, B, c, h => .inl ⟨h, fun q r c' hq => by simp at hq⟩
  | r :: l, j, k, B, c, h => by
    rcases smallB_get (l := l) h with ⟨h, hn⟩ | ⟨q, r', h1, h2, h3, h4, h5⟩
    · have hB : ∀ (X : Prop), (r.box = none → B[k]? = some (some c) → X) → (∀ c0, r.box = some c0 → k ≠ r.nb → B[k]? = some (some c) → X) → (∀ c0, bit anc j = true → r.box = some c0 → k = r.nb → c = c0 → X) → X := by
        intro X x1 x2 x3
        split at h
        · rename_i hb
          split at h
          · rename_i c' hc
            rcases setAt_get _ _ _ _ _ h with ⟨h1, h2⟩ | ⟨h1, h2⟩
            · exact x3 c' hb hc h1 h2
            · exact x2 c' hc h1 h2
          · rename_i hc; exact x1 hc h
        · split at h
          · rename_i c' hc
            obtain ⟨h1, h2⟩ := unset_get' h
            exact x2 c' hc h1 h2
          · rename_i hc; exact x1 hc h
      have hnl : (∀ c', r.box = some c' → r.nb ≠ k) → ∀ (q : Nat) (r' : Rec) c', (r :: l)[q]? = some r' → r'.box = some c' → r'.nb ≠ k := by
        intro h0 q r' c' hq hc
        cases q with
        | zero => simp at hq; subst hq; exact h0 c' hc
        | succ q => exact hn q r' c' (by simpa using hq) hc
      refine hB _ (fun hc hk => .inl ⟨hk, hnl fun c' hc' => by rw [hc] at hc'; cases hc'⟩) (fun c0 hc hne hk => .inl ⟨hk, hnl fun c' hc' e => hne e.symm⟩) (fun c0 hb hc hk hcc => .inr ⟨0, r, rfl, hb, by rw [hcc]; exact hc, hk.symm, fun q' r' c' hlt hq' hc' => ?_⟩)
      cases q' with
      | zero => omega
      | succ q' => exact hn q' r' c' (by simpa using hq') hc'
    · refine .inr ⟨q + 1, r', by simpa using h1, by rwa [show j + (q + 1) = j + 1 + q by omega], h3, h4, fun q' r'' c' hlt hq' hc' => ?_⟩
      cases q' with
      | zero => omega
      | succ q' => exact h5 q' r'' c' (by omega) (by simpa using hq') hc'
theorem smallR_get {anc : List Bool} : ∀ {l : List Rec} {j k : Nat} {Rs : List (Option Row)} {R : Row}, (smallR anc l j Rs)[k]? = some (some R) → Rs[k]? = some (some R) ∨ ∃ (q : Nat) (r : Rec) (p : Nat), l[q]? = some r ∧ bit anc (j + q) = true ∧ r.rows[p]? = some R ∧ r.nr + p = k
  | [], j, k, Rs, R, h => .inl h
  | r :: l, j, k, Rs, R, h => by
    rcases smallR_get (l := l) h with h | ⟨q, r', p, h1, h2, h3⟩
    · split at h
      · rename_i hb
        rcases setRows_get h with h | ⟨p, h1, h2⟩
        · exact .inl h
        · exact .inr ⟨0, r, p, rfl, hb, h1, h2⟩
      · exact .inl h
    · exact .inr ⟨q + 1, r', p, by simpa using h1, by rwa [show j + (q + 1) = j + 1 + q by omega], h3⟩
theorem finB_get : ∀ {l : List Rec} {k : Nat} {B : List (Option (List At))} {c : List At}, (finB l B)[k]? = some (some c) → (B[k]? = some (some c) ∧ ∀ (q : Nat) (r : Rec) c', l[q]? = some r → r.box = some c' → r.nb ≠ k) ∨ ∃ (q : Nat) (r : Rec), l[q]? = some r ∧ r.box = some c ∧ r.nb = k ∧ ∀ (q' : Nat) (r' : Rec) c', q < q' → l[q']? = some r' → r'.box = some c' → r'.nb ≠ k
  | [], k, B, c, h => .inl ⟨h, fun q r c' hq => by simp at hq⟩
  | r :: l, k, B, c, h => by
    rcases finB_get (l := l) h with ⟨h, hn⟩ | ⟨q, r', h1, h2, h3, h4⟩
    · have hnl : (∀ c', r.box = some c' → r.nb ≠ k) → ∀ (q : Nat) (r' : Rec) c', (r :: l)[q]? = some r' → r'.box = some c' → r'.nb ≠ k := by
        intro h0 q r' c' hq hc
        cases q with
        | zero => simp at hq; subst hq; exact h0 c' hc
        | succ q => exact hn q r' c' (by simpa using hq) hc
      split at h
      · rename_i c' hc
        rcases setAt_get _ _ _ _ _ h with ⟨rfl, rfl⟩ | ⟨hne, h⟩
        · refine .inr ⟨0, r, rfl, hc, rfl, fun q' r' c'' hlt hq' hc' => ?_⟩
          cases q' with
          | zero => omega
          | succ q' => exact hn q' r' c'' (by simpa using hq') hc'
        · exact .inl ⟨h, hnl fun c'' _ e => hne e.symm⟩
      · rename_i hc
        exact .inl ⟨h, hnl fun c'' hc' => by rw [hc] at hc'; cases hc'⟩
    · refine .inr ⟨q + 1, r', by simpa using h1, h2, h3, fun q' r'' c' hlt hq' hc' => ?_⟩
      cases q' with
      | zero => omega
      | succ q' => exact h4 q' r'' c' (by omega) (by simpa using hq') hc'
theorem finR_get : ∀ {l : List Rec} {k : Nat} {Rs : List (Option Row)} {R : Row}, (finR l Rs)[k]? = some (some R) → Rs[k]? = some (some R) ∨ ∃ (q : Nat) (r : Rec) (p : Nat), l[q]? = some r ∧ r.rows[p]? = some R ∧ r.nr + p = k
  | [], k, Rs, R, h => .inl h
  | r :: l, k, Rs, R, h => by
    rcases finR_get (l := l) h with h | ⟨q, r', p, h1, h2⟩
    · rcases setRows_get h with h | ⟨p, h1, h2⟩
      · exact .inl h
      · exact .inr ⟨0, r, p, rfl, h1, h2⟩
    · exact .inr ⟨q + 1, r', p, by simpa using h1, h2⟩
theorem unset_other {α : Type} : ∀ {l : List (Option α)} {n k : Nat} {d : α}, k ≠ n → l[k]? = some (some d) → (unset l n)[k]? = some (some d)
  | [], n, k, d, _, h => by simp at h
  | _ :: l, 0, 0, d, hne, h => absurd rfl hne
  | _ :: l, 0, k + 1, d, _, h => by simpa [unset] using h
  | y :: l, n + 1, 0, d, _, h => by simpa [unset] using h
  | y :: l, n + 1, k + 1, d, hne, h => by
    simp only [unset, List.getElem?_cons_succ]
    exact unset_other (by omega) (by simpa using h)
theorem unset_len' {α : Type} : ∀ (l : List (Option α)) (n : Nat), (unset l n).length = l.length
  | [], n => rfl
  | _ :: l, 0 => rfl
  | y :: l, n + 1 => by simp [unset, unset_len' l n]
theorem killAll_get : ∀ {l : List Rec} {k : Nat} {Rs : List (Option Row)} {R : Row}, (killAll l Rs)[k]? = some (some R) → Rs[k]? = some (some R) ∧ ∀ (q : Nat) (r : Rec), l[q]? = some r → r.kill ≠ some k
  | [], k, Rs, R, h => ⟨h, fun q r hq => by simp at hq⟩
  | x :: l, k, Rs, R, h => by
    obtain ⟨h1, h2⟩ := killAll_get (l := l) h
    have h3 : Rs[k]? = some (some R) ∧ x.kill ≠ some k := by
      split at h1
      · rename_i q hq
        obtain ⟨g1, g2⟩ := unset_get' h1
        exact ⟨g2, fun e => by rw [hq] at e; injection e with e; exact g1 e.symm⟩
      · rename_i hq
        exact ⟨h1, fun e => by rw [hq] at e; cases e⟩
    refine ⟨h3.1, fun q r hq => ?_⟩
    cases q with
    | zero => simp at hq; subst hq; exact h3.2
    | succ q => exact h2 q r (by simpa using hq)
theorem killAll_len : ∀ (l : List Rec) (Rs : List (Option Row)), (killAll l Rs).length = Rs.length
  | [], Rs => rfl
  | x :: l, Rs => by
    simp only [killAll]
    rw [killAll_len l]
    split
    · exact unset_len' _ _
    · rfl
theorem finB_len : ∀ {l : List Rec} {B : List (Option (List At))}, B.length ≤ (finB l B).length ∧ ∀ (q : Nat) (r : Rec) c, l[q]? = some r → r.box = some c → r.nb < (finB l B).length
  | [], B => ⟨Nat.le_refl _, fun q r c h => by simp at h⟩
  | r :: l, B => by
    have ih := finB_len (l := l) (B := match r.box with
      | some c => setAt B r.nb c
      | none => B)
    refine ⟨?_, fun q r' c hq hc => ?_⟩
    · refine Nat.le_trans ?_ ih.1
      split
      · rw [setAt_len]; omega
      · exact Nat.le_refl _
    · cases q with
      | zero =>
        simp at hq; subst hq
        refine Nat.lt_of_lt_of_le ?_ ih.1
        rw [hc]
        simp only [setAt_len]; omega
      | succ q => exact ih.2 q r' c (by simpa using hq) hc
theorem finR_len : ∀ {l : List Rec} {Rs : List (Option Row)}, Rs.length ≤ (finR l Rs).length ∧ ∀ (q : Nat) (r : Rec) p, l[q]? = some r → p < r.rows.length → r.nr + p < (finR l Rs).length
  | [], Rs => ⟨Nat.le_refl _, fun q r c h => by simp at h⟩
  | r :: l, Rs => by
    have ih := finR_len (l := l) (Rs := setRows Rs r.nr r.rows)
    have hl := setRows_len r.rows Rs r.nr
    refine ⟨Nat.le_trans hl.1 ih.1, fun q r' p hq hp => ?_⟩
    cases q with
    | zero =>
      simp at hq; subst hq
      have := ih.1
      simp only [finR] at *
      omega
    | succ q => exact ih.2 q r' p (by simpa using hq) hp
theorem finF_len : ∀ {l : List Rec} {F : List SV}, (finF l F).length = F.length
  | [], F => rfl
  | r :: l, F => by
    simp only [finF]
    rw [finF_len]
    split <;> simp
theorem finF_get : ∀ {l : List Rec} {F : List SV} {t : Nat} {x : SV}, (finF l F)[t]? = some x → (∃ (q : Nat) (r : Rec), l[q]? = some r ∧ r.dst = some t ∧ r.sv = x) ∨ (F[t]? = some x ∧ ∀ (q : Nat) (r : Rec), l[q]? = some r → r.dst ≠ some t)
  | [], F, t, x, h => .inr ⟨h, fun q r hq => by simp at hq⟩
  | r :: l, F, t, x, h => by
    rcases finF_get (l := l) h with ⟨q, r', h1, h2⟩ | ⟨h, hn⟩
    · exact .inl ⟨q + 1, r', by simpa using h1, h2⟩
    · have hrest : ∀ (q : Nat) (r' : Rec), (r :: l)[q]? = some r' → (q = 0 ∧ r' = r) ∨ r'.dst ≠ some t := fun q r' hq => by
        cases q with
        | zero => simp at hq; exact .inl ⟨rfl, hq.symm⟩
        | succ q => exact .inr (hn q r' (by simpa using hq))
      split at h
      · rename_i d hd
        by_cases hdt : d = t
        · subst hdt
          left
          refine ⟨0, r, rfl, hd, ?_⟩
          rw [List.getElem?_set] at h
          simp at h
          exact h.2
        · rw [List.getElem?_set_ne hdt] at h
          refine .inr ⟨h, fun q r' hq => ?_⟩
          rcases hrest q r' hq with ⟨_, rfl⟩ | h'
          · rw [hd]; intro e; injection e with e; exact hdt e
          · exact h'
      · rename_i hd
        refine .inr ⟨h, fun q r' hq => ?_⟩
        rcases hrest q r' hq with ⟨_, rfl⟩ | h'
        · rw [hd]; exact fun e => by cases e
        · exact h'
theorem reps_of {ρ : Env} : ∀ {F : List SV} {vs : List Value}, vs.length = F.length → (∀ (i : Nat) x, F[i]? = some x → ∃ v, vs[i]? = some v ∧ x.rep ρ v) → reps ρ F vs
  | [], [], _, _ => trivial
  | [], v :: vs, h, _ => by simp at h
  | x :: F, [], h, _ => by simp at h
  | x :: F, v :: vs, h, hg => by
    obtain ⟨u, h1, h2⟩ := hg 0 x rfl
    simp at h1; subst h1
    exact ⟨h2, reps_of (by simpa using h) fun i y hi => by simpa using hg (i + 1) y (by simpa using hi)⟩
theorem setAt_other {α : Type} : ∀ {l : List (Option α)} {n i : Nat} {x d : α}, i ≠ n → l[i]? = some (some d) → (setAt l n x)[i]? = some (some d)
  | [], n, i, x, d, _, h => by simp at h
  | y :: l, 0, 0, x, d, hne, h => absurd rfl hne
  | y :: l, 0, i + 1, x, d, _, h => by simpa [setAt] using h
  | y :: l, n + 1, 0, x, d, _, h => by simpa [setAt] using h
  | y :: l, n + 1, i + 1, x, d, hne, h => by simpa [setAt] using setAt_other (l := l) (n := n) (x := x) (by omega) (by simpa using h)
theorem disown_none : ∀ {l : List (Option Row)} {q : Nat} {Q : Row}, l[q]? = some (some Q) → Q.own = none → disown l q = l
  | [], q, Q, h, _ => by simp at h
  | none :: l, 0, Q, h, _ => by simp at h
  | some R :: l, 0, Q, h, ho => by
    simp at h; subst h
    obtain ⟨a, b, c, d, e, g⟩ := R
    dsimp only at ho; subst ho; rfl
  | none :: l, q + 1, Q, h, ho => by simp [disown, disown_none (l := l) (by simpa using h) ho]
  | some R :: l, q + 1, Q, h, ho => by simp [disown, disown_none (l := l) (by simpa using h) ho]
theorem setRows_other : ∀ {rows : List Row} {l : List (Option Row)} {n k : Nat} {R : Row}, (k < n ∨ n + rows.length ≤ k) → l[k]? = some (some R) → (setRows l n rows)[k]? = some (some R)
  | [], l, n, k, R, _, h => h
  | X :: Xs, l, n, k, R, hk, h => setRows_other (rows := Xs) (by simp at hk; omega) (setAt_other (by simp at hk; omega) h)
theorem setRows_new : ∀ {rows : List Row} {l : List (Option Row)} {n q : Nat} {R : Row}, rows[q]? = some R → (setRows l n rows)[n + q]? = some (some R)
  | [], l, n, q, R, h => by simp at h
  | X :: Xs, l, n, 0, R, h => by
    simp at h; subst h
    exact setRows_other (rows := Xs) (.inl (by omega)) (setAt_same l n X)
  | X :: Xs, l, n, q + 1, R, h => by
    have := setRows_new (rows := Xs) (l := setAt l n X) (n := n + 1) (q := q) (R := R) (by simpa using h)
    rwa [show n + 1 + q = n + (q + 1) by omega] at this
theorem lookB_ok {B : List (Option (List At))} {i : Nat} {c : List At} (h : lookB B i = some c) : B[i]? = some (some c) := by
  unfold lookB at h
  split at h
  · injection h with h; subst h; assumption
  · cases h
theorem lookR_ok {B : List (Option Row)} {i : Nat} {c : Row} (h : lookR B i = some c) : B[i]? = some (some c) := by
  unfold lookR at h
  split at h
  · injection h with h; subst h; assumption
  · cases h

section
variable (P : Program) (W : Base) (T : Tab) (s : St) (B0 : List (Option (List At))) (R0 : List (Option Row)) (os : List Oper)
inductive Kind (pre : List Rec) (o : Oper) (r : Rec) : Prop where
  | skip (hg : guardR os (getR s.F pre r.anc r.reads) o = .no) (h1 : r.sv = .tup []) (h2 : r.box = none) (h3 : r.rows = [])
  | val (sv : SV) (ob : Option Prop) (hg : guardR os (getR s.F pre r.anc r.reads) o = .yes) (he : evalOp T (getR s.F pre r.anc r.reads) (lookB (smallB r.anc pre 0 s.B)) (lookR (smallK r.anc pre s.R)) o.op = some (.val sv ob)) (ho : holds ob)
      (h1 : ∀ ρ v, sv.rep ρ v → r.sv.rep ρ v) (h2 : r.box = none) (h3 : r.rows = [])
  | box (c : List At) (hg : guardR os (getR s.F pre r.anc r.reads) o = .yes) (he : evalOp T (getR s.F pre r.anc r.reads) (lookB (smallB r.anc pre 0 s.B)) (lookR (smallK r.anc pre s.R)) o.op = some (.box c))
      (h1 : r.sv = .cv (.one (.pt (.bp r.nb 0)))) (h2 : r.box = some c) (h3 : r.rows = []) (hbl : s.B.length ≤ r.nb) (hbn : ∀ (q : Nat) (r' : Rec) c, pre[q]? = some r' → r'.box = some c → r'.nb < r.nb)
  | row (ev : Ev) (R : Row) (hev : (∃ ob, ev = .row R ob) ∨ (∃ ob, ev = .app none R ob) ∨ (∃ q Q ob, ev = .sub q R ob ∧ lookR (smallK r.anc pre s.R) q = some Q ∧ Q.own = none)) (hg : guardR os (getR s.F pre r.anc r.reads) o = .yes)
      (he : evalOp T (getR s.F pre r.anc r.reads) (lookB (smallB r.anc pre 0 s.B)) (lookR (smallK r.anc pre s.R)) o.op = some ev) (ho : ev.ob) (h1 : r.sv = .cv (.one (.rs r.nr))) (h2 : r.box = none) (h3 : r.rows = [R])
  | call (g : FuncId) (args : List SV) (h : Hd) (hg : guardR os (getR s.F pre r.anc r.reads) o = .yes) (hc : callOf (getR s.F pre r.anc r.reads) o.op = some (g, args)) (hok : CallOk P W (smallB r.anc pre 0 s.B) (smallK r.anc pre s.R) g args h)
      (h1 : r.sv = h.res r.nr) (h2 : r.box = none) (h3 : r.rows = h.rows) (h4 : h.kill = none)
  | put (k : Nat) (c : List At) (hg : guardR os (getR s.F pre r.anc r.reads) o = .yes) (he : evalOp T (getR s.F pre r.anc r.reads) (onlyB B0 k) (lookR (smallK r.anc pre s.R)) o.op = some (.put k c))
      (h1 : r.sv = .tup []) (h2 : r.box = some c) (h3 : r.rows = []) (h4 : r.nb = k) (h5 : r.nb < s.B.length)
  | putR (k : Nat) (c : List At) (hg : guardR os (getR s.F pre r.anc r.reads) o = .yes) (he : evalOp T (getR s.F pre r.anc r.reads) (lookB (smallB r.anc pre 0 s.B)) (lookR (smallK r.anc pre s.R)) o.op = some (.put k c))
      (h1 : r.sv = .tup []) (h2 : r.box = some c) (h3 : r.rows = []) (h4 : r.nb = k)
  | give (q : Nat) (R : Row) (ob : Option Prop) (rowf : Nat → Option Row) (hg : guardR os (getR s.F pre r.anc r.reads) o = .yes) (he : evalOp T (getR s.F pre r.anc r.reads) (lookB (smallB r.anc pre 0 s.B)) rowf o.op = some (.app (some q) R ob)) (ho : holds ob)
      (h1 : r.sv = .cv (.one (.rs r.nr))) (h2 : r.box = none) (h3 : r.rows = [R]) (h4 : r.kill = some q) (h5 : rowf = lookR (smallK r.anc pre s.R) ∨ (q < s.R.length ∧ rowf = withR R0 q (smallK r.anc pre s.R)))
/-- A record's box: a new one; one that was there, and that nobody else sees. -/
def BoxAt (pre : List Rec) (r : Rec) : Prop :=
  (s.B.length ≤ r.nb ∧ ∀ (q : Nat) (r' : Rec) c, pre[q]? = some r' → r'.box = some c → r'.nb < r.nb) ∨
  (r.nb < s.B.length ∧ (∀ (q : Nat) (r' : Rec) c, pre[q]? = some r' → r'.box = some c → r'.nb ≠ r.nb) ∧ (∀ c, s.B[r.nb]? ≠ some (some c)) ∧ ∃ old, B0[r.nb]? = some (some old)) ∨
  (s.B.length ≤ r.nb ∧ ∃ (p : Nat) (rp : Rec) (c : List At), pre[p]? = some rp ∧ rp.box = some c ∧ rp.nb = r.nb ∧ bit r.anc p = true ∧ (∀ (x : Nat) rx c, x ≠ p → pre[x]? = some rx → rx.box = some c → rx.nb ≠ r.nb) ∧ ∀ (x : Nat) rx, pre[x]? = some rx → bit rx.anc p = true → bit r.anc x = true)
/-- A row that is given away: one that was there, and that nobody else sees; one that was made within, and that nobody else wants any more. -/
def KillAt (pre : List Rec) (r : Rec) : Prop := ∀ q, r.kill = some q → (∀ (x : Nat) rx, pre[x]? = some rx → rx.kill ≠ some q) ∧
  ((q < s.R.length ∧ (∀ c, s.R[q]? ≠ some (some c)) ∧ ∃ old, R0[q]? = some (some old)) ∨
   (s.R.length ≤ q ∧ ∃ (p : Nat) (rp : Rec), pre[p]? = some rp ∧ bit r.anc p = true ∧ rp.nr ≤ q ∧ q < rp.nr + rp.rows.length ∧ ∀ (x : Nat) rx, pre[x]? = some rx → bit rx.anc p = true → bit r.anc x = true))
structure RecOk (pre : List Rec) (o : Oper) (r : Rec) : Prop where
  dst : r.dst = o.dst
  anc : r.anc = ancOf pre o.after.toList
  reads : r.reads = readsOf os o
  alone : dstOk s.F.length o.dst r.anc pre = true
  nb : BoxAt s B0 pre r
  nr : s.R.length ≤ r.nr ∧ ∀ (q : Nat) (r' : Rec), pre[q]? = some r' → r'.nr + r'.rows.length ≤ r.nr
  kind : Kind P W T s B0 R0 os pre o r
  kl : KillAt s R0 pre r
structure Chain (recs : List Rec) (nb nr : Nat) : Prop where
  ok : ∀ (i : Nat) r, recs[i]? = some r → ∃ o, os[i]? = some o ∧ RecOk P W T s B0 R0 os (recs.take i) o r
  nb : s.B.length ≤ nb ∧ ∀ (q : Nat) r c, recs[q]? = some r → r.box = some c → r.nb < nb
  nr : s.R.length ≤ nr ∧ ∀ (q : Nat) r, recs[q]? = some r → r.nr + r.rows.length ≤ nr
end
section
variable {P : Program} {W : Base} {T : Tab} {s : St} {B0 : List (Option (List At))} {R0 : List (Option Row)} {os : List Oper}
theorem Chain.more {recs : List Rec} {nb nr : Nat} {o : Oper} {r : Rec} {nb' nr' : Nat} (h : Chain P W T s B0 R0 os recs nb nr) (ho : os[recs.length]? = some o) (hr : RecOk P W T s B0 R0 os recs o r) (h1 : nb ≤ nb') (h2 : nr ≤ nr') (h3 : ∀ c, r.box = some c → r.nb < nb') (h4 : r.nr + r.rows.length ≤ nr') :
    Chain P W T s B0 R0 os (recs ++ [r]) nb' nr' := by
  have get : ∀ (i : Nat) x, (recs ++ [r])[i]? = some x → (i < recs.length ∧ recs[i]? = some x) ∨ (i = recs.length ∧ x = r) := fun i x hi => by
    by_cases hl : i < recs.length
    · rw [List.getElem?_append_left hl] at hi; exact .inl ⟨hl, hi⟩
    · rw [List.getElem?_append_right (by omega)] at hi
      have : i - recs.length = 0 := by
        have := (List.getElem?_eq_some_iff.1 hi).1
        simp at this; omega
      rw [this] at hi
      simp at hi
      exact .inr ⟨by omega, hi.symm⟩
  refine ⟨fun i x hi => ?_, ⟨by have := h.nb.1; omega, fun q x c hq hc => ?_⟩, ⟨by have := h.nr.1; omega, fun q x hq => ?_⟩⟩
  · rcases get i x hi with ⟨hl, hi⟩ | ⟨rfl, rfl⟩
    · obtain ⟨o', g1, g2⟩ := h.ok i x hi
      refine ⟨o', g1, ?_⟩
      rw [List.take_append_of_le_length (by omega)]; exact g2
    · refine ⟨o, ho, ?_⟩
      rw [List.take_append_of_le_length (Nat.le_refl _), List.take_length]; exact hr
  · rcases get q x hq with ⟨_, hq⟩ | ⟨_, rfl⟩
    · have := h.nb.2 q x c hq hc; omega
    · exact h3 c hc
  · rcases get q x hq with ⟨_, hq⟩ | ⟨_, rfl⟩
    · have := h.nr.2 q x hq; omega
    · exact h4

/-- What holds of the frame and memory when just the operations of S have been carried out. -/
structure Holds (W : Base) (s : St) (B0 : List (Option (List At))) (R0 : List (Option Row)) (os : List Oper) (recs : List Rec) (S : Nat → Prop) (a : Act) (w : World) (ρ : Env) (s' : St) : Prop where
  mem : Mem W s' ρ w
  bB : ∀ (k : Nat) c, s.B[k]? = some (some c) → s'.B[k]? = some (some c)
  bR : ∀ (k : Nat) R, s.R[k]? = some (some R) → s'.R[k]? = some (some R)
  nB : ∀ (i : Nat) r c, recs[i]? = some r → S i → r.box = some c → (∀ (j : Nat) rj c', i < j → recs[j]? = some rj → S j → rj.box = some c' → rj.nb ≠ r.nb) → s'.B[r.nb]? = some (some c)
  nR : ∀ (i : Nat) r (k : Nat) R, recs[i]? = some r → S i → r.rows[k]? = some R → (∀ (j : Nat) rj, recs[j]? = some rj → S j → rj.kill ≠ some (r.nr + k)) → s'.R[r.nr + k]? = some (some R)
  hR : ∀ (i : Nat) r q, recs[i]? = some r → ¬ S i → r.kill = some q → q < s.R.length → ∃ old, R0[q]? = some (some old) ∧ s'.R[q]? = some (some old)
  fB : ∀ (i : Nat) r c, recs[i]? = some r → ¬ S i → r.box = some c → s.B.length ≤ r.nb → (∀ (q : Nat) rq c', q < i → recs[q]? = some rq → rq.box = some c' → rq.nb ≠ r.nb) → ρ.β r.nb = none
  hB : ∀ (i : Nat) r c, recs[i]? = some r → ¬ S i → r.box = some c → r.nb < s.B.length → ∃ old, B0[r.nb]? = some (some old) ∧ s'.B[r.nb]? = some (some old)
  fR : ∀ (i : Nat) r (k : Nat), recs[i]? = some r → ¬ S i → k < r.rows.length → ρ.σ (r.nr + k) = none
  dB : ∀ k, (finB recs s.B).length ≤ k → ρ.β k = none
  dR : ∀ k, (finR recs s.R).length ≤ k → ρ.σ k = none
  de : a.defers = []
  sz : a.tmps.size = s.F.length
  wr : ∀ (i : Nat) r d, recs[i]? = some r → S i → r.dst = some d → ∃ v, a.tmps[d]? = some v ∧ r.sv.rep ρ v
  un : ∀ (t : Nat) x, s.F[t]? = some x → (∀ (i : Nat) r, recs[i]? = some r → S i → r.dst ≠ some t) → ∃ v, a.tmps[t]? = some v ∧ x.rep ρ v
  cl : ∀ (i : Nat) o, S i → os[i]? = some o → ∀ e ∈ o.after.toList, Region.binds .any e = true → S e.on
  gh : reps ρ s.G W.gs

section
variable {recs : List Rec} {nb nr : Nat} (hch : Chain P W T s B0 R0 os recs nb nr)
include hch
/-- Who is ahead has been carried out. -/
theorem anc_in {S : Nat → Prop} (hcl : ∀ (i : Nat) o, S i → os[i]? = some o → ∀ e ∈ o.after.toList, Region.binds .any e = true → S e.on) : ∀ (i : Nat) r o, recs[i]? = some r → os[i]? = some o → (∀ e ∈ o.after.toList, Region.binds .any e = true → S e.on) → ∀ j, bit r.anc j = true → S j := by
  intro i
  induction i using Nat.strongRecOn with
  | _ i ih =>
    intro r o hr ho hed j hj
    obtain ⟨o', ho', hok⟩ := hch.ok i r hr
    rw [ho] at ho'; injection ho' with ho'; subst ho'
    rw [hok.anc] at hj
    obtain ⟨e, he, hb, h | ⟨r', hr', hbit⟩⟩ := bit_ancOf hj
    · rw [h]; exact hed e he hb
    · have hSe := hed e he hb
      have hlt : e.on < i := by
        have := (List.getElem?_eq_some_iff.1 hr').1
        simp at this; omega
      have hre : recs[e.on]? = some r' := by rw [List.getElem?_take, if_pos hlt] at hr'; exact hr'
      obtain ⟨oe, hoe, _⟩ := hch.ok e.on r' hre
      exact ih e.on hlt r' oe hre hoe (hcl e.on oe hSe hoe) j hbit
theorem dst_ne {i j : Nat} {r r' : Rec} {d : Tmp} (hi : recs[i]? = some r) (hj : recs[j]? = some r') (hne : i ≠ j) (hd : r.dst = some d) : r'.dst ≠ some d := by
  have key : ∀ {i j : Nat} {r r' : Rec} {d : Tmp}, recs[i]? = some r → recs[j]? = some r' → i < j → r'.dst = some d → r.dst ≠ some d := by
    intro i j r r' d hi hj hlt hd
    obtain ⟨o, ho, hok⟩ := hch.ok j r' hj
    have ha := hok.alone
    rw [← hok.dst, hd] at ha
    simp only [dstOk, Bool.and_eq_true] at ha
    exact (aloneR_get ha.2 i r (by rw [List.getElem?_take, if_pos hlt]; exact hi)).1
  rcases Nat.lt_or_gt_of_ne hne with h | h
  · intro hd'; exact key hi hj h hd' hd
  · exact key hj hi h hd
theorem get_ok {S : Nat → Prop} {a : Act} {w : World} {ρ : Env} {s' : St} (h : Holds W s B0 R0 os recs S a w ρ s') {i : Nat} {r : Rec} {o : Oper} (hr : recs[i]? = some r) (ho : os[i]? = some o) (hni : ¬ S i) (hed : ∀ e ∈ o.after.toList, Region.binds .any e = true → S e.on) :
    ∀ x sv, getR s.F (recs.take i) r.anc r.reads x = some sv → sv.rep ρ (a.eval x) := by
  intro x sv hx
  cases x with
  | tmp t =>
    simp only [getR] at hx
    split at hx
    · rename_i hreads
      split at hx
      · rename_i j sv' hw
        split at hx
        · rename_i hbit
          obtain ⟨q, rq, h1, h2, h3, h4⟩ := writer_some hw
          have hSj := anc_in hch h.cl i r o hr ho hed j hbit
          have hqi : q < i := by have := (List.getElem?_eq_some_iff.1 h1).1; simp at this; omega
          have hrq : recs[q]? = some rq := by rw [List.getElem?_take, if_pos hqi] at h1; exact h1
          have hjq : j = q := by omega
          subst hjq
          obtain ⟨v, g1, g2⟩ := h.wr j rq t hrq hSj h3
          have := known_some hx
          injection this with this; subst this
          have he : a.eval (.tmp t) = v := by simp [Act.eval, g1]
          rw [he, ← h4]; exact g2
        · cases hx
      · rename_i hw
        have hF := known_some hx
        obtain ⟨v, g1, g2⟩ := h.un t sv hF (fun j rj hj hSj hd => by
          have hij : i ≠ j := fun e => hni (e ▸ hSj)
          rcases Nat.lt_or_gt_of_ne hij with hlt | hlt
          · obtain ⟨oj, hoj, hokj⟩ := hch.ok j rj hj
            have ha := hokj.alone
            rw [← hokj.dst, hd] at ha
            simp only [dstOk, Bool.and_eq_true] at ha
            have := (aloneR_get ha.2 i r (by rw [List.getElem?_take, if_pos hlt]; exact hr)).2 hreads
            rw [Nat.zero_add] at this
            exact hni (anc_in hch h.cl j rj oj hj hoj (h.cl j oj hSj hoj) i this)
          · exact writer_none hw j rj (by rw [List.getElem?_take, if_pos hlt]; exact hj) hd)
        have he : a.eval (.tmp t) = v := by simp [Act.eval, g1]
        rw [he]; exact g2
    · cases hx
  | const v =>
    exact St.get_ok (s := ⟨[], [], [], []⟩) (ρ := ρ) (a := ⟨#[], []⟩) ⟨rfl, trivial⟩ (x := .const v) (by simpa [getR, St.get] using hx)
  | global g => cases hx
  | func f => injection hx with hx; subst hx; rfl
/-- Two that write one box: the later one is behind the earlier one, and behind all that are behind that. -/
theorem same_nb {i j : Nat} {r rj : Rec} {c cj : List At} (hi : recs[i]? = some r) (hj : recs[j]? = some rj) (hlt : i < j) (hc : r.box = some c) (hcj : rj.box = some cj) (he : r.nb = rj.nb) : bit rj.anc i = true ∧ s.B.length ≤ rj.nb ∧ ∀ (x : Nat) rx, x < j → recs[x]? = some rx → bit rx.anc i = true → bit rj.anc x = true := by
  obtain ⟨oj, _, hok⟩ := hch.ok j rj hj
  have hpre : (recs.take j)[i]? = some r := by rw [List.getElem?_take, if_pos hlt]; exact hi
  rcases hok.nb with hb | hb | ⟨hb, p, rp, cp, g1, g2, g3, g4, g5, g6⟩
  · have := hb.2 i r c hpre hc; omega
  · exact absurd he (hb.2.1 i r c hpre hc)
  · have hip : i = p := by
      rcases Classical.em (i = p) with h | h
      · exact h
      · exact absurd he (g5 i r c h hpre hc)
    subst hip
    exact ⟨g4, hb, fun x rx hx hxr hbit => g6 x rx (by rw [List.getElem?_take, if_pos hx]; exact hxr) hbit⟩
theorem box_ok {S : Nat → Prop} {a : Act} {w : World} {ρ : Env} {s' : St} (h : Holds W s B0 R0 os recs S a w ρ s') {i : Nat} {r : Rec} {o : Oper} (hr : recs[i]? = some r) (ho : os[i]? = some o) (hni : ¬ S i) (hed : ∀ e ∈ o.after.toList, Region.binds .any e = true → S e.on) :
    ∀ (k : Nat) c, (smallB r.anc (recs.take i) 0 s.B)[k]? = some (some c) → s'.B[k]? = some (some c) := by
  intro k c hk
  rcases smallB_get hk with ⟨hk, _⟩ | ⟨q, rq, h1, h2, h3, h4, h5⟩
  · exact h.bB k c hk
  · rw [Nat.zero_add] at h2
    have hSq := anc_in hch h.cl i r o hr ho hed q h2
    have hqi : q < i := by have := (List.getElem?_eq_some_iff.1 h1).1; simp at this; omega
    have hrq : recs[q]? = some rq := by rw [List.getElem?_take, if_pos hqi] at h1; exact h1
    rw [← h4]
    refine h.nB q rq c hrq hSq h3 fun j rj c' hqj hj hSj hcj he => ?_
    rcases Nat.lt_trichotomy j i with hlt | rfl | hgt
    · exact h5 j rj c' hqj (by rw [List.getElem?_take, if_pos hlt]; exact hj) hcj (by rw [he, h4])
    · exact hni hSj
    · obtain ⟨_, _, g⟩ := same_nb hch hrq hj hqj h3 hcj he.symm
      obtain ⟨oj, hoj, _⟩ := hch.ok j rj hj
      exact hni (anc_in hch h.cl j rj oj hj hoj (h.cl j oj hSj hoj) i (g i r hgt hr h2))
theorem row_ok {S : Nat → Prop} {a : Act} {w : World} {ρ : Env} {s' : St} (h : Holds W s B0 R0 os recs S a w ρ s') {i : Nat} {r : Rec} {o : Oper} (hr : recs[i]? = some r) (ho : os[i]? = some o) (hni : ¬ S i) (hed : ∀ e ∈ o.after.toList, Region.binds .any e = true → S e.on) :
    ∀ (k : Nat) c, (smallK r.anc (recs.take i) s.R)[k]? = some (some c) → s'.R[k]? = some (some c) := by
  intro k c hk
  obtain ⟨hk, hkn⟩ := killAll_get hk
  rcases smallR_get hk with hk | ⟨q, rq, p, h1, h2, h3, h4⟩
  · exact h.bR k c hk
  · rw [Nat.zero_add] at h2
    have hSq := anc_in hch h.cl i r o hr ho hed q h2
    have hqi : q < i := by have := (List.getElem?_eq_some_iff.1 h1).1; simp at this; omega
    have hrq : recs[q]? = some rq := by rw [List.getElem?_take, if_pos hqi] at h1; exact h1
    rw [← h4]
    refine h.nR q rq p c hrq hSq h3 fun j rj hj hSj hkj => ?_
    rw [h4] at hkj
    have hpl : p < rq.rows.length := (List.getElem?_eq_some_iff.1 h3).1
    obtain ⟨oq, _, hokq⟩ := hch.ok q rq hrq
    have hnq := hokq.nr.1
    rcases Nat.lt_trichotomy j i with hlt | rfl | hgt
    · exact hkn j rj (by rw [List.getElem?_take, if_pos hlt]; exact hj) hkj
    · exact hni hSj
    · obtain ⟨oj, hoj, hokj⟩ := hch.ok j rj hj
      rcases (hokj.kl k hkj).2 with ⟨hlt, _⟩ | ⟨_, p', rp, g1, g2, g3, g4, g5⟩
      · omega
      · have hpp : p' = q := by
          have hp'j : p' < j := by have := (List.getElem?_eq_some_iff.1 g1).1; simp at this; omega
          have hrp : recs[p']? = some rp := by rw [List.getElem?_take, if_pos hp'j] at g1; exact g1
          rcases Nat.lt_trichotomy p' q with hlt | e | hlt
          · have := hokq.nr.2 p' rp (by rw [List.getElem?_take, if_pos hlt]; exact hrp); omega
          · exact e
          · obtain ⟨op, _, hokp⟩ := hch.ok p' rp hrp
            have := hokp.nr.2 q rq (by rw [List.getElem?_take, if_pos hlt]; exact hrq); omega
        subst hpp
        have hb := g5 i r (by rw [List.getElem?_take, if_pos hgt]; exact hr) h2
        exact hni (anc_in hch h.cl j rj oj hj hoj (h.cl j oj hSj hoj) i hb)
end
end
end Go.Sx
