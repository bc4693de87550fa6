/- Memories: rows of bytes. -/
import Derived.Test.YtoagodlengljgaaSxY
import Derived.Test.YtoagodlengljgaaSxR
import Derived.Test.YtoagodlengljgaaSxT
import Derived.Test.YtoagodlengljgaaSegL
import Derived.Test.YtoagodlengljgaaSegQ
namespace Go.Proofs.Ytoagodlengljgaa
open Go.Sx Go.RowKit
set_option linter.unusedVariables false
set_option linter.unusedSimpArgs false
set_option linter.unusedSectionVars false
theorem mx : Try.prog.follows .mixedOrders = true := Try.checked.mixed
theorem callOkOf {W : Base} {B : List (Option (List At))} {Rs : List (Option Row)} {g : FuncId} {fn : Func} (hf : Try.prog.funcs[g]? = some fn) (hn : (fn.name == "runtime.NumGoroutine") = false) (hb : fn.body.isNone = false) {args : List SV} {res : SV} (vals : List Value) (v : Value)
    (hargs : ∀ ρ vs, reps ρ args vs → vs = vals) (hres : ∀ ρ, (res.ren [] []).rep ρ v) (h : ∀ w, Calls Try.prog g vals.toArray w fun e w' => e = .returned v ∧ Below w.heap.size w w') : CallOk Try.prog W B Rs g args (mkHd res []) := by
  refine ⟨⟨fn, hf, hn, hb⟩, fun s' ρ w vs hm _ _ _ hr => ?_⟩
  obtain rfl := hargs ρ vs hr
  refine Calls.mono (h w) fun e w' ⟨he, hb⟩ => ?_
  subst he
  exact ⟨v, [], rfl, ⟨hb.os, hb.tape, hb.output, hb.size, fun k hk _ => hb.block k hk⟩, ⟨rfl, fun k R u hR => by simp [mkHd] at hR, fun k k' R R' u u' b _ hR => by simp [mkHd] at hR⟩, fun n ρ' _ _ => hres ρ'⟩
theorem below_of {w : World} {f : FuncId} {args : Array Value} {v : Value} (h : Calls Try.prog f args w fun e w' => e = .returned v ∧ w = w') : Calls Try.prog f args w fun e w' => e = .returned v ∧ Below w.heap.size w w' :=
  Calls.mono h fun e w' ⟨he, hw⟩ => ⟨he, by subst hw; exact Below.refl _ _⟩
abbrev aI (x : Int) : At := .v (.int .i64 x)
abbrev aS (s : ByteArray) : At := .v (.string s)
abbrev intV (x : Int) : SV := .cv (.one (aI x))
abbrev u32V (x : Int) : SV := .cv (.one (.v (.int .u32 x)))
abbrev strV (s : ByteArray) : SV := .cv (.one (aS s))
abbrev hdT (s : ByteArray) (e : Int) : Hd := mkHd (.tup [.one (aS s), .one (aI e)]) []
theorem repI {ρ : Env} {x : Int} {k : IntKind} {v : Value} (h : (SV.cv (.one (.v (.int k x)))).rep ρ v) : v = .int k x := by
  simp only [SV.rep, Cv.den, At.den] at h
  injection h with h; exact h.symm
theorem repS {ρ : Env} {s : ByteArray} {v : Value} (h : (strV s).rep ρ v) : v = .string s := by
  simp only [SV.rep, Cv.den, At.den] at h
  injection h with h; exact h.symm
theorem args2 {ρ : Env} {x y : SV} {u w : Value} (hx : ∀ v, x.rep ρ v → v = u) (hy : ∀ v, y.rep ρ v → v = w) : ∀ {vs : List Value}, reps ρ [x, y] vs → vs = [u, w]
  | [v, v'], h => by rw [hx v h.1, hy v' h.2.1]
theorem args3 {ρ : Env} {x y z : SV} {u w t : Value} (hx : ∀ v, x.rep ρ v → v = u) (hy : ∀ v, y.rep ρ v → v = w) (hz : ∀ v, z.rep ρ v → v = t) : ∀ {vs : List Value}, reps ρ [x, y, z] vs → vs = [u, w, t]
  | [v, v', v''], h => by rw [hx v h.1, hy v' h.2.1, hz v'' h.2.2.1]
def outM (m : ByteArray) (a n : Nat) : ByteArray := if a + n ≤ m.size then cutB m a n else ⟨#[]⟩
def outE (m : ByteArray) (a n : Nat) : Int := if a + n ≤ m.size then 0 else 10
def inM (m s : ByteArray) (a : Nat) : ByteArray := if a + s.size ≤ m.size then splB m a s else m
def inE (m s : ByteArray) (a : Nat) : Int := if a + s.size ≤ m.size then 0 else 10
def makM (n : Int) (s : ByteArray) : ByteArray := if n < 0 ∨ 1024 < n then ⟨#[]⟩ else if n < s.size then ⟨#[]⟩ else makeB n.toNat s
def makE (n : Int) (s : ByteArray) : Int := if n < 0 ∨ 1024 < n then 1 else if n < s.size then 4 else 0
section
variable {W : Base} {B : List (Option (List At))} {Rs : List (Option Row)}
theorem shownC : CallOk Try.prog W B Rs 10 [] (mkHd (.cv (.one (.lb true))) []) := CallOk.of_true Try.func10 (by kernel_rfl) rfl shown_any
theorem outC {m : ByteArray} {a n : Nat} (h1 : (a : Int) < 4294967296) (h2 : (n : Int) < 4294967296) (hm : m.size ≤ 140737488351232) : CallOk Try.prog W B Rs 19 [strV m, u32V a, u32V n] (hdT (outM m a n) (outE m a n)) :=
  callOkOf Try.func19 (by kernel_rfl) rfl [.string m, .int .u32 a, .int .u32 n] (.tuple #[.string (outM m a n), .int .i64 (outE m a n)]) (fun ρ vs h => args3 (fun v hv => repS hv) (fun v hv => repI hv) (fun v hv => repI hv) h) (fun ρ => ⟨_, rfl, rfl⟩) fun w => by
    have h := out_any m a n w h1 h2 hm
    unfold outM outE
    by_cases hs : a + n ≤ m.size
    · rw [if_pos hs] at h; rw [if_pos hs, if_pos hs]; exact below_of h
    · rw [if_neg hs] at h; rw [if_neg hs, if_neg hs]; exact below_of h
theorem rOutC {m : ByteArray} {a n : Nat} (h1 : (a : Int) < 4294967296) (h2 : (n : Int) < 4294967296) (hm : m.size ≤ 140737488351232) : CallOk Try.prog W B Rs 20 [strV m, u32V a, u32V n] (hdT (outM m a n) (outE m a n)) :=
  callOkOf Try.func20 (by kernel_rfl) rfl [.string m, .int .u32 a, .int .u32 n] (.tuple #[.string (outM m a n), .int .i64 (outE m a n)]) (fun ρ vs h => args3 (fun v hv => repS hv) (fun v hv => repI hv) (fun v hv => repI hv) h) (fun ρ => ⟨_, rfl, rfl⟩) fun w => by
    have h := rOut_any m a n w h1 h2 hm
    unfold outM outE
    by_cases hs : a + n ≤ m.size
    · rw [if_pos hs] at h; rw [if_pos hs, if_pos hs]; exact below_of h
    · rw [if_neg hs] at h; rw [if_neg hs, if_neg hs]; exact below_of h
theorem inC {m s : ByteArray} {a : Nat} (h1 : (a : Int) < 4294967296) (hm : m.size ≤ 140737488351232) (hs' : s.size ≤ 140737488351232) : CallOk Try.prog W B Rs 21 [strV m, u32V a, strV s] (hdT (inM m s a) (inE m s a)) :=
  callOkOf Try.func21 (by kernel_rfl) rfl [.string m, .int .u32 a, .string s] (.tuple #[.string (inM m s a), .int .i64 (inE m s a)]) (fun ρ vs h => args3 (fun v hv => repS hv) (fun v hv => repI hv) (fun v hv => repS hv) h) (fun ρ => ⟨_, rfl, rfl⟩) fun w => by
    have h := in_any m s a w h1 hm hs'
    unfold inM inE
    by_cases hs : a + s.size ≤ m.size
    · rw [if_pos hs] at h; rw [if_pos hs, if_pos hs]; exact h
    · rw [if_neg hs] at h; rw [if_neg hs, if_neg hs]; exact h
theorem rInC {m s : ByteArray} {a : Nat} (h1 : (a : Int) < 4294967296) (hm : m.size ≤ 140737488351232) (hs' : s.size ≤ 140737488351232) : CallOk Try.prog W B Rs 22 [strV m, u32V a, strV s] (hdT (inM m s a) (inE m s a)) :=
  callOkOf Try.func22 (by kernel_rfl) rfl [.string m, .int .u32 a, .string s] (.tuple #[.string (inM m s a), .int .i64 (inE m s a)]) (fun ρ vs h => args3 (fun v hv => repS hv) (fun v hv => repI hv) (fun v hv => repS hv) h) (fun ρ => ⟨_, rfl, rfl⟩) fun w => by
    have h := rIn_any m s a w h1 hm hs'
    unfold inM inE
    by_cases hs : a + s.size ≤ m.size
    · rw [if_pos hs] at h; rw [if_pos hs, if_pos hs]; exact h
    · rw [if_neg hs] at h; rw [if_neg hs, if_neg hs]; exact h
theorem makeC {n : Int} {s : ByteArray} (hs' : s.size ≤ 140737488351232) : CallOk Try.prog W B Rs 23 [intV n, strV s] (hdT (makM n s) (makE n s)) :=
  callOkOf Try.func23 (by kernel_rfl) rfl [.int .i64 n, .string s] (.tuple #[.string (makM n s), .int .i64 (makE n s)]) (fun ρ vs h => args2 (fun v hv => repI hv) (fun v hv => repS hv) h) (fun ρ => ⟨_, rfl, rfl⟩) fun w => by
    unfold makM makE
    by_cases h : n < 0 ∨ 1024 < n
    · rw [if_pos h, if_pos h]; exact below_of (make_arg n s w h)
    · rw [if_neg h, if_neg h]
      by_cases h2 : n < s.size
      · rw [if_pos h2, if_pos h2]; exact below_of (make_big n s w (by omega) (by omega) hs' h2)
      · rw [if_neg h2, if_neg h2]
        obtain ⟨k, rfl⟩ := Int.eq_ofNat_of_zero_le (show 0 ≤ n by omega)
        exact make_yes k s w (by omega) (by omega)
theorem rMakeC {n : Int} {s : ByteArray} (hs' : s.size ≤ 140737488351232) : CallOk Try.prog W B Rs 24 [intV n, strV s] (hdT (makM n s) (makE n s)) :=
  callOkOf Try.func24 (by kernel_rfl) rfl [.int .i64 n, .string s] (.tuple #[.string (makM n s), .int .i64 (makE n s)]) (fun ρ vs h => args2 (fun v hv => repI hv) (fun v hv => repS hv) h) (fun ρ => ⟨_, rfl, rfl⟩) fun w => by
    unfold makM makE
    by_cases h : n < 0 ∨ 1024 < n
    · rw [if_pos h, if_pos h]; exact below_of (rMake_arg n s w h)
    · rw [if_neg h, if_neg h]
      by_cases h2 : n < s.size
      · rw [if_pos h2, if_pos h2]; exact below_of (rMake_big n s w (by omega) (by omega) hs' h2)
      · rw [if_neg h2, if_neg h2]
        obtain ⟨k, rfl⟩ := Int.eq_ofNat_of_zero_le (show 0 ≤ n by omega)
        exact rMake_yes k s w (by omega) (by omega)
end
set_option maxHeartbeats 4000000 in
set_option maxRecDepth 100000 in
theorem rows_walk (w : World) (m s : ByteArray) (a n : Nat) (z : Int) (h1 : (a : Int) < 4294967296) (h2 : (n : Int) < 4294967296) (hm : m.size ≤ 140737488351232) (hs : s.size ≤ 140737488351232) :
    Calls Try.prog 4 #[.agg #[.string m, .int .u32 a, .int .u32 n, .string s, .int .i64 z]] w fun e w' => e = .returned (.bool true) ∧ Below w.heap.size w w' := by
  refine calls_top Try.func4 rfl [] [] [.cv (.agg [aS m, .v (.int .u32 a), .v (.int .u32 n), aS s, aI z])] .nil ⟨rfl, trivial⟩ ?_
  refine SG.walk tab_ok mx 400 [true, true, true, true, true] [mkHd (.cv (.one (.lb true))) [], hdT (outM m a n) (outE m a n), hdT (outM m a n) (outE m a n), hdT (inM m s a) (inE m s a), hdT (inM m s a) (inE m s a), hdT (makM z s) (makE z s), hdT (makM z s) (makE z s)] ?_
  conv => whnf
  try dsimp only [rowL, rowN, growOk, hiN, fromL, tightN, maxOk]
  refine ⟨?_, ?_⟩
  · repeat' apply And.intro
    all_goals first
      | exact shownC
      | exact outC h1 h2 hm
      | exact rOutC h1 h2 hm
      | exact inC h1 hm hs
      | exact rInC h1 hm hs
      | exact makeC hs
      | exact rMakeC hs
      | exact beq_self_eq_true _
      | trivial
      | rfl
      | omega
      | ((try dsimp only [rowL, rowN]); simp only [beq_iff_eq, beq_eq_false_iff_ne, bne_iff_ne, bne_eq_false_iff_eq, decide_eq_true_eq, decide_eq_false_iff_not, ne_eq, Bool.not_eq_true', Bool.not_eq_false', Bool.not_eq_eq_eq_not, Bool.not_true, Bool.not_false, Option.some.injEq, Option.getD_some, Option.getD_none]; omega)
      | (simp; done)
      | (simp; omega)
  refine SG.ret tab_ok Try.func4 rfl ?_
  intro ρ w' v hm hv
  exact top_v hm hv (beq_self_eq_true _)
end Go.Proofs.Ytoagodlengljgaa
