/- Processors: what the older texts say, as contracts. -/
import Derived.Test.YtcdoofjddhlodaaDoorSxY
import Derived.Test.YtcdoofjddhlodaaDoorSxT
import Derived.Test.YtcdoofjddhlodaaDoorCpuB
import Derived.Test.YtcdoofjddhlodaaDoorIsaE
import Derived.Test.YtcdoofjddhlodaaDoorSegC
namespace Go.Proofs.YtcdoofjddhlodaaDoor
open Go.Sx Go.RowKit
set_option linter.unusedVariables false
set_option linter.unusedSimpArgs false
theorem mx : Tryd.prog.follows .mixedOrders = true := Tryd.checked.mixed
/-- The table is there, and nobody writes it. -/
structure UB (W : Base) : Prop where
  u : UsesAt W.w
  g : W.g = none
theorem UB.at_ {W : Base} (h : UB W) {w : World} (k : Kept W w) : UsesAt w :=
  h.u.below ⟨k.os, k.tape, k.output, k.size, fun j hj => k.block j hj (by rw [h.g]; simp)⟩
theorem UB.step {W : Base} (h : UB W) {w : World} {blk : Option Nat} {k : Option Nat} (hb : k = none → blk = none) (hk : Kept W w) (e : k = none := by rfl) : UB ⟨w, blk, [], []⟩ := ⟨h.at_ hk, hb e⟩
/-- A fact of old as a contract. -/
theorem callOkOf {W : Base} {B : List (Option (List At))} {Rs : List (Option Row)} {g : FuncId} {fn : Func} (hf : Tryd.prog.funcs[g]? = some fn) (hn : (fn.name == "runtime.NumGoroutine") = false) (hb : fn.body.isNone = false) {args : List SV} {res : SV} (vals : List Value) (v : Value)
    (hargs : ∀ ρ vs, reps ρ args vs → vs = vals) (hres : ∀ ρ, (res.ren [] []).rep ρ v) (h : ∀ w, Kept W w → Calls Tryd.prog g vals.toArray w fun e w' => e = .returned v ∧ Below w.heap.size w w') : CallOk Tryd.prog W B Rs g args (mkHd res []) := by
  refine ⟨⟨fn, hf, hn, hb⟩, fun s' ρ w vs hm _ _ _ hr => ?_⟩
  obtain rfl := hargs ρ vs hr
  refine Calls.mono (h w hm.below) fun e w' ⟨he, hb⟩ => ?_
  subst he
  exact ⟨v, [], rfl, ⟨hb.os, hb.tape, hb.output, hb.size, fun k hk _ => hb.block k hk⟩, ⟨rfl, fun k R u hR => by simp [mkHd] at hR, fun k k' R R' u u' b _ hR => by simp [mkHd] at hR⟩, fun n ρ' _ _ => hres ρ'⟩
abbrev aI (x : Int) : At := .v (.int .i64 x)
abbrev aU (x : Int) : At := .v (.int .u32 x)
abbrev intV (x : Int) : SV := .cv (.one (aI x))
abbrev u32V (x : Int) : SV := .cv (.one (aU x))
abbrev strV (s : ByteArray) : SV := .cv (.one (.v (.string s)))
abbrev bpV (i : Nat) : SV := .cv (.one (.pt (.bp i 0)))
abbrev trueV : SV := .cv (.one (.lb true))
abbrev insC (o a b i : Int) : List At := [aI o, aI a, aI b, aI i]
abbrev insS (o a b i : Int) : SV := .cv (.agg (insC o a b i))
abbrev cpuC (R : Nat → Int) (p : Int) : List At := [aU (R 0), aU (R 1), aU (R 2), aU (R 3), aU (R 4), aU (R 5), aU (R 6), aU (R 7), aU p]
abbrev cpuS (R : Nat → Int) (p : Int) : SV := .cv (.agg (cpuC R p))
abbrev hdB (b : Bool) : Hd := mkHd (.cv (.one (.lb b))) []
abbrev hdU (x : Int) : Hd := mkHd (u32V x) []
abbrev hdT (l : List Cv) : Hd := mkHd (.tup l) []
def regs (R : Nat → Int) : Prop := ∀ j, j < 8 → 0 ≤ R j ∧ R j < 4294967296
abbrev updR (R : Nat → Int) (k : Nat) (v : Int) : Nat → Int := fun j => if k = j then v else R j
theorem regs_upd {R : Nat → Int} (h : regs R) {k : Nat} {v : Int} (h0 : 0 ≤ v) (h1 : v < 4294967296) : regs (updR R k v) := fun j hj => by
  show 0 ≤ (if k = j then v else R j) ∧ (if k = j then v else R j) < 4294967296
  split
  · exact ⟨h0, h1⟩
  · exact h j hj
theorem pick8 {R : Nat → Int} {n : Int} (h0 : 0 ≤ n) (h1 : n ≤ 7) : pickI [R 0, R 1, R 2, R 3, R 4, R 5, R 6, R 7] n = R n.toNat := by
  obtain ⟨k, rfl⟩ := Int.eq_ofNat_of_zero_le h0
  have : k < 8 := by omega
  unfold pickI
  rw [Int.toNat_natCast]
  match k, this with
  | 0, _ | 1, _ | 2, _ | 3, _ | 4, _ | 5, _ | 6, _ | 7, _ => rfl
section
variable {W : Base} {B : List (Option (List At))} {Rs : List (Option Row)}
theorem repI {ρ : Env} {x : Int} {k : IntKind} {v : Value} (h : (SV.cv (.one (.v (.int k x)))).rep ρ v) : v = .int k x := by
  simp only [SV.rep, Cv.den, At.den] at h
  injection h with h; exact h.symm
theorem repS {ρ : Env} {s : ByteArray} {v : Value} (h : (strV s).rep ρ v) : v = .string s := by
  simp only [SV.rep, Cv.den, At.den] at h
  injection h with h; exact h.symm
theorem repIns {ρ : Env} {o a b i : Int} {v : Value} (h : (insS o a b i).rep ρ v) : v = insV o a b i := by
  simp only [SV.rep, Cv.den, dens, At.den] at h
  injection h with h; exact h.symm
theorem args1 {ρ : Env} {x : SV} {u : Value} (hx : ∀ v, x.rep ρ v → v = u) : ∀ {vs : List Value}, reps ρ [x] vs → vs = [u]
  | [v], h => by rw [hx v h.1]
theorem args2 {ρ : Env} {x y : SV} {u w : Value} (hx : ∀ v, x.rep ρ v → v = u) (hy : ∀ v, y.rep ρ v → v = w) : ∀ {vs : List Value}, reps ρ [x, y] vs → vs = [u, w]
  | [v, v'], h => by rw [hx v h.1, hy v' h.2.1]
theorem args3 {ρ : Env} {x y z : SV} {u w t : Value} (hx : ∀ v, x.rep ρ v → v = u) (hy : ∀ v, y.rep ρ v → v = w) (hz : ∀ v, z.rep ρ v → v = t) : ∀ {vs : List Value}, reps ρ [x, y, z] vs → vs = [u, w, t]
  | [v, v', v''], h => by rw [hx v h.1, hy v' h.2.1, hz v'' h.2.2.1]
theorem mayC (hU : UB W) {o a b i : Int} : CallOk Tryd.prog W B Rs 20 [insS o a b i] (hdB (rMay o a b i)) :=
  callOkOf Tryd.func20 (by kernel_rfl) rfl [insV o a b i] (.bool (rMay o a b i)) (fun ρ vs h => args1 (fun v hv => repIns hv) h) (fun ρ => rfl) fun w hk => by
    have := may_any o a b i w (hU.at_ hk)
    rw [may_eq] at this
    exact this
theorem rMayC {o a b i : Int} : CallOk Tryd.prog W B Rs 23 [insS o a b i] (hdB (rMay o a b i)) :=
  callOkOf Tryd.func23 (by kernel_rfl) rfl [insV o a b i] (.bool (rMay o a b i)) (fun ρ vs h => args1 (fun v hv => repIns hv) h) (fun ρ => rfl) fun w hk => rMay_any o a b i w
theorem takeYes (hU : UB W) {n : Int} (h0 : 0 ≤ n) (h1 : n < 4294967296) (hm : tMay n = true) : CallOk Tryd.prog W B Rs 27 [u32V n] (hdT [.agg (insC (tO n) (tA n) (tB n) (tI n)), .one (aI 0)]) :=
  callOkOf Tryd.func27 (by kernel_rfl) rfl [.int .u32 n] (.tuple #[tIns n, .int .i64 0]) (fun ρ vs h => args1 (fun v hv => repI hv) h) (fun ρ => ⟨_, rfl, rfl⟩) fun w hk => take_yes n w (hU.at_ hk) h0 h1 hm
theorem takeNo (hU : UB W) {n : Int} (h0 : 0 ≤ n) (h1 : n < 4294967296) (hm : tMay n = false) : CallOk Tryd.prog W B Rs 27 [u32V n] (hdT [.agg (insC 0 0 0 0), .one (aI 11)]) :=
  callOkOf Tryd.func27 (by kernel_rfl) rfl [.int .u32 n] (.tuple #[insV 0 0 0 0, .int .i64 11]) (fun ρ vs h => args1 (fun v hv => repI hv) h) (fun ρ => ⟨_, rfl, rfl⟩) fun w hk => take_no n w (hU.at_ hk) h0 h1 hm
theorem rTakeYes {n : Int} (h0 : 0 ≤ n) (h1 : n < 4294967296) (hm : tMay n = true) : CallOk Tryd.prog W B Rs 30 [u32V n] (hdT [.agg (insC (tO n) (tA n) (tB n) (tI n)), .one (aI 0)]) :=
  callOkOf Tryd.func30 (by kernel_rfl) rfl [.int .u32 n] (.tuple #[tIns n, .int .i64 0]) (fun ρ vs h => args1 (fun v hv => repI hv) h) (fun ρ => ⟨_, rfl, rfl⟩) fun w hk => rTake_yes n w h0 h1 hm
theorem rTakeNo {n : Int} (h0 : 0 ≤ n) (h1 : n < 4294967296) (hm : tMay n = false) : CallOk Tryd.prog W B Rs 30 [u32V n] (hdT [.agg (insC 0 0 0 0), .one (aI 11)]) :=
  callOkOf Tryd.func30 (by kernel_rfl) rfl [.int .u32 n] (.tuple #[insV 0 0 0 0, .int .i64 11]) (fun ρ vs h => args1 (fun v hv => repI hv) h) (fun ρ => ⟨_, rfl, rfl⟩) fun w hk => rTake_no n w h0 h1 hm
theorem recC {o a b x y i : Int} (o0 : 1 ≤ o) (o1 : o ≤ 13) (a0 : 0 ≤ a) (a1 : a < 4294967296) (b0 : 0 ≤ b) (b1 : b < 4294967296) : CallOk Tryd.prog W B Rs 22 [insS o x y i, u32V a, u32V b] (hdU (recN o a b i)) :=
  callOkOf Tryd.func22 (by kernel_rfl) rfl [insV o x y i, .int .u32 a, .int .u32 b] (.int .u32 (recN o a b i)) (fun ρ vs h => args3 (fun v hv => repIns hv) (fun v hv => repI hv) (fun v hv => repI hv) h) (fun ρ => rfl) fun w hk => rec_any o a b x y i w o0 o1 a0 a1 b0 b1
/-- Memories. -/
def loadN (m : ByteArray) (a : Int) : Int := if standsB m a = true then wordV m a.toNat else 0
def loadE (m : ByteArray) (a : Int) : Int := if standsB m a = true then 0 else 10
def storeM (m : ByteArray) (a v : Int) : ByteArray := if standsB m a = true then splB m a.toNat (wordB v) else m
def byteN (m : ByteArray) (a : Int) : Int := if a < m.size then byteV m a.toNat else 0
def byteE (m : ByteArray) (a : Int) : Int := if a < m.size then 0 else 10
def putM (m : ByteArray) (a v : Int) : ByteArray := if a < m.size then splB m a.toNat ⟨#[byteI v]⟩ else m
abbrev sArgs2 {ρ : Env} {m : ByteArray} {a : Int} {vs : List Value} (h : reps ρ [strV m, u32V a] vs) : vs = [.string m, .int .u32 a] := args2 (fun v hv => repS hv) (fun v hv => repI hv) h
abbrev sArgs3 {ρ : Env} {m : ByteArray} {a b : Int} {vs : List Value} (h : reps ρ [strV m, u32V a, u32V b] vs) : vs = [.string m, .int .u32 a, .int .u32 b] := args3 (fun v hv => repS hv) (fun v hv => repI hv) (fun v hv => repI hv) h
theorem below_of {w : World} {f : FuncId} {args : Array Value} {v : Value} (h : Calls Tryd.prog f args w fun e w' => e = .returned v ∧ w = w') : Calls Tryd.prog f args w fun e w' => e = .returned v ∧ Below w.heap.size w w' :=
  Calls.mono h fun e w' ⟨he, hw⟩ => ⟨he, by subst hw; exact Below.refl _ _⟩
theorem stands_nat {m : ByteArray} {a : Nat} (h : standsB m (a : Int) = true) : a % 4 = 0 ∧ a + 4 ≤ m.size := by
  unfold standsB at h
  have := of_decide_eq_true h
  omega
theorem loadC {m : ByteArray} {a : Int} (h0 : 0 ≤ a) (h1 : a < 4294967296) (hm : m.size ≤ 140737488351232) : CallOk Tryd.prog W B Rs 26 [strV m, u32V a] (hdT [.one (aU (loadN m a)), .one (aI (loadE m a))]) :=
  callOkOf Tryd.func26 (by kernel_rfl) rfl [.string m, .int .u32 a] (.tuple #[.int .u32 (loadN m a), .int .i64 (loadE m a)]) (fun ρ vs h => sArgs2 h) (fun ρ => ⟨_, rfl, rfl⟩) fun w hk => by
    obtain ⟨k, rfl⟩ := Int.eq_ofNat_of_zero_le h0
    unfold loadN loadE
    by_cases hs : standsB m k = true
    · rw [if_pos hs, if_pos hs]
      obtain ⟨g1, g2⟩ := stands_nat hs
      exact load_yes m k w h1 hm g1 g2
    · rw [if_neg hs, if_neg hs]
      exact below_of (load_no m k w h0 h1 hm (Bool.eq_false_iff.2 hs))
theorem rLoadC {m : ByteArray} {a : Int} (h0 : 0 ≤ a) (h1 : a < 4294967296) (hm : m.size ≤ 140737488351232) : CallOk Tryd.prog W B Rs 29 [strV m, u32V a] (hdT [.one (aU (loadN m a)), .one (aI (loadE m a))]) :=
  callOkOf Tryd.func29 (by kernel_rfl) rfl [.string m, .int .u32 a] (.tuple #[.int .u32 (loadN m a), .int .i64 (loadE m a)]) (fun ρ vs h => sArgs2 h) (fun ρ => ⟨_, rfl, rfl⟩) fun w hk => by
    obtain ⟨k, rfl⟩ := Int.eq_ofNat_of_zero_le h0
    unfold loadN loadE
    by_cases hs : standsB m k = true
    · rw [if_pos hs, if_pos hs]
      obtain ⟨g1, g2⟩ := stands_nat hs
      exact rLoad_yes m k w h1 hm g1 g2
    · rw [if_neg hs, if_neg hs]
      exact below_of (rLoad_no m k w h0 h1 hm (Bool.eq_false_iff.2 hs))
theorem storeC {m : ByteArray} {a v : Int} (h0 : 0 ≤ a) (h1 : a < 4294967296) (v0 : 0 ≤ v) (v1 : v < 4294967296) (hm : m.size ≤ 140737488351232) : CallOk Tryd.prog W B Rs 43 [strV m, u32V a, u32V v] (hdT [.one (.v (.string (storeM m a v))), .one (aI (loadE m a))]) :=
  callOkOf Tryd.func43 (by kernel_rfl) rfl [.string m, .int .u32 a, .int .u32 v] (.tuple #[.string (storeM m a v), .int .i64 (loadE m a)]) (fun ρ vs h => sArgs3 h) (fun ρ => ⟨_, rfl, rfl⟩) fun w hk => by
    obtain ⟨k, rfl⟩ := Int.eq_ofNat_of_zero_le h0
    unfold storeM loadE
    by_cases hs : standsB m k = true
    · rw [if_pos hs, if_pos hs]
      obtain ⟨g1, g2⟩ := stands_nat hs
      exact store_yes m k v w h1 v0 v1 hm g1 g2
    · rw [if_neg hs, if_neg hs]
      exact below_of (store_no m k v w h0 h1 hm (Bool.eq_false_iff.2 hs))
theorem rStoreC {m : ByteArray} {a v : Int} (h0 : 0 ≤ a) (h1 : a < 4294967296) (v0 : 0 ≤ v) (v1 : v < 4294967296) (hm : m.size < 4294967296) : CallOk Tryd.prog W B Rs 31 [strV m, u32V a, u32V v] (hdT [.one (.v (.string (storeM m a v))), .one (aI (loadE m a))]) :=
  callOkOf Tryd.func31 (by kernel_rfl) rfl [.string m, .int .u32 a, .int .u32 v] (.tuple #[.string (storeM m a v), .int .i64 (loadE m a)]) (fun ρ vs h => sArgs3 h) (fun ρ => ⟨_, rfl, rfl⟩) fun w hk => by
    obtain ⟨k, rfl⟩ := Int.eq_ofNat_of_zero_le h0
    unfold storeM loadE
    by_cases hs : standsB m k = true
    · rw [if_pos hs, if_pos hs]
      obtain ⟨g1, g2⟩ := stands_nat hs
      exact rStore_yes m k v w h1 v0 v1 hm g1 g2
    · rw [if_neg hs, if_neg hs]
      exact below_of (rStore_no m k v w h0 h1 (by omega) (Bool.eq_false_iff.2 hs))
theorem byteC {m : ByteArray} {a : Int} (h0 : 0 ≤ a) (h1 : a < 4294967296) (hm : m.size ≤ 140737488351232) : CallOk Tryd.prog W B Rs 42 [strV m, u32V a] (hdT [.one (aU (byteN m a)), .one (aI (byteE m a))]) :=
  callOkOf Tryd.func42 (by kernel_rfl) rfl [.string m, .int .u32 a] (.tuple #[.int .u32 (byteN m a), .int .i64 (byteE m a)]) (fun ρ vs h => sArgs2 h) (fun ρ => ⟨_, rfl, rfl⟩) fun w hk => by
    obtain ⟨k, rfl⟩ := Int.eq_ofNat_of_zero_le h0
    have := byte_any m k w h1 hm
    unfold byteN byteE
    by_cases hs : k < m.size
    · rw [if_pos (by omega), if_pos (by omega)]; rw [if_pos hs] at this; exact below_of this
    · rw [if_neg (by omega), if_neg (by omega)]; rw [if_neg hs] at this; exact below_of this
theorem rByteC {m : ByteArray} {a : Int} (h0 : 0 ≤ a) (h1 : a < 4294967296) (hm : m.size ≤ 140737488351232) : CallOk Tryd.prog W B Rs 32 [strV m, u32V a] (hdT [.one (aU (byteN m a)), .one (aI (byteE m a))]) :=
  callOkOf Tryd.func32 (by kernel_rfl) rfl [.string m, .int .u32 a] (.tuple #[.int .u32 (byteN m a), .int .i64 (byteE m a)]) (fun ρ vs h => sArgs2 h) (fun ρ => ⟨_, rfl, rfl⟩) fun w hk => by
    obtain ⟨k, rfl⟩ := Int.eq_ofNat_of_zero_le h0
    have := rByte_any m k w h1 hm
    unfold byteN byteE
    by_cases hs : k < m.size
    · rw [if_pos (by omega), if_pos (by omega)]; rw [if_pos hs] at this; exact below_of this
    · rw [if_neg (by omega), if_neg (by omega)]; rw [if_neg hs] at this; exact below_of this
theorem putC {m : ByteArray} {a v : Int} (h0 : 0 ≤ a) (h1 : a < 4294967296) (v0 : 0 ≤ v) (v1 : v < 4294967296) (hm : m.size ≤ 140737488351232) : CallOk Tryd.prog W B Rs 44 [strV m, u32V a, u32V v] (hdT [.one (.v (.string (putM m a v))), .one (aI (byteE m a))]) :=
  callOkOf Tryd.func44 (by kernel_rfl) rfl [.string m, .int .u32 a, .int .u32 v] (.tuple #[.string (putM m a v), .int .i64 (byteE m a)]) (fun ρ vs h => sArgs3 h) (fun ρ => ⟨_, rfl, rfl⟩) fun w hk => by
    obtain ⟨k, rfl⟩ := Int.eq_ofNat_of_zero_le h0
    have := put_any m k v w h1 v0 v1 hm
    unfold putM byteE
    by_cases hs : k < m.size
    · rw [if_pos (by omega), if_pos (by omega)]; rw [if_pos hs] at this; exact this
    · rw [if_neg (by omega), if_neg (by omega)]; rw [if_neg hs] at this; exact this
theorem rPutC {m : ByteArray} {a v : Int} (h0 : 0 ≤ a) (h1 : a < 4294967296) (v0 : 0 ≤ v) (v1 : v < 4294967296) (hm : m.size < 4294967296) : CallOk Tryd.prog W B Rs 33 [strV m, u32V a, u32V v] (hdT [.one (.v (.string (putM m a v))), .one (aI (byteE m a))]) :=
  callOkOf Tryd.func33 (by kernel_rfl) rfl [.string m, .int .u32 a, .int .u32 v] (.tuple #[.string (putM m a v), .int .i64 (byteE m a)]) (fun ρ vs h => sArgs3 h) (fun ρ => ⟨_, rfl, rfl⟩) fun w hk => by
    obtain ⟨k, rfl⟩ := Int.eq_ofNat_of_zero_le h0
    have := rPut_any m k v w h1 v0 v1 hm
    unfold putM byteE
    by_cases hs : k < m.size
    · rw [if_pos (by omega), if_pos (by omega)]; rw [if_pos hs] at this; exact this
    · rw [if_neg (by omega), if_neg (by omega)]; rw [if_neg hs] at this; exact this
end
end Go.Proofs.YtcdoofjddhlodaaDoor
