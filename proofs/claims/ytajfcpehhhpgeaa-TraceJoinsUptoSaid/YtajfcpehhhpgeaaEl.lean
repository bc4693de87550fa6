/- Events. -/
import Derived.Test.YtajfcpehhhpgeaaSxY
import Derived.Test.YtajfcpehhhpgeaaSxT
namespace Go.Proofs.Ytajfcpehhhpgeaa
open Go.Sx Go.RowKit
theorem mx : Try.prog.follows .mixedOrders = true := Try.checked.mixed
structure E where
  pid : Int
  n : Int
  r : Int
  at_ : Int
deriving DecidableEq
abbrev eC (x : E) : List At := [.v (.int .i64 x.pid), .v (.int .u32 x.n), .v (.int .u32 x.r), .v (.int .u64 x.at_)]
def eG (x : E) : List Value := [.int .i64 x.pid, .int .u32 x.n, .int .u32 x.r, .int .u64 x.at_]
abbrev e0 : E := ⟨0, 0, 0, 0⟩
theorem eDen (ρ : Env) (x : E) : dens ρ (eC x) = some (eG x) := rfl
abbrev eV (x : E) : SV := .cv (.agg (eC x))
abbrev rowE (L : List E) : Row := rowL 4 eC e0 L
abbrev newE (L : List E) : Row := rowN 4 eC e0 L 40
abbrev rsV (r : Nat) : SV := .cv (.one (.rs r))
abbrev bpV (i : Nat) : SV := .cv (.one (.pt (.bp i 0)))
abbrev trueV : SV := .cv (.one (.lb true))
abbrev intV (x : Int) : SV := .cv (.one (.v (.int .i64 x)))
abbrev u64V (x : Int) : SV := .cv (.one (.v (.int .u64 x)))
abbrev u32V (x : Int) : SV := .cv (.one (.v (.int .u32 x)))
abbrev hdB (b : Bool) : Hd := mkHd (.cv (.one (.lb b))) []
abbrev hdV (b : Bool) : Hd := mkHd (.cv (.one (.v (.bool b)))) []
abbrev hdInt (n : Int) : Hd := mkHd (intV n) []
abbrev hdU (n : Int) : Hd := mkHd (u64V n) []
abbrev hdE (L : List E) : Hd := mkHd (rsV 0) [newE L]
theorem elist_eq {L M : List E} (h : L.length = M.length) (hg : ∀ j, j < L.length → L.getD j e0 = M.getD j e0) : L = M := by
  apply List.ext_getElem h
  intro j h1 h2
  have := hg j h1
  simpa [List.getD_eq_getElem?_getD, h1, h2] using this
theorem getD_mem {L : List E} {k : Nat} (hk : k < L.length) : L.getD k e0 = L[k] := by simp [List.getD_eq_getElem?_getD, hk]
theorem upto_succ {A : Nat → Prop} {k : Nat} (h : ∀ j, j < k → A j) (hk : A k) : ∀ j, j < k + 1 → A j := fun j hj => by
  rcases Nat.lt_or_ge j k with h' | h'
  · exact h j h'
  · rw [show j = k by omega]; exact hk
theorem take_snoc {L : List E} {k : Nat} (h : k < L.length) : L.take (k + 1) = L.take k ++ [L.getD k e0] := by
  rw [List.take_succ_eq_append_getElem h, getD_mem h]
def eqB (x y : E) : Bool := (x.pid == y.pid && (x.n == y.n && (x.r == y.r && x.at_ == y.at_)))
theorem eqB_refl (x : E) : eqB x x = true := by simp [eqB]
def ofP (pid : Int) (x : E) : Bool := x.pid == pid
def ltP (t : Int) (x : E) : Bool := decide (x.at_ < t)
def asP (n : Int) (x : E) : Bool := x.n == n
end Go.Proofs.Ytajfcpehhhpgeaa
