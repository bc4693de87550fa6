/- Images. -/
import Derived.Test.YtmifdcanokpkiaaSxAA
import Derived.Test.YtmifdcanokpkiaaSxT
namespace Go.Proofs.Ytmifdcanokpkiaa
open Go.Sx Go.RowKit
set_option linter.unusedVariables false
set_option linter.unusedSimpArgs false
theorem mx : Try.prog.follows .mixedOrders = true := Try.checked.mixed
abbrev aI (x : Int) : At := .v (.int .i64 x)
abbrev aS (x : ByteArray) : At := .v (.string x)
abbrev sC (x : ByteArray) : List At := [aS x]
abbrev sG (x : ByteArray) : List Value := [.string x]
abbrev s0 : ByteArray := ⟨#[]⟩
theorem sDen (ρ : Env) (x : ByteArray) : dens ρ (sC x) = some (sG x) := rfl
abbrev RS := RV ByteArray
abbrev rs0 : RS := ⟨.slice none 0 0, []⟩
abbrev rsA (r : RS) : At := .ro r.c 1 r.L.length (fun i => sG (r.L.getD i s0))
abbrev roV (r : RS) : SV := .cv (.one (rsA r))
abbrev rowSs (L : List RS) : Row := rowL 1 (fun r => [rsA r]) rs0 L
abbrev bC (x : UInt8) : List At := [.v (.int .u8 (x.toNat : Int))]
abbrev rowBy (l : List UInt8) : Row := rowN 1 bC 0 l 5
abbrev rsV (r : Nat) : SV := .cv (.one (.rs r))
abbrev strV (x : ByteArray) : SV := .cv (.one (aS x))
abbrev intV (x : Int) : SV := .cv (.one (aI x))
abbrev hdT (l : List Cv) : Hd := mkHd (.tup l) []
abbrev hdB (b : Bool) : Hd := mkHd (.cv (.one (.lb b))) []
abbrev hdV (b : Bool) : Hd := mkHd (.cv (.one (.v (.bool b)))) []
/-- Why images are refused; their bytes. -/
def badR (r : RS) : Bool := decide (r.L.length > 8) || r.L.any (fun x => decide (x.size > 64))
def pkE (S : List RS) : Int := if S.length > 4 ∨ S.any badR = true then 4 else 0
def imL (x : ByteArray) : List UInt8 := UInt8.ofNat x.size :: x.data.toList
def roL (L : List ByteArray) : List UInt8 := UInt8.ofNat L.length :: L.flatMap imL
def pkL (S : List RS) : List UInt8 := UInt8.ofNat S.length :: S.flatMap (fun r => roL r.L)
def pkB (S : List RS) : ByteArray := ⟨(pkL S).toArray⟩
theorem toNat_small {n : Nat} (h : n < 256) : (UInt8.ofNat n).toNat = n := by simp [Nat.mod_eq_of_lt h]
theorem len_size (s : ByteArray) : s.data.toList.length = s.size := Array.length_toList
theorem upto_succ {A : Nat → Prop} {k : Nat} (h : ∀ j, j < k → A j) (hk : A k) : ∀ j, j < k + 1 → A j := fun j hj => by
  rcases Nat.lt_or_ge j k with h' | h'
  · exact h j h'
  · rw [show j = k by omega]; exact hk
theorem getD_mem' {α : Type} {L : List α} {k : Nat} {d : α} (h : k < L.length) : L.getD k d ∈ L := by
  simp [List.getD_eq_getElem?_getD, List.getElem?_eq_getElem h]
theorem flat_succ {α β : Type} {L : List α} {k : Nat} {d : α} {g : α → List β} (h : k < L.length) : (L.take (k + 1)).flatMap g = (L.take k).flatMap g ++ g (L.getD k d) := by
  rw [take_snoc (d := d) h]; simp [- List.getD_eq_getElem?_getD]
theorem rowApps {l m : List UInt8} {str : ByteArray} {len n : Nat} {cells c : Nat → List At} {e : TypeId} {tg : Bool} (hM : m = l ++ str.data.toList) (hn : n = l.length) (hlen : len = n + str.size) (hc : ∀ i, i < n → cells i = bC (l.getD i 0))
    (hx : ∀ i, ¬ i < n → cells i = bC (str.data.toList.getD (i - n) 0)) (hg : ∀ i, c i = bC (m.getD i 0)) : RowLe ⟨1, len, cells, some e, tg, true⟩ ⟨1, m.length, c, some e, false, true⟩ := by
  subst hM hn
  have hsz : str.size = str.data.toList.length := by rw [Array.length_toList]; rfl
  refine ⟨rfl, by simp only [List.length_append, hlen, hsz], .inr rfl, (fun h => by cases h), (fun _ => rfl), fun i hi => ?_⟩
  dsimp only at hi ⊢
  rw [hg]
  by_cases h : i < l.length
  · rw [hc i h]; simp only [List.getD_eq_getElem?_getD, List.getElem?_append_left h]
  · rw [hx i h]; simp only [List.getD_eq_getElem?_getD, List.getElem?_append_right (Nat.le_of_not_lt h)]
theorem snoc_at {l : List UInt8} {x : UInt8} {cells : Nat → List At} (hc : ∀ i, i < l.length → cells i = bC (l.getD i 0)) (hx : cells l.length = bC x) : ∀ i, i < (l ++ [x]).length → cells i = bC ((l ++ [x]).getD i 0) := fun i hi =>
  ((RowLe.snoc (f := bC) (d := 0) (L := l) (M := l ++ [x]) (x := x) (sz := 1) (len := l.length + 1) (cells := cells) (c := fun i => bC ((l ++ [x]).getD i 0)) (e := 0) (tg := false) rfl rfl hc hx (fun _ => rfl)).cells i (by simpa using hi)).symm
theorem snoc_ite {l : List UInt8} {x : UInt8} {c : Nat → List At} {i : Nat} (hi : i < l.length + 1) (hx : c 0 = bC x) : (if i < l.length then bC (l.getD i 0) else c (i - l.length)) = bC ((l ++ [x]).getD i 0) := by
  by_cases h : i < l.length
  · rw [if_pos h]; simp only [List.getD_eq_getElem?_getD, List.getElem?_append_left h]
  · obtain rfl : i = l.length := by omega
    rw [if_neg h, Nat.sub_self, hx]; simp
theorem bC_of {n : Nat} (h : n < 256) : bC (UInt8.ofNat n) = [.v (.int .u8 (n : Int))] := by rw [bC, toNat_small h]
end Go.Proofs.Ytmifdcanokpkiaa
