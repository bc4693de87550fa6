/- PortTakes, walked. -/
import Derived.Test.YtecpnblhhjndgaaPorI
import Derived.Test.YtecpnblhhjndgaaPorJ
import Derived.Test.YtecpnblhhjndgaaPorK
namespace Go.Proofs.Ytecpnblhhjndgaa
open Go.RowKit
set_option linter.unusedVariables false
theorem takes_walk (k f t s d : Int) (v : Value) (l : Int) (L : List Msg) (w : World) (h : RowM w v L) (hm : L.length ≤ 5864062014700) :
    Calls Try.prog 8 #[chanV k f t s d, boxV v l] w fun e w' => e = .returned (.bool true) ∧ Below w.heap.size w w' := by
  rcases Nat.eq_zero_or_pos L.length with h0 | h0
  · have e := List.eq_nil_of_length_eq_zero h0
    subst e
    exact takes_none k f t s d v l w h
  · obtain ⟨x, hx⟩ : ∃ x, L[0]? = some x := ⟨_, List.getElem?_eq_getElem h0⟩
    by_cases hk : k = 1
    · exact takes_sample k f t s d v l L w h hm x hx (by simpa using hk)
    · rcases Sl.open_ h with ⟨h1, _⟩ | ⟨_, b, o, cap, rfl, hnc, hcm, hlt, hcell⟩
      · omega
      by_cases hc : cap = 1
      · subst hc
        exact takes_one k f t s d _ l L w h hm x hx (by simpa using hk) _ rfl
      · exact takes_more k f t s d _ l L w h hm x hx (by simpa using hk) b o cap rfl hc hnc
end Go.Proofs.Ytecpnblhhjndgaa
