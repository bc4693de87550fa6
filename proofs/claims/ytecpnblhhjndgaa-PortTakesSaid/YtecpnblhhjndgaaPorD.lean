/- Take. -/
import Derived.Test.YtecpnblhhjndgaaPorD1
import Derived.Test.YtecpnblhhjndgaaPorD2
import Derived.Test.YtecpnblhhjndgaaPorD3
import Derived.Test.YtecpnblhhjndgaaPorD4
namespace Go.Proofs.Ytecpnblhhjndgaa
open Go.RowKit
set_option linter.unusedVariables false

theorem take_queue (k f t s d l : Int) (v : Value) (x : Msg) (L : List Msg) (w : World) (h : RowM w v L) (hm : L.length ≤ 5864062014805) (hx : L[0]? = some x) (hk : (k == 1) = false) :
    Calls Try.prog 13 #[chanV k f t s d, boxV v l] w (RetTake L.tail l x 0 w.heap.size w) := by
  have hl0 : 0 < L.length := (List.getElem?_eq_some_iff.1 hx).1
  rcases Sl.open_ h with ⟨h0, _⟩ | ⟨_, b, o, cap, rfl, hnc, hcm, hlt, hcell⟩
  · omega
  by_cases hc : cap = 1
  · subst hc
    exact take_queue_one k f t s d l _ x L w h hm hx hk _ rfl
  · exact take_queue_more k f t s d l _ x L w h hm hx hk b o cap rfl hc hnc
end Go.Proofs.Ytecpnblhhjndgaa
