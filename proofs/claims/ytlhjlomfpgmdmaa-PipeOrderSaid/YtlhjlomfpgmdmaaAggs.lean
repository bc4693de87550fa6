/- Structs of one-cell fields, by value, however many fields. -/
import Derived.Test.YtlhjlomfpgmdmaaFrameU
namespace Go.Proofs.Ytlhjlomfpgmdmaa
open Go.ChangeShapes Go.WideShapes Go.ChangeAt Go.RowKit Go.Joins Go.Deep
set_option linter.unusedVariables false
section
variable {H : Type} {enc : TypeId × Value → H} {P : Program} {w : World} {base : Nat} {spare : Nat → Bool} {held : Bool}

theorem open_aggs {r : Reach} {b0 : Nat} {t : TypeId} {fs : Array Field} {v : Value} {d : DataW H} {p : List MemPlace} (hs : P.underlying t = some (.struct fs)) (hone : oneCellFields P fs = true) (hC : P.cellsOf t = fs.size)
    (hv : Value.okWide P w r b0 t v) (h : DataW.Trod enc P w base spare held t v d p) :
    ∃ (cs : List Value) (ys : List (DataW H × List MemPlace)) (n : Nat), v = .agg cs.toArray ∧ cs.length = fs.size ∧ ys.length = fs.size ∧ d = .agg (ys.map (·.1)) ∧ p = ys.flatMap (·.2) ∧
      ∀ (j : Nat) (f : Field) (c : Value) (y : DataW H × List MemPlace), fs[j]? = some f → cs[j]? = some c → ys[j]? = some y → DataW.trod enc P w base spare held n f.type [c] = some y := by
  obtain ⟨cs, rfl, hsz⟩ := okWide_struct hs hv
  obtain ⟨l⟩ := cs
  obtain ⟨fuel, hf⟩ := h
  obtain ⟨xs, n, _, hx, _, hlen, hg⟩ := DataW.trod_struct hs hf
  simp only [Prod.mk.injEq] at hx
  refine ⟨l, xs, n, rfl, hsz.trans hC, hlen, hx.1, hx.2, fun j f c y hfj hc hy => ?_⟩
  obtain ⟨o, k⟩ := hone_of hone j f hfj
  have h1 := hg j f hfj
  rw [o, k, hy] at h1
  have hl : j < l.length := (List.getElem?_eq_some_iff.1 hc).1
  have he : (l.drop j).take 1 = [c] := by
    rw [List.drop_eq_getElem_cons hl]
    simp only [List.take_succ_cons, List.take_zero]
    rw [List.getElem?_eq_getElem hl] at hc
    injection hc with hc
    rw [hc]
  rw [← he]
  exact h1
end

section
variable {H : Type} {P : Program} {ts : List TypeId} {ds : List (DataW H)}
/-- A struct that is an argument: its fields are within the reach, each. -/
theorem sized_agg (h : (DataW.weightsEach P ts ds).all (· ≤ reachBytes) = true) {j : Nat} {t : TypeId} {fs : Array Field} {xs : List (DataW H)} (ht : ts[j]? = some t) (hd : ds[j]? = some (.agg xs)) (hu : P.underlying t = some (.struct fs)) :
    (DataW.weightsEach P (fs.toList.map (·.type)) xs).all (· ≤ reachBytes) = true := by
  rw [List.all_eq_true]
  intro n hn
  exact List.all_eq_true.1 h n (DataW.weights_mem_each ht hd n (by simp only [DataW.weights, hu]; exact hn))
end
end Go.Proofs.Ytlhjlomfpgmdmaa
