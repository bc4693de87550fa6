/- Plans that come in. -/
import Derived.Test.YtlbldfdkicofdaaPlP
namespace Go.Proofs.Ytlbldfdkicofdaa
open Go.Sx Go.RowKit
set_option linter.unusedVariables false
set_option linter.unusedSimpArgs false
/-- A plan that came in. -/
structure PlanIn (w : World) (va vb vc : Value) (P : List Pa) (S : List RW) (C : List Ch) : Prop where
  a : ∀ W ρ, RowOk W ρ w va (rowPa P)
  b : ∀ W ρ, (∀ c sz len cells, InnOk ⟨w, none, [], []⟩ c sz len cells → ρ.ι c sz len cells) → RowOk W ρ w vb (rowWs S)
  c : ∀ W ρ, RowOk W ρ w vc (rowCh C)
  s : okS S
  l : S.length ≤ 9223372036854775807
theorem PlanIn.forms {w : World} {va vb vc : Value} {P : List Pa} {S : List RW} {C : List Ch} (h : PlanIn w va vb vc P S C) :
    (∃ A n c, va = .slice A n c) ∧ (∃ A n c, vb = .slice A n c) ∧ (∃ A n c, vc = .slice A n c) := by
  obtain ⟨A, cap, h1, _⟩ := (h.a ⟨w, none, [], []⟩ ⟨fun _ => none, fun _ => none, fun _ _ _ _ => False⟩).form
  obtain ⟨B, cap', h2, _⟩ := (h.b ⟨w, none, [], []⟩ ⟨fun _ => none, fun _ => none, fun c sz len cells => InnOk ⟨w, none, [], []⟩ c sz len cells⟩ (fun _ _ _ _ h => h)).form
  obtain ⟨C, cap'', h3, _⟩ := (h.c ⟨w, none, [], []⟩ ⟨fun _ => none, fun _ => none, fun _ _ _ _ => False⟩).form
  exact ⟨⟨_, _, _, h1⟩, ⟨_, _, _, h2⟩, ⟨_, _, _, h3⟩⟩
theorem PlanIn.top {w : World} {va vb vc : Value} {P : List Pa} {S : List RW} {C : List Ch} (h : PlanIn w va vb vc P S C) : TopRows w [va, vb, vc] [rowPa P, rowWs S, rowCh C] :=
  .cons h.a rfl (.consI h.b rfl (.cons h.c rfl .nil))
end Go.Proofs.Ytlbldfdkicofdaa
