/- Tables: the example; statements. -/
import Derived.Test.YthdpigdbkljiiaaTbB
import Derived.Test.YthdpigdbkljiiaaSxR
namespace Go.Proofs.Ythdpigdbkljiiaa
open Go.Sx Go.RowKit
set_option linter.unusedVariables false
set_option linter.unusedSimpArgs false
theorem nil_row {x : SV} {ρ ρ3 : Env} {vs : List Value} (h : reps ρ [.cv (.one (.v (.slice none 0 0))), x] vs) (h3 : ρ3.σ 0 = some (.slice none 0 0)) (hx : ∀ ρ ρ' v, x.rep ρ v → x.rep ρ' v) : reps ρ3 [rsV 0, x] vs := by
  match vs, h with
  | [v, u], ⟨h1, h2, _⟩ =>
    refine ⟨?_, hx _ _ _ h2, trivial⟩
    simp only [SV.rep, Cv.den, At.den, h3] at h1 ⊢
    exact h1
theorem reps2 {ρ : Env} {x y y' : SV} {vs : List Value} (h : reps ρ [x, y] vs) (hy : ∀ v, y.rep ρ v → y'.rep ρ v) : reps ρ [x, y'] vs := by
  match vs, h with
  | [v, u], ⟨h1, h2, _⟩ => exact ⟨h1, hy _ h2, trivial⟩
theorem rep_agg {ρ : Env} {l m : List At} (e : dens ρ l = dens ρ m) : ∀ v, (SV.cv (.agg l)).rep ρ v → (SV.cv (.agg m)).rep ρ v := by
  intro v h
  simp only [SV.rep, Cv.den, e] at h ⊢
  exact h
abbrev pE (n : Int) : E := { e0 with pid := n }
section
variable {W : Base} {B : List (Option (List At))} {Rs : List (Option Row)} {r : Nat} {R : Row} {L : List E}
theorem putM {a : E} {M : List E} (hr : Rs[r]? = some (some R)) (hR : RowLe R (rowE L)) (hl : L.length ≤ 837723144960) (hM : putE a L = M) : CallOk Try.prog W B Rs 17 [rsV r, eV a] (hdE M) := by subst hM; exact putT hr hR hl
theorem nextM {n : Int} (hr : Rs[r]? = some (some R)) (hR : RowLe R (rowE L)) (hl : L.length ≤ 837723144960) (hM : IntKind.i64.wrap (most L L.length + 1) = n) : CallOk Try.prog W B Rs 26 [rsV r] (hdInt n) := by subst hM; exact nextT hr hR hl
set_option maxRecDepth 100000 in
theorem shownE : CallOk Try.prog W B Rs 11 [] (hdB true) := by
  refine CallOk.enter Try.func11 (by kernel_rfl) rfl [] [] [] rfl rows0 (fun r h => by cases h) rfl rfl ?_
  intro w blk hblk
  refine SG.walk tab_ok mx 400 [true, true, true] [hdE [pE 2], hdE [pE 1, pE 2], hdInt 3] ?_
  conv => whnf
  try dsimp only [rowL, rowN, growOk, hiN, fromL, tightN, maxOk]
  try simp (disch := omega) only [wI, wU64, wU32, wU8, Int.toNat_natCast, toNat_succ, toNat_pred, Int.reduceToNat, Option.getD_some, Option.getD_none, Nat.sub_zero, Nat.zero_add]
  refine ⟨?_, ?_⟩
  · exact ⟨nextM (r := 1) (L := [pE 1, pE 2]) rfl (.of rfl rfl (fun _ _ => rfl)) (by decide) (by show IntKind.i64.wrap (2 + 1) = 3; rw [wI' (by decide) (by decide)]; rfl), by decide, ⟨by decide, by decide⟩, ⟨by decide, by decide⟩, by decide, ⟨by decide, by decide⟩, ⟨by decide, by decide⟩, by decide,
      (putM (r := 0) (L := [pE 2]) (a := pE 1) (M := [pE 1, pE 2]) rfl (.of rfl rfl (fun _ _ => rfl)) (by decide) (by decide)).args (fun ρ vs h => reps2 h (rep_agg (m := eC (pE 1)) rfl)),
      CallOk.of_nil 26 [rsV 0, eV (pE 2)] (putM (r := 0) (L := []) (a := pE 2) (M := [pE 2]) rfl (.of rfl rfl (fun _ h => by cases h)) (by decide) (by decide)) (fun ρ ρ3 vs h h3 => nil_row (x := eV (pE 2)) (reps2 h (rep_agg (m := eC (pE 2)) rfl)) h3 (fun _ _ _ h => h)) rfl (by simp [closedRow, rowN, At.isV])⟩
  refine SG.lbSlot 0 rfl rfl ?_
  refine SG.norm ?_
  conv => whnf
  refine SG.ret tab_ok Try.func11 rfl ?_
  intro ρ w' v hm hv
  exact Post.mk hm (.cv (.one (.lb true))) [] none [] hv rfl rows0 rfl (by simp)
end
end Go.Proofs.Ythdpigdbkljiiaa
