/- Windows: the document's example. -/
import Derived.Test.YtpnfjkkofdlndaaPlH
namespace Go.Proofs.Ytpnfjkkofdlndaa
open Go.Sx Go.RowKit
set_option linter.unusedVariables false
set_option linter.unusedSimpArgs false
theorem shownS {S : List RW} (h : S.map RV.L = [[⟨0, 0, 10⟩]]) : ∃ c, S = [⟨c, [⟨0, 0, 10⟩]⟩] := by
  match S, h with
  | [⟨c, L⟩], h =>
    simp at h
    exact ⟨c, by rw [h]⟩
  | a :: b :: l, h => simp at h
theorem shownOk {c : Value} : okS [⟨c, [⟨0, 0, 10⟩]⟩] := by
  intro r hr w hw
  simp at hr; subst hr
  simp at hw; subst hw
  show (0 : Int) ≤ 9223372036854775807
  omega
section
variable {W : Base} {B : List (Option (List At))} {Rs : List (Option Row)}
/-- The example's plan, in rows of one's own. -/
structure ExAt (Rs : List (Option Row)) : Prop where
  a : ∃ R, Rs[0]? = some (some R) ∧ RowLe R (rowPa [⟨64, 1, 1, 1⟩])
  k : ∃ R, Rs[1]? = some (some R) ∧ RowLe R (rowL 3 wnC wn0 [⟨0, 0, 10⟩])
  b : ∃ R, Rs[2]? = some (some R) ∧ RowLe R ⟨1, 1, fun i => [.rs ([1].getD i 0)], none, false, false⟩
  c : ∃ R, Rs[3]? = some (some R) ∧ RowLe R (rowCh [])
theorem exOwn {f : FuncId} {fn : Func} (hF : Try.prog.funcs[f]? = some fn) (hname : (fn.name == "runtime.NumGoroutine") = false) (hbody : fn.body.isNone = false) (h : ExAt Rs) {l l' : List SV} {res : SV} (hargs : (planV 0 10 1 2 :: l).map (SV.ren [] [0, 2, 3]) = l') (hin : ((planV 0 10 1 2 :: l).all (SV.inn 0 3) && (planV 0 10 1 2 :: l).all SV.noRo) = true) (hres : (res.inn 0 0 && res.noRo) = true)
    (H : ∀ c W', CallOk Try.prog W' [] [some (rowPa [⟨64, 1, 1, 1⟩]), some (rowWs [⟨c, [⟨0, 0, 10⟩]⟩]), some (rowCh [])] f (planV 0 10 1 2 :: l) (mkHd res [])) :
    CallOk Try.prog W B Rs f l' (mkHd res []) := by
  obtain ⟨Ra, ha, hla⟩ := h.a
  obtain ⟨Rk, hk, hlk⟩ := h.k
  obtain ⟨Rb, hb, hlb⟩ := h.b
  obtain ⟨Rc, hc, hlc⟩ := h.c
  refine CallOk.ownRows (f := wnC) (g := wnG) (x0 := wn0) (sz := 3) wnDen (fun _ => rfl) (fun _ => rfl) hF hname hbody ha hla rfl rfl (fun _ _ => rfl) hc hlc rfl rfl (fun _ _ => rfl) [1] [[⟨0, 0, 10⟩]] rfl hb hlb ?_ hargs hin hres ?_
  · intro i hi
    obtain rfl : i = 0 := by simp at hi; exact hi
    exact ⟨Rk, hk, hlk⟩
  · intro S hS W'
    obtain ⟨c, rfl⟩ := shownS hS
    exact H c W'
theorem exAt {t n : Int} (h : ExAt Rs) (ht : 0 ≤ t ∧ t ≤ 18446744073709551615) (hn : ∀ c, cycS [⟨64, 1, 1, 1⟩] 10 [⟨c, [⟨0, 0, 10⟩]⟩] [] 0 (cyN 10 t) = (0, n)) : CallOk Try.prog W B Rs 11 [planV 0 10 2 3, intV 0, u64V t] (mkHd (.tup [.one (aI 0), .one (aI n)]) []) :=
  exOwn Try.func11 (by kernel_rfl) rfl h (l := [intV 0, u64V t]) rfl rfl rfl fun c W' => by
    have := atC (W := W') (B := []) (Rs := [some (rowPa [⟨64, 1, 1, 1⟩]), some (rowWs [⟨c, [⟨0, 0, 10⟩]⟩]), some (rowCh [])]) (F := 10) (i := 0) (thereP (a := 0) (b := 1) (c := 2) rfl rfl rfl) shownOk ht
    rw [hn] at this
    exact this
theorem exFrame (h : ExAt Rs) : CallOk Try.prog W B Rs 15 [planV 0 10 2 3, intV 0, intV 0, intV 10] (hdInt 8) :=
  exOwn Try.func15 (by kernel_rfl) rfl h (l := [intV 0, intV 0, intV 10]) rfl rfl rfl fun c W' => by
    have := frameC (W := W') (B := []) (Rs := [some (rowPa [⟨64, 1, 1, 1⟩]), some (rowWs [⟨c, [⟨0, 0, 10⟩]⟩]), some (rowCh [])]) (F := 10) (i := 0) (part := 0) (n := 10) (thereP (a := 0) (b := 1) (c := 2) rfl rfl rfl) shownOk
    rw [show frS [⟨64, 1, 1, 1⟩] 10 [⟨c, [⟨0, 0, 10⟩]⟩] [] 0 0 10 = 8 from rfl] at this
    exact this
set_option maxHeartbeats 4000000 in
set_option maxRecDepth 100000 in
theorem shownC : CallOk Try.prog W B Rs 10 [] (hdB true) := by
  refine hdB_of ?_ (b := true) rfl
  refine CallOk.enter Try.func10 (by kernel_rfl) rfl [] [] [] rfl rows0 (fun r h => by cases h) rfl rfl ?_
  intro w blk hblk
  refine SG.walk tab_ok mx 15 [] [] ?_
  conv => whnf
  try dsimp only [rowL, rowN, growOk, hiN, fromL, tightN, maxOk]
  try simp (disch := omega) only [wI, wU64, wU32, wU8, Int.toNat_natCast, toNat_succ, toNat_pred, Int.reduceToNat, Option.getD_some, Option.getD_none, Nat.sub_zero, Nat.zero_add]
  refine ⟨?_, ?_⟩
  · trivial
  refine SG.nilBoxAt 0 3 65 5 rfl rfl ?_
  refine SG.norm ?_
  conv => whnf
  refine SG.walk tab_ok mx 400 [true, true, true, true] [mkHd (.tup [.one (aI 0), .one (aI 1)]) [], mkHd (.tup [.one (aI 0), .one (aI 2)]) [], hdInt 8] ?_
  conv => whnf
  try dsimp only [rowL, rowN, growOk, hiN, fromL, tightN, maxOk]
  refine ⟨?_, ?_⟩
  · have ex : ∀ {x y z u : Row}, RowLe x (rowPa [⟨64, 1, 1, 1⟩]) → RowLe y (rowL 3 wnC wn0 [⟨0, 0, 10⟩]) → RowLe z ⟨1, 1, fun i => [.rs ([1].getD i 0)], none, false, false⟩ → RowLe u (rowCh []) → ExAt [some x, some y, some z, some u] := fun h1 h2 h3 h4 => ⟨⟨_, rfl, h1⟩, ⟨_, rfl, h2⟩, ⟨_, rfl, h3⟩, ⟨_, rfl, h4⟩⟩
    have ht : ∀ t : Int, t = 1 ∨ t = 2 → 0 ≤ t ∧ t ≤ 18446744073709551615 := fun t h => by omega
    repeat' apply And.intro
    all_goals first
      | exact exFrame (ex ⟨rfl, rfl, .inl rfl, (fun h => by cases h), (fun h => by cases h), fun i hi => by match i, hi with | 0, _ => rfl⟩ ⟨rfl, rfl, .inl rfl, (fun h => by cases h), (fun h => by cases h), fun i hi => by match i, hi with | 0, _ => rfl⟩ ⟨rfl, rfl, .inl rfl, (fun h => by cases h), (fun h => by cases h), fun i hi => by match i, hi with | 0, _ => rfl⟩ ⟨rfl, rfl, .inl rfl, (fun h => by cases h), (fun h => by cases h), fun i hi => absurd hi (Nat.not_lt_zero i)⟩)
      | exact exAt (t := 1) (ex ⟨rfl, rfl, .inl rfl, (fun h => by cases h), (fun h => by cases h), fun i hi => by match i, hi with | 0, _ => rfl⟩ ⟨rfl, rfl, .inl rfl, (fun h => by cases h), (fun h => by cases h), fun i hi => by match i, hi with | 0, _ => rfl⟩ ⟨rfl, rfl, .inl rfl, (fun h => by cases h), (fun h => by cases h), fun i hi => by match i, hi with | 0, _ => rfl⟩ ⟨rfl, rfl, .inl rfl, (fun h => by cases h), (fun h => by cases h), fun i hi => absurd hi (Nat.not_lt_zero i)⟩) (ht 1 (.inl rfl)) (fun c => rfl)
      | exact exAt (t := 2) (ex ⟨rfl, rfl, .inl rfl, (fun h => by cases h), (fun h => by cases h), fun i hi => by match i, hi with | 0, _ => rfl⟩ ⟨rfl, rfl, .inl rfl, (fun h => by cases h), (fun h => by cases h), fun i hi => by match i, hi with | 0, _ => rfl⟩ ⟨rfl, rfl, .inl rfl, (fun h => by cases h), (fun h => by cases h), fun i hi => by match i, hi with | 0, _ => rfl⟩ ⟨rfl, rfl, .inl rfl, (fun h => by cases h), (fun h => by cases h), fun i hi => absurd hi (Nat.not_lt_zero i)⟩) (ht 2 (.inr rfl)) (fun c => rfl)
      | trivial
      | rfl
      | omega
      | ((try dsimp only [rowL, rowN]); simp only [beq_iff_eq, beq_eq_false_iff_ne, bne_iff_ne, bne_eq_false_iff_eq, decide_eq_true_eq, decide_eq_false_iff_not, ne_eq, Bool.not_eq_true', Bool.not_eq_false', Bool.not_eq_eq_eq_not, Bool.not_true, Bool.not_false, Option.some.injEq, Option.getD_some, Option.getD_none]; omega)
      | (simp; done)
      | (simp; omega)
  refine SG.ret tab_ok Try.func10 rfl ?_
  intro ρ w' v hm hv
  exact Post.mk hm (.cv (.one (.v (.bool true)))) [] none [] hv rfl rows0 rfl (by simp)
end
end Go.Proofs.Ytpnfjkkofdlndaa
