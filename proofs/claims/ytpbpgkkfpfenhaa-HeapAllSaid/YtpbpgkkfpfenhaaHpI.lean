/- Heaps: statements, on: of an empty room. -/
import Derived.Test.YtpbpgkkfpfenhaaHpF
import Derived.Test.YtpbpgkkfpfenhaaHpN
namespace Go.Proofs.Ytpbpgkkfpfenhaa
open Go.Sx Go.RowKit
set_option linter.unusedVariables false
set_option linter.unusedSimpArgs false
theorem holes_nil (sz : Int) (h : 0 ≤ sz) : holes sz [] = if 0 < sz then [(0, sz, 0)] else [] := by
  unfold holes gapAt
  show [] ++ (if (0 : Int) < sz then [((0 : Int), sz - 0, (0 : Int))] else []) = _
  rw [List.nil_append, Int.sub_zero]
set_option maxRecDepth 100000 in
theorem all_walk (w : World) (sz n : Int) (hs : sz ≤ 9223372036854775807) :
    Calls Try.prog 10 #[.int .i64 sz, .int .i64 n] w fun e w' => e = .returned (.bool true) ∧ Below w.heap.size w w' := by
  refine calls_top Try.func10 rfl [] [] [intV sz, intV n] .nil ⟨rfl, rfl, trivial⟩ ?_
  by_cases h0 : sz < 0
  · refine SG.walk tab_ok mx 400 [true] [hdB true, mkHd (.tup [.agg [.v (.int .i64 0), .v (.slice none 0 0)], .one (.v (.int .i64 1))]) []] ?_
    conv => whnf
    try dsimp only [rowL, rowN, growOk, hiN, fromL, tightN, maxOk]
    try simp (disch := omega) only [wI, wU64, wU32, wU8, Int.toNat_natCast, toNat_succ, toNat_pred, Int.reduceToNat, Option.getD_some, Option.getD_none, Nat.sub_zero, Nat.zero_add]
    refine ⟨?_, ?_⟩
    · exact ⟨by decide, newH h0, shownE⟩
    refine SG.ret tab_ok Try.func10 rfl ?_
    intro ρ w' v hm hv
    exact top_v hm hv (by simpa using h0)
  · have ht : Rt sz [] := ⟨by omega, fun k hk => absurd hk (Nat.not_lt_zero k)⟩
    have hh := holes_nil sz (by omega)
    by_cases h1 : 1 ≤ n
    · by_cases h2 : n ≤ sz
      · have hz : 0 < sz := by omega
        rw [if_pos hz] at hh
        have hf : fit n sz [] = some (0, sz, 0) := by
          unfold fit; rw [hh]; simp [fits, h2]
        refine SG.walk tab_ok mx 400 [false, false, false, true, true, true, false, true] [hdB true, hdNew sz 0, hdTake sz 0 0 (insAt 0 n 1 []), hdE (holes sz []), hdInt (sumN (holes sz [])), hdB true] ?_
        conv => whnf
        try dsimp only [rowL, rowN, growOk, hiN, fromL, tightN, maxOk]
        try simp (disch := omega) only [wI, wU64, wU32, wU8, Int.toNat_natCast, toNat_succ, toNat_pred, Int.reduceToNat, Option.getD_some, Option.getD_none, Nat.sub_zero, Nat.zero_add]
        refine ⟨?_, ?_⟩
        · exact ⟨rSpans (r := 2) (q := 3) (L := holes sz []) (M := [(0, sz, 0)]) rfl (.of rfl rfl (fun _ _ => rfl)) rfl (.of rfl rfl (fun i hi => by match i, hi with | 0, _ => rfl)) (by rw [hh]; simp) (by rw [hh]; simp), by simpa using hz, by simp; omega, by rw [hh]; simp [sumN], leftH (r := 0) (L := []) (b := true) rfl (.of rfl rfl (fun _ _ => rfl)) (by decide) hs ⟨fun _ => ht, fun _ => rfl⟩, rfl, rfl, holesH (r := 0) (L := []) rfl (.of rfl rfl (fun _ _ => rfl)) (by decide) hs ht, by simp; omega, by simp; omega, takeM (r := 0) (L := []) (h := (0, sz, 0)) rfl (.of rfl rfl (fun _ h => by cases h)) (by decide) hs h1 ht hf rfl rfl, rfl, newR h0, shownE⟩
        refine SG.ret tab_ok Try.func10 rfl ?_
        intro ρ w' v hm hv
        exact top_true hm hv rfl
      · have hf : fit n sz [] = none := by
          unfold fit; rw [hh]; split
          · simp [fits]; omega
          · rfl
        by_cases hz : 0 < sz
        · rw [if_pos hz] at hh
          refine SG.walk tab_ok mx 400 [false, true, false, true, true, true, false, true] [hdB true, hdNew sz 0, hdTake sz 0 5 [], hdE (holes sz []), hdInt (sumN (holes sz [])), hdB true] ?_
          conv => whnf
          try dsimp only [rowL, rowN, growOk, hiN, fromL, tightN, maxOk]
          try simp (disch := omega) only [wI, wU64, wU32, wU8, Int.toNat_natCast, toNat_succ, toNat_pred, Int.reduceToNat, Option.getD_some, Option.getD_none, Nat.sub_zero, Nat.zero_add]
          refine ⟨?_, ?_⟩
          · exact ⟨rSpans (r := 2) (q := 3) (L := holes sz []) (M := [(0, sz, 0)]) rfl (.of rfl rfl (fun _ _ => rfl)) rfl (.of rfl rfl (fun i hi => by match i, hi with | 0, _ => rfl)) (by rw [hh]; simp) (by rw [hh]; simp), by simpa using hz, by simp; omega, by rw [hh]; simp [sumN], leftH (r := 0) (L := []) (b := true) rfl (.of rfl rfl (fun _ _ => rfl)) (by decide) hs ⟨fun _ => ht, fun _ => rfl⟩, rfl, rfl, holesH (r := 0) (L := []) rfl (.of rfl rfl (fun _ _ => rfl)) (by decide) hs ht, by simp; omega, by simp; omega, takeFull (r := 0) (L := []) rfl (.of rfl rfl (fun _ h => by cases h)) (by decide) hs h1 ht hf, rfl, newR h0, shownE⟩
          refine SG.ret tab_ok Try.func10 rfl ?_
          intro ρ w' v hm hv
          exact top_true hm hv rfl
        · rw [if_neg hz] at hh
          refine SG.walk tab_ok mx 400 [false, true, false, true, true, true, true, true] [hdB true, hdNew sz 0, hdTake sz 0 5 [], hdE (holes sz []), hdInt (sumN (holes sz []))] ?_
          conv => whnf
          try dsimp only [rowL, rowN, growOk, hiN, fromL, tightN, maxOk]
          try simp (disch := omega) only [wI, wU64, wU32, wU8, Int.toNat_natCast, toNat_succ, toNat_pred, Int.reduceToNat, Option.getD_some, Option.getD_none, Nat.sub_zero, Nat.zero_add]
          refine ⟨?_, ?_⟩
          · exact ⟨by rw [hh]; rfl, by simp; omega, by rw [hh]; simp [sumN]; omega, leftH (r := 0) (L := []) (b := true) rfl (.of rfl rfl (fun _ _ => rfl)) (by decide) hs ⟨fun _ => ht, fun _ => rfl⟩, rfl, rfl, holesH (r := 0) (L := []) rfl (.of rfl rfl (fun _ _ => rfl)) (by decide) hs ht, by simp; omega, by simp; omega, takeFull (r := 0) (L := []) rfl (.of rfl rfl (fun _ h => by cases h)) (by decide) hs h1 ht hf, rfl, newR h0, shownE⟩
          refine SG.ret tab_ok Try.func10 rfl ?_
          intro ρ w' v hm hv
          exact top_true hm hv rfl
    · by_cases hz : 0 < sz
      · rw [if_pos hz] at hh
        refine SG.walk tab_ok mx 400 [false, false, true, true, true, true, false, true] [hdB true, hdNew sz 0, hdTake sz 0 1 [], hdE (holes sz []), hdInt (sumN (holes sz [])), hdB true] ?_
        conv => whnf
        try dsimp only [rowL, rowN, growOk, hiN, fromL, tightN, maxOk]
        try simp (disch := omega) only [wI, wU64, wU32, wU8, Int.toNat_natCast, toNat_succ, toNat_pred, Int.reduceToNat, Option.getD_some, Option.getD_none, Nat.sub_zero, Nat.zero_add]
        refine ⟨?_, ?_⟩
        · exact ⟨rSpans (r := 2) (q := 3) (L := holes sz []) (M := [(0, sz, 0)]) rfl (.of rfl rfl (fun _ _ => rfl)) rfl (.of rfl rfl (fun i hi => by match i, hi with | 0, _ => rfl)) (by rw [hh]; simp) (by rw [hh]; simp), by simpa using hz, by simp; omega, by rw [hh]; simp [sumN], leftH (r := 0) (L := []) (b := true) rfl (.of rfl rfl (fun _ _ => rfl)) (by decide) hs ⟨fun _ => ht, fun _ => rfl⟩, rfl, rfl, holesH (r := 0) (L := []) rfl (.of rfl rfl (fun _ _ => rfl)) (by decide) hs ht, by simp; omega, by simp; omega, takeArg (r := 0) (L := []) rfl (.of rfl rfl (fun _ h => by cases h)) (by decide) hs (.inl (by omega)), rfl, newR h0, shownE⟩
        refine SG.ret tab_ok Try.func10 rfl ?_
        intro ρ w' v hm hv
        exact top_true hm hv rfl
      · rw [if_neg hz] at hh
        refine SG.walk tab_ok mx 400 [false, false, true, true, true, true, true, true] [hdB true, hdNew sz 0, hdTake sz 0 1 [], hdE (holes sz []), hdInt (sumN (holes sz []))] ?_
        conv => whnf
        try dsimp only [rowL, rowN, growOk, hiN, fromL, tightN, maxOk]
        try simp (disch := omega) only [wI, wU64, wU32, wU8, Int.toNat_natCast, toNat_succ, toNat_pred, Int.reduceToNat, Option.getD_some, Option.getD_none, Nat.sub_zero, Nat.zero_add]
        refine ⟨?_, ?_⟩
        · exact ⟨by rw [hh]; rfl, by simp; omega, by rw [hh]; simp [sumN]; omega, leftH (r := 0) (L := []) (b := true) rfl (.of rfl rfl (fun _ _ => rfl)) (by decide) hs ⟨fun _ => ht, fun _ => rfl⟩, rfl, rfl, holesH (r := 0) (L := []) rfl (.of rfl rfl (fun _ _ => rfl)) (by decide) hs ht, by simp; omega, by simp; omega, takeArg (r := 0) (L := []) rfl (.of rfl rfl (fun _ h => by cases h)) (by decide) hs (.inl (by omega)), rfl, newR h0, shownE⟩
        refine SG.ret tab_ok Try.func10 rfl ?_
        intro ρ w' v hm hv
        exact top_true hm hv rfl
end Go.Proofs.Ytpbpgkkfpfenhaa
