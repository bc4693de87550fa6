/- Tables: statements, on: whatever table there is. -/
import Derived.Test.YthdpigdbkljiiaaTbQ
import Derived.Test.YthdpigdbkljiiaaTbG
namespace Go.Proofs.Ythdpigdbkljiiaa
open Go.Sx Go.RowKit
set_option linter.unusedVariables false
set_option linter.unusedSimpArgs false
abbrev hdDead (n : Int) (L : List E) : Hd := mkHd (.tup [.one (.v (.int .i64 (((L.find? (deadP n)).map (·.pid)).getD 0))), .one (.lb (L.find? (deadP n)).isSome)]) []
theorem sameB_refl (L : List E) : sameB L L = true := sameB_iff.2 ⟨rfl, fun k hk => eqB_refl _⟩
theorem rSameE {W : Base} {B : List (Option (List At))} {Rs : List (Option Row)} {r q : Nat} {R Rq : Row} {L : List E} (hr : Rs[r]? = some (some R)) (hR : RowLe R (rowE L)) (hq : Rs[q]? = some (some Rq)) (hRq : RowLe Rq (rowE L)) (hl : L.length ≤ 837723144960) : CallOk Try.prog W B Rs 16 [rsV r, rsV q] (hdB true) :=
  sameB_refl L ▸ rSame2 hr hR hq hRq hl hl
set_option maxRecDepth 100000 in
theorem acts_walk (w : World) (c c2 : Value) (L M : List E) (p : E) (pid to : Int) (hrow : ∀ W' ρ, RowOk W' ρ w c (rowE L)) (hrow2 : ∀ W' ρ, RowOk W' ρ w c2 (rowE M)) (hl : L.length ≤ 837723144950) (hl2 : M.length ≤ 837723144950) :
    Calls Try.prog 3 #[.agg (c :: (eG p ++ [.int .i64 pid, .int .i64 to, c2])).toArray] w fun e w' => e = .returned (.bool true) ∧ Below w.heap.size w w' := by
  obtain ⟨A, cap, rfl, _⟩ := (hrow ⟨w, none, [], []⟩ ⟨fun _ => none, fun _ => none⟩).form
  obtain ⟨A2, cap2, rfl, _⟩ := (hrow2 ⟨w, none, [], []⟩ ⟨fun _ => none, fun _ => none⟩).form
  refine calls_top Try.func3 rfl [.slice A L.length cap, .slice A2 M.length cap2] [rowE L, rowE M] [.cv (.agg (.rs 0 :: (eC p ++ ([.v (.int .i64 pid), .v (.int .i64 to), .rs 1] : List At))))] (.cons hrow rfl (.cons hrow2 rfl .nil)) ⟨rfl, trivial⟩ ?_
  clear hrow hrow2
  have hkl := put_len p L
  have hal := adL_len pid to L L.length
  have hfl : (L.filter (fun x => !isP pid x)).length ≤ L.length := List.length_filter_le _ _
  have hcl : (kidsL pid L).length ≤ L.length := by rw [List.length_map]; exact List.length_filter_le _ _
  obtain ⟨b, hb⟩ : ∃ b : Bool, b = true ↔ Asc L := by
    rcases Classical.em (Asc L) with h | h
    · exact ⟨true, by simp [h]⟩
    · exact ⟨false, by simp [h]⟩
  obtain ⟨d, hd⟩ : ∃ d, sameB L M = d := ⟨_, rfl⟩
  obtain ⟨n, hn⟩ : ∃ n, IntKind.i64.wrap (most L L.length + 1) = n := ⟨_, rfl⟩
  obtain ⟨x, hx⟩ : ∃ x, findE pid L = x := ⟨_, rfl⟩
  obtain ⟨h, hh⟩ : ∃ h, hasE pid L = h := ⟨_, rfl⟩
  obtain ⟨y, hy⟩ : ∃ y, ((L.find? (deadP pid)).map (·.pid)).getD 0 = y := ⟨_, rfl⟩
  obtain ⟨g, hg⟩ : ∃ g, (L.find? (deadP pid)).isSome = g := ⟨_, rfl⟩
  have c1 := fun {W : Base} {B : List (Option (List At))} {Rs : List (Option Row)} {R : Row} (h1 : Rs[0]? = some (some R)) (h2 : RowLe R (rowE L)) => hx ▸ hh ▸ @findT W B Rs 0 R L pid h1 h2 (by omega)
  have c2 := fun {W : Base} {B : List (Option (List At))} {Rs : List (Option Row)} {R : Row} (h1 : Rs[0]? = some (some R)) (h2 : RowLe R (rowE L)) => hx ▸ hh ▸ @rFindT W B Rs 0 R L pid h1 h2 (by omega)
  have c3 := fun {W : Base} {B : List (Option (List At))} {Rs : List (Option Row)} {R : Row} (h1 : Rs[0]? = some (some R)) (h2 : RowLe R (rowE L)) => hy ▸ hg ▸ @deadT W B Rs 0 R L pid h1 h2 (by omega)
  have c4 := fun {W : Base} {B : List (Option (List At))} {Rs : List (Option Row)} {R : Row} (h1 : Rs[0]? = some (some R)) (h2 : RowLe R (rowE L)) => hy ▸ hg ▸ @rDeadT W B Rs 0 R L pid h1 h2 (by omega)
  have c5 := fun {W : Base} {B : List (Option (List At))} {Rs : List (Option Row)} {R : Row} (h1 : Rs[0]? = some (some R)) (h2 : RowLe R (rowE L)) => hn ▸ @nextT W B Rs 0 R L h1 h2 (by omega)
  have c6 := fun {W : Base} {B : List (Option (List At))} {Rs : List (Option Row)} {R : Row} (h1 : Rs[0]? = some (some R)) (h2 : RowLe R (rowE L)) => hn ▸ @rNextT W B Rs 0 R L h1 h2 (by omega)
  have c7 := fun {W : Base} {B : List (Option (List At))} {Rs : List (Option Row)} {R Rq : Row} (h1 : Rs[0]? = some (some R)) (h2 : RowLe R (rowE L)) (h3 : Rs[1]? = some (some Rq)) (h4 : RowLe Rq (rowE M)) => hd ▸ @same2 W B Rs 0 1 R Rq L M h1 h2 h3 h4 (by omega) (by omega)
  have c8 := fun {W : Base} {B : List (Option (List At))} {Rs : List (Option Row)} {R Rq : Row} (h1 : Rs[0]? = some (some R)) (h2 : RowLe R (rowE L)) (h3 : Rs[1]? = some (some Rq)) (h4 : RowLe Rq (rowE M)) => hd ▸ @rSame2 W B Rs 0 1 R Rq L M h1 h2 h3 h4 (by omega) (by omega)
  have c9 := fun {W : Base} {B : List (Option (List At))} {Rs : List (Option Row)} {R : Row} (h1 : Rs[0]? = some (some R)) (h2 : RowLe R (rowE L)) => @putT W B Rs 0 R L p h1 h2 (by omega)
  have c10 := fun {W : Base} {B : List (Option (List At))} {Rs : List (Option Row)} {R : Row} (h1 : Rs[0]? = some (some R)) (h2 : RowLe R (rowE L)) => @rPutT W B Rs 0 R L p h1 h2 (by omega)
  have c11 := fun {W : Base} {B : List (Option (List At))} {Rs : List (Option Row)} {R : Row} (h1 : Rs[0]? = some (some R)) (h2 : RowLe R (rowE L)) => @removeT W B Rs 0 R L pid h1 h2 (by omega)
  have c12 := fun {W : Base} {B : List (Option (List At))} {Rs : List (Option Row)} {R : Row} (h1 : Rs[0]? = some (some R)) (h2 : RowLe R (rowE L)) => @rRemoveT W B Rs 0 R L pid h1 h2 (by omega)
  have c13 := fun {W : Base} {B : List (Option (List At))} {Rs : List (Option Row)} {R : Row} (h1 : Rs[0]? = some (some R)) (h2 : RowLe R (rowE L)) => @adoptT W B Rs 0 R L pid to h1 h2 (by omega)
  have c14 := fun {W : Base} {B : List (Option (List At))} {Rs : List (Option Row)} {R : Row} (h1 : Rs[0]? = some (some R)) (h2 : RowLe R (rowE L)) => @rAdoptT W B Rs 0 R L pid to h1 h2 (by omega)
  have c15 := fun {W : Base} {B : List (Option (List At))} {Rs : List (Option Row)} {R : Row} (h1 : Rs[0]? = some (some R)) (h2 : RowLe R (rowE L)) => @childrenT W B Rs 0 R L pid h1 h2 (by omega)
  have c16 := fun {W : Base} {B : List (Option (List At))} {Rs : List (Option Row)} {R : Row} (h1 : Rs[0]? = some (some R)) (h2 : RowLe R (rowE L)) => @rChildrenT W B Rs 0 R L pid h1 h2 (by omega)
  generalize putE p L = K at *
  generalize adL pid to L L.length = A1 at *
  generalize L.filter (fun x => !isP pid x) = N at *
  generalize kidsL pid L = C at *
  refine SG.walk tab_ok mx 400 [true, true, true, true, true, true] [hdB true, hdFind x h, hdFind x h, mkHd (.tup [.one (.v (.int .i64 y)), .one (.lb g)]) [], mkHd (.tup [.one (.v (.int .i64 y)), .one (.lb g)]) [], hdE K, hdE K, hdB true, hdF N, hdE N, hdB true, hdE A1, hdE A1, hdB true, hdI C, hdI C, hdB true, hdInt n, hdInt n, hdB b, hdB b, hdB d, hdB d] ?_
  conv => whnf
  try dsimp only [rowL, rowN, growOk, hiN, fromL, tightN, maxOk]
  try simp (disch := omega) only [wI, wU64, wU32, wU8, Int.toNat_natCast, toNat_succ, toNat_pred, Int.reduceToNat, Option.getD_some, Option.getD_none, Nat.sub_zero, Nat.zero_add]
  refine ⟨?_, ?_⟩
  · refine ⟨?_, ?_, ?_, ?_, ?_, ?_, ?_, ?_, ?_, ?_, ?_, ?_, ?_, ?_, ?_, ?_, ?_, ?_, ?_, ?_, ?_, ?_, ?_, ?_, ?_, ?_, ?_, ?_, ?_⟩
    · exact c8 rfl (.of rfl rfl (fun _ _ => rfl)) rfl (.of rfl rfl (fun _ _ => rfl))
    · exact c7 rfl (.of rfl rfl (fun _ _ => rfl)) rfl (.of rfl rfl (fun _ _ => rfl))
    · exact by cases b <;> rfl
    · exact rRightT (r := 0) rfl (.of rfl rfl (fun _ _ => rfl)) (by omega) hb
    · exact rightT (r := 0) rfl (.of rfl rfl (fun _ _ => rfl)) (by omega) hb
    · exact by simp
    · exact c6 rfl (.of rfl rfl (fun _ _ => rfl))
    · exact c5 rfl (.of rfl rfl (fun _ _ => rfl))
    · exact by simp
    · exact by simp
    · exact by simp
    · exact eqB_refl x
    · exact rIntsT (r := 8) (q := 9) (L := C) rfl (.of rfl rfl (fun _ _ => rfl)) rfl (.of rfl rfl (fun _ _ => rfl)) (by omega)
    · exact c16 rfl (.of rfl rfl (fun _ _ => rfl))
    · exact c15 rfl (.of rfl rfl (fun _ _ => rfl))
    · exact rSameE (r := 6) (q := 7) (L := A1) rfl (.of rfl rfl (fun _ _ => rfl)) rfl (.of rfl rfl (fun _ _ => rfl)) (by omega)
    · exact c14 rfl (.of rfl rfl (fun _ _ => rfl))
    · exact c13 rfl (.of rfl rfl (fun _ _ => rfl))
    · exact rSameE (r := 4) (q := 5) (L := N) rfl (.of rfl rfl (fun _ _ => rfl)) rfl (.of rfl rfl (fun _ _ => rfl)) (by omega)
    · exact c12 rfl (.of rfl rfl (fun _ _ => rfl))
    · exact c11 rfl (.of rfl rfl (fun _ _ => rfl))
    · exact rSameE (r := 2) (q := 3) (L := K) rfl (.of rfl rfl (fun _ _ => rfl)) rfl (.of rfl rfl (fun _ _ => rfl)) (by omega)
    · exact c10 rfl (.of rfl rfl (fun _ _ => rfl))
    · exact c9 rfl (.of rfl rfl (fun _ _ => rfl))
    · exact c4 rfl (.of rfl rfl (fun _ _ => rfl))
    · exact c3 rfl (.of rfl rfl (fun _ _ => rfl))
    · exact c2 rfl (.of rfl rfl (fun _ _ => rfl))
    · exact c1 rfl (.of rfl rfl (fun _ _ => rfl))
    · exact shownE
  refine SG.ret tab_ok Try.func3 rfl ?_
  intro ρ w' v hm hv
  exact top_v hm hv (by simp)
end Go.Proofs.Ythdpigdbkljiiaa
