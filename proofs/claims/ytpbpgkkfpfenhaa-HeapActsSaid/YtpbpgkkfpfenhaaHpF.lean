/- Heaps: the example; statements. -/
import Derived.Test.YtpbpgkkfpfenhaaHpE
import Derived.Test.YtpbpgkkfpfenhaaHpM
import Derived.Test.YtpbpgkkfpfenhaaSxR
namespace Go.Proofs.Ytpbpgkkfpfenhaa
open Go.Sx Go.RowKit
set_option linter.unusedVariables false
set_option linter.unusedSimpArgs false
abbrev hdB (b : Bool) : Hd := mkHd (.cv (.one (.lb b))) []
abbrev hdInt (n : Int) : Hd := mkHd (intV n) []
abbrev hdE (L : List E) : Hd := mkHd (rsV 0) [newE L]
abbrev hdNew (sz e : Int) : Hd := mkHd (.tup [.agg [.v (.int .i64 sz), .rs 0], .one (.v (.int .i64 e))]) [newE []]
abbrev hdFree (sz e : Int) (L : List E) : Hd := mkHd (.tup [.agg [.v (.int .i64 sz), .rs 0], .one (.v (.int .i64 e))]) [newE L]
def rtB (sz : Int) (L : List E) : Bool := decide (0 ≤ sz) && (List.range L.length).all fun k => decide (endAt L k ≤ (L.getD k e0).1) && (decide ((L.getD k e0).1 ≤ sz) && (decide (1 ≤ (L.getD k e0).2.1) && decide ((L.getD k e0).2.1 ≤ sz - (L.getD k e0).1)))
theorem rt_of {sz : Int} {L : List E} (h : rtB sz L = true) : Rt sz L := by
  simp only [rtB, Bool.and_eq_true, decide_eq_true_eq, List.all_eq_true, List.mem_range] at h
  exact ⟨h.1, fun k hk => ⟨(h.2 k hk).1, (h.2 k hk).2.1, (h.2 k hk).2.2.1, (h.2 k hk).2.2.2⟩⟩
section
variable {W : Base} {B : List (Option (List At))} {Rs : List (Option Row)} {r : Nat} {R : Row} {L : List E}
theorem takeM {sz n who : Int} {h : E} {a : Int} {M : List E} (hr : Rs[r]? = some (some R)) (hR : RowLe R (rowE L)) (hl : L.length ≤ 5864062014700) (hs : sz ≤ 9223372036854775807) (hn : 1 ≤ n) (ht : Rt sz L) (hf : fit n sz L = some h) (ha : h.1 = a) (hM : insAt a n who L = M) :
    CallOk Try.prog W B Rs 12 [heapV r sz, intV n, intV who] (hdTake sz a 0 M) := by subst ha hM; exact takeOk hr hR hl hs hn ht hf
theorem freeM {sz at_ e : Int} {M : List E} (hr : Rs[r]? = some (some R)) (hR : RowLe R (rowE L)) (hl : L.length ≤ 5864062014700) (he : e = if L.any (atB at_) = true then 0 else 7) (hM : freeL at_ L = M) :
    CallOk Try.prog W B Rs 14 [heapV r sz, intV at_] (hdFree sz e M) := by subst hM; exact freeH hr hR hl he
set_option maxRecDepth 100000 in
theorem newR {sz : Int} (h : ¬ sz < 0) : CallOk Try.prog W B Rs 16 [intV sz] (hdNew sz 0) := by
  refine CallOk.enter Try.func16 (by kernel_rfl) rfl [] [] [intV sz] rfl rows0 (fun r h => by cases h) rfl rfl ?_
  intro w blk hblk
  refine SG.walk tab_ok mx 400 [false] [] ?_
  conv => whnf
  try dsimp only [rowL, rowN, growOk, hiN, fromL, tightN, maxOk]
  try simp (disch := omega) only [wI, wU64, wU32, wU8, Int.toNat_natCast, toNat_succ, toNat_pred, Int.reduceToNat, Option.getD_some, Option.getD_none, Nat.sub_zero, Nat.zero_add]
  refine ⟨?_, ?_⟩
  · try simp only [beq_iff_eq, beq_eq_false_iff_ne, bne_iff_ne, bne_eq_false_iff_eq, decide_eq_true_eq, decide_eq_false_iff_not, ne_eq, Bool.not_eq_true', Bool.not_eq_false', Bool.not_eq_eq_eq_not, Bool.not_true, Bool.not_false, true_and, and_true]
    try omega
  refine SG.nilBoxAt 0 1 45 3 rfl rfl ?_
  refine SG.norm ?_
  conv => whnf
  refine SG.ret tab_ok Try.func16 rfl ?_
  intro ρ w' v hm hv
  exact Post.mk hm (.tup [.agg [.v (.int .i64 sz), .rs 0], .one (.v (.int .i64 0))]) [newE []] none [0] hv rfl (rows1 (.of rfl rfl rfl rfl rfl (fun i hi => absurd hi (Nat.not_lt_zero i)) (fun _ => rfl))) rfl (by simp)
set_option maxRecDepth 100000 in
theorem shownE : CallOk Try.prog W B Rs 11 [] (hdB true) := by
  refine CallOk.enter Try.func11 (by kernel_rfl) rfl [] [] [] rfl rows0 (fun r h => by cases h) rfl rfl ?_
  intro w blk hblk
  refine SG.walk tab_ok mx 400 [true, true, true, true, true, true, true, true, true] [hdNew 10 0, hdTake 10 0 0 [(0, 4, 1)], hdTake 10 4 0 [(0, 4, 1), (4, 4, 2)], hdTake 10 0 5 [(0, 4, 1), (4, 4, 2)], hdFree 10 0 [(4, 4, 2)], hdTake 10 0 0 [(0, 3, 4), (4, 4, 2)]] ?_
  conv => whnf
  try dsimp only [rowL, rowN, growOk, hiN, fromL, tightN, maxOk]
  try simp (disch := omega) only [wI, wU64, wU32, wU8, Int.toNat_natCast, toNat_succ, toNat_pred, Int.reduceToNat, Option.getD_some, Option.getD_none, Nat.sub_zero, Nat.zero_add]
  refine ⟨?_, ?_⟩
  · exact ⟨by decide, by decide, by decide, by decide, by decide, by decide, by decide, by decide,
      takeM (r := 4) (L := [(4, 4, 2)]) (h := (0, 4, 0)) rfl (.of rfl rfl (fun _ _ => rfl)) (by decide) (by decide) (by decide) (rt_of (by decide)) (by decide) (by decide) (by decide),
      freeM (r := 2) (L := [(0, 4, 1), (4, 4, 2)]) rfl (.of rfl rfl (fun _ _ => rfl)) (by decide) (by decide) (by decide),
      takeFull (r := 2) (L := [(0, 4, 1), (4, 4, 2)]) rfl (.of rfl rfl (fun _ _ => rfl)) (by decide) (by decide) (by decide) (rt_of (by decide)) (by decide),
      takeM (r := 1) (L := [(0, 4, 1)]) (h := (4, 6, 0)) rfl (.of rfl rfl (fun _ _ => rfl)) (by decide) (by decide) (by decide) (rt_of (by decide)) (by decide) (by decide) (by decide),
      takeM (r := 0) (L := []) (h := (0, 10, 0)) rfl (.of rfl rfl (fun _ h => by cases h)) (by decide) (by decide) (by decide) (rt_of (by decide)) (by decide) (by decide) (by decide),
      newR (by decide)⟩
  refine SG.ret tab_ok Try.func11 rfl ?_
  intro ρ w' v hm hv
  exact Post.mk hm (.cv (.one (.lb true))) [] none [] hv rfl rows0 rfl (by simp)
end
set_option maxRecDepth 100000 in
theorem drops_walk (w : World) (c : Value) (L : List E) (sz who : Int) (hrow : ∀ W' ρ, RowOk W' ρ w c (rowE L)) (hl : L.length ≤ 5864062014650) :
    Calls Try.prog 8 #[.agg #[.int .i64 sz, c], .int .i64 who] w fun e w' => e = .returned (.bool true) ∧ Below w.heap.size w w' := by
  obtain ⟨A, cap, rfl, _⟩ := (hrow ⟨w, none, [], []⟩ ⟨fun _ => none, fun _ => none⟩).form
  refine calls_top Try.func8 rfl [.slice A L.length cap] [rowE L] [heapV 0 sz, intV who] (.cons hrow rfl .nil) ⟨rfl, rfl, trivial⟩ ?_
  clear hrow
  refine SG.walk tab_ok mx 400 [] [hdB true, hdHeap sz (dropL who L)] ?_
  conv => whnf
  try dsimp only [rowL, rowN, growOk, hiN, fromL, tightN, maxOk]
  try simp (disch := omega) only [wI, wU64, wU32, wU8, Int.toNat_natCast, toNat_succ, toNat_pred, Int.reduceToNat, Option.getD_some, Option.getD_none, Nat.sub_zero, Nat.zero_add]
  refine ⟨?_, ?_⟩
  · exact ⟨dropH (r := 0) rfl (.of rfl rfl (fun _ _ => rfl)) (by omega), shownE⟩
  refine SG.loop (fun k : Nat => ⟨puts (List.replicate (Try.f8).ntmps .any) [(0, heapV 0 sz), (1, intV who), (2, bpV 0), (5, trueV), (6, bpV 1), (7, intV (dropL who (L.take k)).length), (8, intV k)], [some [.v (.int .i64 sz), .rs 0], some [.v (.int .i64 sz), .rs 1]], [some (rowE L), some (newE (dropL who L))], []⟩) (fun k => k ≤ L.length) (fun k => L.length - k) (0) (Nat.zero_le _) (fun h => SG.sub [0, 1] [0, 1] ⟨?_, ?_, ?_, by decide, rfl, rfl, rfl, ?_⟩ h) ?_
  · repeat' (first | exact trivial | exact rfl | refine And.intro ?_ ?_)
  · repeat' (first | exact trivial | exact rfl | refine And.intro ?_ ?_)
  · repeat' (first | exact trivial | refine ⟨⟨_, rfl, ⟨rfl, rfl, .inl rfl, (fun h => by first | exact h | cases h), (fun h => by first | exact h | cases h), fun _ _ => rfl⟩, fun _ _ => rfl⟩, ?_⟩ | refine ⟨⟨_, rfl, ⟨rfl, rfl, .inr rfl, (fun h => by first | exact h | cases h), (fun h => by first | exact h | cases h), fun _ _ => rfl⟩, fun _ _ => rfl⟩, ?_⟩ | refine ⟨⟨_, rfl, ⟨rfl, rfl, .inr rfl, (fun h => by first | exact h | cases h), (fun h => by first | exact h | cases h), fun i hi => absurd hi (Nat.not_lt_zero i)⟩, fun i hi => absurd hi (Nat.not_lt_zero i)⟩, ?_⟩ | refine ⟨⟨_, rfl, ⟨rfl, rfl, .inl rfl, (fun h => by first | exact h | cases h), (fun h => by first | exact h | cases h), fun i hi => ren_closed (hQc i hi)⟩, fun i hi => inn_closed (hQc i hi)⟩, ?_⟩)
  · repeat' (first | exact trivial | exact rfl | refine And.intro ?_ ?_)
  intro k hk next
  have hln : (dropL who (L.take k)).length ≤ k := Nat.le_trans (List.length_filter_le _ _) (by simp; omega)
  by_cases hlt : k < L.length
  · by_cases hp : (L.getD k e0).2.2 = who
    · refine SG.walk tab_ok mx 400 [true, true] [] ?_
      conv => whnf
      try dsimp only [rowL, rowN, growOk, hiN, fromL, tightN, maxOk]
      try simp (disch := omega) only [wI, wU64, wU32, wU8, Int.toNat_natCast, toNat_succ, toNat_pred, Int.reduceToNat, Option.getD_some, Option.getD_none, Nat.sub_zero, Nat.zero_add]
      refine ⟨?_, ?_⟩
      · try simp only [beq_iff_eq, beq_eq_false_iff_ne, bne_iff_ne, bne_eq_false_iff_eq, decide_eq_true_eq, decide_eq_false_iff_not, ne_eq, Bool.not_eq_true', Bool.not_eq_false', Bool.not_eq_eq_eq_not, Bool.not_true, Bool.not_false, true_and, and_true]
        try omega
      have e : dropL who (L.take (k + 1)) = dropL who (L.take k) := filt_take_no (d := e0) hlt (by simp [whoB, hp, - List.getD_eq_getElem?_getD])
      refine SG.sub [0, 1] [0, 1] ⟨?_, ?_, ?_, by decide, rfl, rfl, rfl, ?_⟩ (by have := next (k + 1) hlt (by omega); rw [e] at this; exact this)
      · repeat' (first | exact trivial | exact rfl | refine And.intro ?_ ?_)
      · repeat' (first | exact trivial | exact rfl | refine And.intro ?_ ?_)
      · repeat' (first | exact trivial | refine ⟨⟨_, rfl, ⟨rfl, rfl, .inl rfl, (fun h => by first | exact h | cases h), (fun h => by first | exact h | cases h), fun _ _ => rfl⟩, fun _ _ => rfl⟩, ?_⟩ | refine ⟨⟨_, rfl, ⟨rfl, rfl, .inr rfl, (fun h => by first | exact h | cases h), (fun h => by first | exact h | cases h), fun _ _ => rfl⟩, fun _ _ => rfl⟩, ?_⟩ | refine ⟨⟨_, rfl, ⟨rfl, rfl, .inr rfl, (fun h => by first | exact h | cases h), (fun h => by first | exact h | cases h), fun i hi => absurd hi (Nat.not_lt_zero i)⟩, fun i hi => absurd hi (Nat.not_lt_zero i)⟩, ?_⟩ | refine ⟨⟨_, rfl, ⟨rfl, rfl, .inl rfl, (fun h => by first | exact h | cases h), (fun h => by first | exact h | cases h), fun i hi => ren_closed (hQc i hi)⟩, fun i hi => inn_closed (hQc i hi)⟩, ?_⟩)
      · repeat' (first | exact trivial | exact rfl | refine And.intro ?_ ?_)
    · have hw : (!whoB who (L.getD k e0)) = true := by simp [whoB, hp, - List.getD_eq_getElem?_getD]
      have hg : (dropL who L).getD (dropL who (L.take k)).length e0 = L.getD k e0 := filt_get (p := fun x => !whoB who x) hlt hw
      have hl2 : (dropL who (L.take k)).length < (dropL who L).length := filt_lt (p := fun x => !whoB who x) hlt hw
      have e : (dropL who (L.take (k + 1))).length = (dropL who (L.take k)).length + 1 := by
        unfold dropL
        rw [filt_take_yes (d := e0) hlt hw, List.length_append]; rfl
      refine SG.walk tab_ok mx 400 [true, false, false, false] [] ?_
      conv => whnf
      try dsimp only [rowL, rowN, growOk, hiN, fromL, tightN, maxOk]
      try simp (disch := omega) only [wI, wU64, wU32, wU8, Int.toNat_natCast, toNat_succ, toNat_pred, Int.reduceToNat, Option.getD_some, Option.getD_none, Nat.sub_zero, Nat.zero_add]
      refine ⟨?_, ?_⟩
      · rw [hg]
        refine ⟨by simp, ?_⟩
        try simp only [beq_iff_eq, beq_eq_false_iff_ne, bne_iff_ne, bne_eq_false_iff_eq, decide_eq_true_eq, decide_eq_false_iff_not, ne_eq, Bool.not_eq_true', Bool.not_eq_false', Bool.not_eq_eq_eq_not, Bool.not_true, Bool.not_false, true_and, and_true]
        try omega
      refine SG.sub [0, 1] [0, 1] ⟨?_, ?_, ?_, by decide, rfl, rfl, rfl, ?_⟩ (by have := next (k + 1) hlt (by omega); rw [e] at this; exact this)
      · repeat' (first | exact trivial | exact rfl | refine And.intro ?_ ?_)
      · repeat' (first | exact trivial | exact rfl | refine And.intro ?_ ?_)
      · repeat' (first | exact trivial | refine ⟨⟨_, rfl, ⟨rfl, rfl, .inl rfl, (fun h => by first | exact h | cases h), (fun h => by first | exact h | cases h), fun _ _ => rfl⟩, fun _ _ => rfl⟩, ?_⟩ | refine ⟨⟨_, rfl, ⟨rfl, rfl, .inr rfl, (fun h => by first | exact h | cases h), (fun h => by first | exact h | cases h), fun _ _ => rfl⟩, fun _ _ => rfl⟩, ?_⟩ | refine ⟨⟨_, rfl, ⟨rfl, rfl, .inr rfl, (fun h => by first | exact h | cases h), (fun h => by first | exact h | cases h), fun i hi => absurd hi (Nat.not_lt_zero i)⟩, fun i hi => absurd hi (Nat.not_lt_zero i)⟩, ?_⟩ | refine ⟨⟨_, rfl, ⟨rfl, rfl, .inl rfl, (fun h => by first | exact h | cases h), (fun h => by first | exact h | cases h), fun i hi => ren_closed (hQc i hi)⟩, fun i hi => inn_closed (hQc i hi)⟩, ?_⟩)
      · repeat' (first | exact trivial | exact rfl | refine And.intro ?_ ?_)
  · rw [List.take_of_length_le (by omega)]
    refine SG.walk tab_ok mx 400 [false, true] [] ?_
    conv => whnf
    try dsimp only [rowL, rowN, growOk, hiN, fromL, tightN, maxOk]
    try simp (disch := omega) only [wI, wU64, wU32, wU8, Int.toNat_natCast, toNat_succ, toNat_pred, Int.reduceToNat, Option.getD_some, Option.getD_none, Nat.sub_zero, Nat.zero_add]
    refine ⟨?_, ?_⟩
    · refine ⟨by simp, ?_⟩
      try simp only [beq_iff_eq, beq_eq_false_iff_ne, bne_iff_ne, bne_eq_false_iff_eq, decide_eq_true_eq, decide_eq_false_iff_not, ne_eq, Bool.not_eq_true', Bool.not_eq_false', Bool.not_eq_eq_eq_not, Bool.not_true, Bool.not_false, true_and, and_true]
      try omega
    refine SG.ret tab_ok Try.func8 rfl ?_
    intro ρ w' v hm hv
    exact top_v hm hv (by simp)
end Go.Proofs.Ytpbpgkkfpfenhaa
