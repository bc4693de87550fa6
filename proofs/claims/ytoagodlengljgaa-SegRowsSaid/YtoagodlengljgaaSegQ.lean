/- The document's Make. -/
import Derived.Test.YtoagodlengljgaaSegB2
import Derived.Test.YtoagodlengljgaaFrozB
namespace Go.Proofs.Ytoagodlengljgaa
open Go.RowKit
set_option linter.unusedVariables false

set_option maxHeartbeats 400000 in
theorem rMake_arg (n : Int) (s : ByteArray) (w : World) (h : n < 0 ∨ 1024 < n) :
    Calls Try.prog 24 #[.int .i64 n, .string s] w fun e w' => e = .returned (.tuple #[.string ⟨#[]⟩, .int .i64 1]) ∧ w = w' := by
  rcases h with h | h
  · go_enter Try.func24, Try.ntmps24
    go_wp2
    go_ret2
    exact ⟨rfl, rfl⟩
  · have h' : ¬ n < 0 := by omega
    go_enter Try.func24, Try.ntmps24
    go_wp2
    go_ret2
    exact ⟨rfl, rfl⟩

set_option maxHeartbeats 400000 in
theorem rMake_big (n : Int) (s : ByteArray) (w : World) (h0 : 0 ≤ n) (h1 : n ≤ 1024) (hs : s.size ≤ 140737488351232) (h2 : n < s.size) :
    Calls Try.prog 24 #[.int .i64 n, .string s] w fun e w' => e = .returned (.tuple #[.string ⟨#[]⟩, .int .i64 4]) ∧ w = w' := by
  go_enter Try.func24, Try.ntmps24
  go_wp2
  go_ret2
  exact ⟨rfl, rfl⟩

def slLen : Value → Nat
  | .slice _ l _ => l
  | _ => 0
theorem infoByte : (Try.prog.info? 5).map (fun i => (i.zero, i.size, i.bytes)) = some (some (.int .u8 0), 1, 1) := by kernel_rfl
def rowM (s : ByteArray) (k : Nat) : List Value := (s.data.toList.map fun x => Value.int .u8 (x.toNat : Int)) ++ List.replicate k (.int .u8 0)
theorem rowM_succ (s : ByteArray) (k : Nat) : rowM s k ++ [.int .u8 0] = rowM s (k + 1) := by
  unfold rowM
  rw [List.append_assoc, List.replicate_succ']

set_option maxHeartbeats 400000 in
theorem rMake_yes (n : Nat) (s : ByteArray) (w : World) (h1 : n ≤ 1024) (h2 : s.size ≤ n) :
    Calls Try.prog 24 #[.int .i64 n, .string s] w fun e w' => e = .returned (.tuple #[.string (makeB n s), .int .i64 0]) ∧ Below w.heap.size w w' := by
  obtain ⟨i0, hi, hzz⟩ := Option.map_eq_some_iff.1 infoByte
  simp only [Prod.mk.injEq] at hzz
  obtain ⟨hz0, hz1, hz2⟩ := hzz
  have HI := Lib.hid (And.intro hi (And.intro hz0 (And.intro hz1 hz2)))
  clear hi hz0 hz1 hz2
  have hconv := Lib.run_convert_string_bytes (P := Try.prog) w 9 49 5 s Try.underlying9 Try.underlying49 Try.underlying5
  have HO := Lib.hid (ownsB_bytes w 5 s (by omega))
  have HB0 : Hid (Below w.heap.size w (Lib.bytesWorld w 5 s)) := Joins.below_bytesWorld _ _ _ _ (Nat.le_refl _)
  have hsn : (s.size : Int) ≤ (n : Int) := by omega
  have hdz : decide (n < s.size) = false := by simp; omega
  generalize Lib.bytesWorld w 5 s = W1 at *
  generalize grownCap w s.size 0 5 = c0 at *
  go_enter Try.func24, Try.ntmps24
  go_wp2
  clear hconv
  go_loopw [6] (fun bs wr => ∃ (k : Nat) (g cap : Nat), bs = .slice (some ⟨g, 0, none⟩) (s.size + k) cap ∧ Hid (s.size + k ≤ n) ∧ Hid (ownsB wr w.heap.size 5 (.slice (some ⟨g, 0, none⟩) (s.size + k) cap) (s.size + k) (rowM s k)) ∧ Hid (Below w.heap.size w wr)) (fun bs _ => n - slLen bs)
  case atStart =>
    refine ⟨0, w.heap.size, c0, rfl, h2, ?_, HB0.out⟩
    show ownsB _ _ _ _ _ (_ ++ [])
    rw [List.append_nil]
    exact HO.out
  case round =>
    obtain ⟨k, g, cap, rfl, HK, HOW, HB⟩ := hrel
    by_cases hlt : s.size + k < n
    · have HL := Lib.hid hlt
      have hd : decide ((s.size : Int) + (k : Int) < (n : Int)) = true := by simp; omega
      have hd2 : decide (s.size + k < n) = true := by simpa using hlt
      clear hlt
      go_wp2_with (at_builtin; (refine wpList_append_byteB rfl _ _ 49 rfl w.heap.size 5 i0 Try.underlying49 HI.out.1 HI.out.2.1 HI.out.2.2.1 HI.out.2.2.2 _ (s.size + k) (rowM s k) rfl (HOW.out.below ((Below.refl _ _).alloc (Nat.le_refl _) _)) ⟨wr.heap.size, 0, none⟩ 1 (.int .u8 0) rfl ?qc rfl ?qn ?qh ?_))
      case qc => simp
      case qn => have := HL.out; omega
      case qh => have := HB.out.size; simp; omega
      intro v' w3 ho3 hg3
      have HO3 := Lib.hid ho3
      have HB3 : Hid (Below w.heap.size w w3) := (HB.out.alloc HB.out.size _).grown hg3 (by have := HB.out.size; simp; omega) HOW.out.block
      clear ho3 hg3
      obtain ⟨_, g', cap', _, _, hv', _⟩ := HO3.out
      subst hv'
      go_wp2_with fail
      refine ⟨⟨k + 1, g', cap', rfl, ?_, ?_, HB3.out⟩, ?_⟩
      · have := HL.out; exact (by omega : s.size + (k + 1) ≤ n)
      · rw [← rowM_succ]
        exact HO3.out
      · have := HL.out
        show n - (s.size + k + 1) < n - (s.size + k)
        omega
    · have hd : decide ((s.size : Int) + (k : Int) < (n : Int)) = false := by simp; omega
      have hd2 : decide (s.size + k < n) = false := by simpa using hlt
      have hkn : s.size + k = n := by have := HK.out; omega
      have hlen : (makeB n s).data.toList.length = s.size + k := by rw [← Lib.size_eq, makeB_size n s (by omega), hkn]
      have hback := run_convert_bytes_back (P := Try.prog) wr 49 9 5 ⟨g, 0, none⟩ cap (makeB n s).data.toList Try.underlying49 Try.underlying5 Try.underlying9 (fun j hj => by
        obtain ⟨_, g2, cap2, cur, fz, hv, _, hh, _, hnc, _, hcs, htk⟩ := HOW.out
        injection hv with e1 e2 e3
        injection e1 with e1
        injection e1 with e1
        subst e1 e3
        have hjl : j < s.size + k := by rw [← hlen]; exact hj
        have hc : cur.toList[j]? = (rowM s k)[j]? := by rw [← htk, List.getElem?_take_of_lt hjl]
        have hm : (rowM s k)[j]? = some (.int .u8 ((makeB n s).data.toList[j].toNat : Int)) := by
          have hz : (makeB n s).data.toList = s.data.toList ++ List.replicate (n - s.size) 0 := by simp [makeB]
          have hk2 : n - s.size = k := by omega
          rw [hk2] at hz
          have e : rowM s k = (makeB n s).data.toList.map fun x => Value.int .u8 (x.toNat : Int) := by
            rw [hz, List.map_append]
            unfold rowM
            congr 1
            simp
          rw [e, List.getElem?_map, List.getElem?_eq_getElem hj]
          rfl
        have hm2 := hc.trans hm
        rw [show Addr.add ⟨g, 0, none⟩ j = ⟨g, j, none⟩ from by unfold Addr.add; split <;> simp_all]
        rw [Array.getElem?_toList] at hm2
        simp [World.cell?, hh, hm2])
      rw [hlen, show (⟨(makeB n s).data.toList.toArray⟩ : ByteArray) = makeB n s by simp [makeB]] at hback
      clear hlt hlen hkn
      go_wp2_with fail
      all_goals go_ret2
      all_goals exact ⟨rfl, HB.out⟩
end Go.Proofs.Ytoagodlengljgaa
