/- Messages, boxes and channels as values; a row of messages in memory. -/
import Derived.Test.YtecpnblhhjndgaaRow
import Derived.Lib.Strings
import Derived.Deep.Onto
namespace Go.Proofs.Ytecpnblhhjndgaa
open Go.RowKit
set_option linter.unusedVariables false

abbrev Msg := Int × ByteArray
def msgC (x : Msg) : List Value := [.int .u64 x.1, .string x.2]
abbrev msgV (a : Int) (s : ByteArray) : Value := .agg #[.int .u64 a, .string s]
abbrev boxV (v : Value) (l : Int) : Value := .agg #[v, .int .i64 l]
abbrev chanV (k f t s d : Int) : Value := .agg #[.int .i64 k, .int .i64 f, .int .i64 t, .int .i64 s, .int .i64 d]
def RowM (w : World) (v : Value) (L : List Msg) : Prop := Sl w 2 v L.length (L.flatMap msgC)
theorem msgC_len (x : Msg) : (msgC x).length = 2 := rfl
theorem msgC_one (L : List Msg) : ∀ u ∈ L.flatMap msgC, u.oneCell' = true := by
  intro u hu
  obtain ⟨x, _, hx⟩ := List.mem_flatMap.1 hu
  simp only [msgC, List.mem_cons, List.not_mem_nil, or_false] at hx
  rcases hx with rfl | rfl <;> rfl
theorem RowM.below {w w' : World} {v : Value} {L : List Msg} (h : RowM w v L) (hb : Below w.heap.size w w') : RowM w' v L := Sl.below h hb
def OwnM (w : World) (B : Nat) (v : Value) (L : List Msg) : Prop := w.ownsRow B 37 2 v L.length (L.flatMap msgC)
theorem OwnM.row {w : World} {B : Nat} {v : Value} {L : List Msg} (h : OwnM w B v L) : RowM w v L := Sl.of_own h
theorem OwnM.own {w : World} {B : Nat} {v : Value} {L : List Msg} (h : OwnM w B v L) : w.ownsRow B 37 2 v L.length (L.flatMap msgC) := h
theorem RowM.nil (w : World) : RowM w (.slice none 0 0) [] := Sl.nil w 2
/-- A row that is not empty lies at an address: its cells. -/
theorem RowM.cells {w : World} {L : List Msg} {b o : Nat} (h : ∀ j u, (L.flatMap msgC)[j]? = some u → w.cell? ⟨b, o + j, none⟩ = some u) (k : Nat) (x : Msg) (hk : L[k]? = some x) :
    w.cell? ⟨b, o + k * 2, none⟩ = some (.int .u64 x.1) ∧ w.cell? ⟨b, o + k * 2 + 1, none⟩ = some (.string x.2) := by
  have h0 := flat_get msgC_len L k 0 x hk (by omega)
  have h1 := flat_get msgC_len L k 1 x hk (by omega)
  exact ⟨h _ _ h0, by have := h _ _ h1; rwa [← Nat.add_assoc] at this⟩

theorem infoMsg : (Try.prog.info? 37).map (fun i => (i.zero, i.size, i.bytes)) = some (some (.agg #[.int .u64 0, .string ⟨#[]⟩]), 2, 24) := by kernel_rfl

def msgEq (a : Int) (s : ByteArray) (a' : Int) (s' : ByteArray) : Bool := a == a' && s.toList == s'.toList
theorem msgEq_self (a : Int) (s : ByteArray) : msgEq a s a s = true := by simp [msgEq]
set_option maxRecDepth 100000 in
theorem equal_msg (a : Int) (s : ByteArray) (a' : Int) (s' : ByteArray) (w : World) :
    (Op.equalIn 10000 37 (msgV a s) (msgV a' s')).run Try.prog w = .ok (msgEq a s a' s') w := by
  have hf : (Try.prog.fieldsOf 37).toList = [⟨"At", 27, 0, false, "", "", 0⟩, ⟨"Body", 9, 1, false, "", "", 8⟩] := by kernel_rfl
  simp only [msgV]
  rw [run_equalIn_agg (P := Try.prog) w 9999 37 _ _ (by kernel_rfl) (by kernel_rfl), hf]
  have h3 : ∀ (x y : Int) (w : World), (Op.equalIn 9999 27 (.int .u64 x) (.int .u64 y)).run Try.prog w = .ok (x == y) w := fun x y w => run_equalIn_int w 9998 27 .u64 .u64 x y Try.underlying27
  have h4 : ∀ (x y : ByteArray) (w : World), (Op.equalIn 9999 9 (.string x) (.string y)).run Try.prog w = .ok (x.toList == y.toList) w := fun x y w => run_equalIn_string w 9998 9 x y Try.underlying9
  generalize 9999 = dd at h3 h4 ⊢
  simp [Op.eqFields, go_sem, h3, h4, msgEq]
  by_cases e1 : a = a' <;> simp [e1]
  by_cases e2 : s.toList = s'.toList <;> simp [e2]
theorem eql_msg (a : Int) (s : ByteArray) (a' : Int) (s' : ByteArray) (w : World) : (binOp .eql 37 (msgV a s) (msgV a' s')).run Try.prog w = .ok (.bool (msgEq a s a' s')) w := by
  simp only [msgV]
  rw [run_eql_struct, equal_msg]; rfl
theorem neq_msg (a : Int) (s : ByteArray) (a' : Int) (s' : ByteArray) (w : World) : (binOp .neq 37 (msgV a s) (msgV a' s')).run Try.prog w = .ok (.bool (!msgEq a s a' s')) w := by
  simp only [msgV]
  rw [run_neq_struct, equal_msg]; rfl
theorem toList_inj {s t : ByteArray} (h : s.toList = t.toList) : s = t := by
  rw [ByteArray.toList_eq, ByteArray.toList_eq] at h
  exact ByteArray.ext (Array.toList_inj.1 h)
theorem msgEq_iff (x y : Msg) : msgEq x.1 x.2 y.1 y.2 = decide (x = y) := by
  rw [Bool.eq_iff_iff]
  simp only [msgEq, Bool.and_eq_true, beq_iff_eq, decide_eq_true_eq]
  exact ⟨fun h => Prod.ext h.1 (toList_inj h.2), fun h => by rw [h]; exact ⟨rfl, rfl⟩⟩

set_option maxHeartbeats 400000 in
theorem waits_any (v : Value) (L : List Msg) (l : Int) (w : World) (h : RowM w v L) (hm : L.length ≤ 5864062014805) :
    Calls Try.prog 17 #[boxV v l] w fun e w' => e = .returned (.int .i64 L.length) ∧ Below w.heap.size w w' := by
  obtain ⟨A, cap, rfl, _, _⟩ := Sl.slice h
  go_enter Try.func17, Try.ntmps17
  go_wp2
  go_ret
  refine ⟨rfl, ?_⟩
  repeat (first
    | exact Below.refl _ _
    | refine Below.drew ?_
    | refine below_drewN ?_ _
    | refine below_drewN ?_ _
    | refine Below.alloc ?_ (by first | omega | (simp; omega) | simp) _
    | refine Below.setCell ?_ (by first | omega | (simp; omega) | simp) _)

/-- The result is a box with a row of these messages, in memory of the call's own or not. -/
def RetBox (L : List Msg) (l : Int) (B : Nat) (w : World) (e : Ending) (w' : World) : Prop := ∃ A cap, e = .returned (boxV (.slice A L.length cap) l) ∧ OwnM w' B (.slice A L.length cap) L ∧ Below B w w'
set_option maxHeartbeats 400000 in
theorem own_any (v0 v : Value) (L : List Msg) (l : Int) (w : World) (h : RowM w v L) (hm : L.length ≤ 5864062014805) :
    Calls Try.prog 19 #[boxV v0 l, v] w (RetBox L l w.heap.size w) := by
  obtain ⟨i0, hi, hzz⟩ := Option.map_eq_some_iff.1 infoMsg
  simp only [Prod.mk.injEq] at hzz
  obtain ⟨hz0, hz1, hz2⟩ := hzz
  have HI := Lib.hid (And.intro hi (And.intro hz0 (And.intro hz1 hz2)))
  clear hi hz0 hz1 hz2
  have H := Lib.hid h
  clear h
  have hmx : L.length ≤ maxLen := by unfold maxLen; omega
  go_enter Try.func19, Try.ntmps19
  go_wp2_with (at_builtin; refine wpList_app_own _ rfl _ _ 24 rfl (w.heap.size + 2) 37 i0 _ 2 24 Try.underlying24 HI.out.1 HI.out.2.1 HI.out.2.2.1 HI.out.2.2.2 rfl (by decide) (.slice none 0 0) 0 [] rfl (World.ownsRow_nil _ _ _ _) v L.length (L.flatMap msgC) rfl ?c1 (msgC_one L) ?c2 ?c3 ?c4 ?_)
  case c1 => exact H.out.below (((Below.refl _ _).alloc (Nat.le_refl _) _).alloc (by simp) _)
  case c2 => omega
  case c3 => omega
  case c4 => simp
  intro v1 w1 hown hg
  have hb1 := (Below.refl _ _).grown hg (Nat.le_refl _) (fun k hk => by simp [Value.ownBlock] at hk)
  clear hg
  obtain ⟨A1, cap1, rfl, _, _⟩ := (Sl.of_own hown).slice
  have HO := Lib.hid hown
  clear hown
  obtain ⟨hc1, hf1⟩ := bcell hb1
  have s1 := hb1.size
  simp at s1
  have z1_0 : w.heap.size < w1.heap.size := by omega
  have z1_1 : w.heap.size + 1 < w1.heap.size := by omega
  have t1 : w1.cell? ⟨w.heap.size, 0, none⟩ = some v0 := by go_simp
  have t2 : (w1.setCell ⟨w.heap.size, 0, none⟩ (.slice A1 L.length cap1)).cell? ⟨w.heap.size, 0, none⟩ = some (.slice A1 L.length cap1) := by go_simp
  go_wp2
  refine bodyPost_ret (v := boxV (.slice A1 L.length cap1) l) (by simp [results, Try.results19, go_sem, *]) rfl ⟨A1, cap1, rfl, ?_, ?_⟩
  · refine World.ownsRow.mono (base := w.heap.size + 2) ?_ (by omega)
    repeat (first
      | with_reducible exact HO.out
      | refine ownsRow_setCell_below ?_ (by first | omega | (simp; omega) | simp) _
      | refine World.ownsRow.alloc ?_ _)
  · repeat (first
      | exact Below.refl _ _
      | exact hb1
      | refine Below.drew ?_
      | refine below_drewN ?_ _
      | refine below_drewN ?_ _
      | refine Below.alloc ?_ (by first | omega | (simp; omega) | simp) _
      | refine Below.setCell ?_ (by first | omega | (simp; omega) | simp) _
      | refine Below.trans ?_ (hb1.mono (by first | omega | (simp; omega) | simp)))
end Go.Proofs.Ytecpnblhhjndgaa
