/- What an instruction makes of its two registers: cpu.reckoned (cpu.quotient). -/
import Derived.Test.YtcdoofjddhlodaaDoorIns
namespace Go.Proofs.YtcdoofjddhlodaaDoor
open Go.RowKit
set_option linter.unusedVariables false

def quoN (a b : Int) : Int := if b = 0 then 4294967295 else a / b

set_option maxHeartbeats 400000 in
theorem quo_any (a b : Int) (w : World) (a0 : 0 ≤ a) (a1 : a < 4294967296) (b0 : 0 ≤ b) (b1 : b < 4294967296) :
    Calls Tryd.prog 37 #[.int .u32 a, .int .u32 b] w fun e w' => e = .returned (.int .u32 (quoN a b)) ∧ w = w' := by
  by_cases h : b = 0
  · subst h
    go_enter Tryd.func37, Tryd.ntmps37
    go_wp2
    go_ret
    exact ⟨rfl, rfl⟩
  · have hq : quoN a b = a / b := by simp [quoN, h]
    have HQ := Lib.hid hq
    clear hq
    have hb : (b == 0) = false := by simpa using h
    have hb2 : 0 < b := by omega
    go_enter Tryd.func37, Tryd.ntmps37
    go_wp2
    all_goals go_ret
    all_goals exact ⟨ret_u32 HQ.out.symm, rfl⟩

def recN (o a b i : Int) : Int :=
  if o = 1 then i % 4294967296 else
  if o = 2 then i % 4294967296 * 65536 % 4294967296 else
  if o = 3 then b else
  if o = 4 then (a + b) % 4294967296 else
  if o = 5 then (a + -b % 4294967296) % 4294967296 else
  if o = 6 then a * b % 4294967296 else
  if o = 7 then quoN a b else
  if o = 8 then bits .and .u32 a b else
  if o = 9 then bits .or .u32 a b else
  if o = 10 then bits .xor .u32 a b else
  if o = 11 then a * 2 ^ (b % 32).toNat % 4294967296 else
  if o = 12 then a / 2 ^ (b % 32).toNat else
  if o = 13 then (a + i % 4294967296) % 4294967296 else
  a
end Go.Proofs.YtcdoofjddhlodaaDoor
