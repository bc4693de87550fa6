/- cpu.reckoned, every operation. -/
import Derived.Test.YtcdoofjddhlodaaDoorCpuA1
import Derived.Test.YtcdoofjddhlodaaDoorCpuA2
import Derived.Test.YtcdoofjddhlodaaDoorCpuA3
import Derived.Test.YtcdoofjddhlodaaDoorCpuA4
namespace Go.Proofs.YtcdoofjddhlodaaDoor
open Go.RowKit
set_option linter.unusedVariables false

theorem rec_any (o a b x y i : Int) (w : World) (o0 : 1 ≤ o) (o1 : o ≤ 13) (a0 : 0 ≤ a) (a1 : a < 4294967296) (b0 : 0 ≤ b) (b1 : b < 4294967296) :
    Calls Tryd.prog 22 #[insV o x y i, .int .u32 a, .int .u32 b] w fun e w' => e = .returned (.int .u32 (recN o a b i)) ∧ Below w.heap.size w w' := by
  have hcases : o = 1 ∨ o = 2 ∨ o = 3 ∨ o = 4 ∨ o = 5 ∨ o = 6 ∨ o = 7 ∨ o = 8 ∨ o = 9 ∨ o = 10 ∨ o = 11 ∨ o = 12 ∨ o = 13 := by omega
  rcases hcases with rfl | rfl | rfl | rfl | rfl | rfl | rfl | rfl | rfl | rfl | rfl | rfl | rfl
  · exact rec_1 a b x y i w a0 a1 b0 b1
  · exact rec_2 a b x y i w a0 a1 b0 b1
  · exact rec_3 a b x y i w a0 a1 b0 b1
  · exact rec_4 a b x y i w a0 a1 b0 b1
  · exact rec_5 a b x y i w a0 a1 b0 b1
  · exact rec_6 a b x y i w a0 a1 b0 b1
  · exact rec_7 a b x y i w a0 a1 b0 b1
  · exact rec_8 a b x y i w a0 a1 b0 b1
  · exact rec_9 a b x y i w a0 a1 b0 b1
  · exact rec_10 a b x y i w a0 a1 b0 b1
  · exact rec_11 a b x y i w a0 a1 b0 b1
  · exact rec_12 a b x y i w a0 a1 b0 b1
  · exact rec_13 a b x y i w a0 a1 b0 b1

theorem recN_range (o a b i : Int) (a0 : 0 ≤ a) (a1 : a < 4294967296) (b0 : 0 ≤ b) (b1 : b < 4294967296) : 0 ≤ recN o a b i ∧ recN o a b i < 4294967296 := by
  have h1 := bits_lo_u32 .and a b
  have h2 := bits_hi_u32 .and a b
  have h3 := bits_lo_u32 .or a b
  have h4 := bits_hi_u32 .or a b
  have h5 := bits_lo_u32 .xor a b
  have h6 := bits_hi_u32 .xor a b
  have hq : 0 ≤ quoN a b ∧ quoN a b < 4294967296 := by
    unfold quoN
    split
    · omega
    · exact ⟨Int.ediv_nonneg a0 b0, Int.lt_of_le_of_lt (Int.ediv_le_self b a0) a1⟩
  have hs : 0 ≤ a / 2 ^ (b % 32).toNat ∧ a / 2 ^ (b % 32).toNat < 4294967296 :=
    ⟨Int.ediv_nonneg a0 (Int.le_of_lt (Int.pow_pos (by decide))), Int.lt_of_le_of_lt (Int.ediv_le_self _ a0) a1⟩
  unfold recN
  generalize a * 2 ^ (b % 32).toNat = t
  generalize a * b = u
  repeat' split
  all_goals first | omega | exact hs | exact hq
end Go.Proofs.YtcdoofjddhlodaaDoor
