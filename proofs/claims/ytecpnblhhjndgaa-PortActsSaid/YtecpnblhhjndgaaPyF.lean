/- Channels and boxes: statements: whatever channel, whatever waits: all ways. -/
import Derived.Test.YtecpnblhhjndgaaPyC
import Derived.Test.YtecpnblhhjndgaaPyE
namespace Go.Proofs.Ytecpnblhhjndgaa
open Go.Sx Go.RowKit
theorem acts_walk (w : World) (c c2 : Value) (L N : List MM) (k f t s d l now l2 : Int) (body : ByteArray) (hrow : ∀ W' ρ, RowOk W' ρ w c (rowM L)) (hrow2 : ∀ W' ρ, RowOk W' ρ w c2 (rowM N)) (hl : L.length ≤ 5864062014650) :
    Calls Try.prog 3 #[.agg #[.int .i64 k, .int .i64 f, .int .i64 t, .int .i64 s, .int .i64 d, c, .int .i64 l, .int .u64 now, .string body, c2, .int .i64 l2]] w fun e w' => e = .returned (.bool true) ∧ Below w.heap.size w w' := by
  by_cases hs : s < body.size
  · match L, hrow, hl with
    | [], hrow, hl => exact a1 w c c2 N k f t s d l now l2 body hs hrow hrow2 hl
    | x :: M, hrow, hl =>
      by_cases hk : k = 1
      · subst hk; exact a2 w c c2 x M N f t s d l now l2 body hs hrow hrow2 hl
      · exact a3 w c c2 x M N k f t s d l now l2 body hs hk hrow hrow2 hl
  · have hs : body.size ≤ s := by omega
    by_cases hk : k = 1
    · subst hk
      match L, hrow, hl with
      | [], hrow, hl => exact a4 w c c2 N f t s d l now l2 body hs hrow hrow2 hl
      | x :: M, hrow, hl => exact a5 w c c2 x M N f t s d l now l2 body hs hrow hrow2 hl
    · by_cases hd : d ≤ L.length
      · match L, hrow, hl, hd with
        | [], hrow, hl, hd => exact a6 w c c2 N k f t s d l now l2 body hs hk hd hrow hrow2 hl
        | x :: M, hrow, hl, hd => exact a7 w c c2 x M N k f t s d l now l2 body hs hk hd hrow hrow2 hl
      · have hd : L.length < d := by omega
        match L, hrow, hl, hd with
        | [], hrow, hl, hd => exact a8 w c c2 N k f t s d l now l2 body hs hk hd hrow hrow2 hl
        | x :: M, hrow, hl, hd => exact a9 w c c2 x M N k f t s d l now l2 body hs hk hd hrow hrow2 hl
end Go.Proofs.Ytecpnblhhjndgaa
