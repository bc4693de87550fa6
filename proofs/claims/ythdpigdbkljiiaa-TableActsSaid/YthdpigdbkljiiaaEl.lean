/- Processes. -/
import Derived.Test.YthdpigdbkljiiaaSxX
import Derived.Test.YthdpigdbkljiiaaSxT
namespace Go.Proofs.Ythdpigdbkljiiaa
open Go.Sx Go.RowKit
structure E where
  pid : Int
  par : Int
  st : Int
  r0 : Int
  r1 : Int
  r2 : Int
  r3 : Int
  r4 : Int
  r5 : Int
  r6 : Int
  r7 : Int
  pc : Int
  mem : ByteArray
  code : Int
  p0 : Int
  w0 : Bool
  p1 : Int
  w1 : Bool
  p2 : Int
  w2 : Bool
  p3 : Int
  w3 : Bool
  n : Int
  a : Int
  b : Int
  c : Int
deriving DecidableEq
abbrev eC (x : E) : List At := [.v (.int .i64 x.pid), .v (.int .i64 x.par), .v (.int .i64 x.st), .v (.int .u32 x.r0), .v (.int .u32 x.r1), .v (.int .u32 x.r2), .v (.int .u32 x.r3), .v (.int .u32 x.r4), .v (.int .u32 x.r5), .v (.int .u32 x.r6), .v (.int .u32 x.r7), .v (.int .u32 x.pc), .v (.string x.mem), .v (.int .i64 x.code), .v (.int .i64 x.p0), .v (.bool x.w0), .v (.int .i64 x.p1), .v (.bool x.w1), .v (.int .i64 x.p2), .v (.bool x.w2), .v (.int .i64 x.p3), .v (.bool x.w3), .v (.int .u32 x.n), .v (.int .u32 x.a), .v (.int .u32 x.b), .v (.int .u32 x.c)]
def eG (x : E) : List Value := [.int .i64 x.pid, .int .i64 x.par, .int .i64 x.st, .int .u32 x.r0, .int .u32 x.r1, .int .u32 x.r2, .int .u32 x.r3, .int .u32 x.r4, .int .u32 x.r5, .int .u32 x.r6, .int .u32 x.r7, .int .u32 x.pc, .string x.mem, .int .i64 x.code, .int .i64 x.p0, .bool x.w0, .int .i64 x.p1, .bool x.w1, .int .i64 x.p2, .bool x.w2, .int .i64 x.p3, .bool x.w3, .int .u32 x.n, .int .u32 x.a, .int .u32 x.b, .int .u32 x.c]
abbrev e0 : E := ⟨0, 0, 0, 0, 0, 0, 0, 0, 0, 0, 0, 0, ⟨#[]⟩, 0, 0, false, 0, false, 0, false, 0, false, 0, 0, 0, 0⟩
theorem eDen (ρ : Env) (x : E) : dens ρ (eC x) = some (eG x) := rfl
theorem eLen (x : E) : (eG x).length = 26 := rfl
abbrev eV (x : E) : SV := .cv (.agg (eC x))
abbrev rowE (L : List E) : Row := rowL 26 eC e0 L
abbrev newE (L : List E) : Row := rowN 26 eC e0 L 33
abbrev frE (L : List E) : Row := ⟨26, L.length, fun i => eC (L.getD i e0), none, false, true⟩
abbrev rsV (r : Nat) : SV := .cv (.one (.rs r))
abbrev bpV (i : Nat) : SV := .cv (.one (.pt (.bp i 0)))
abbrev trueV : SV := .cv (.one (.lb true))
abbrev intV (x : Int) : SV := .cv (.one (.v (.int .i64 x)))
abbrev intC (x : Int) : List At := [.v (.int .i64 x)]
abbrev rowI (L : List Int) : Row := rowL 1 intC 0 L
abbrev newI (L : List Int) : Row := rowN 1 intC 0 L 3
theorem bytesE : Try.prog.bytesOf 33 = 168 := by kernel_rfl
end Go.Proofs.Ythdpigdbkljiiaa
