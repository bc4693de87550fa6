/- Spans. -/
import Derived.Test.YtpbpgkkfpfenhaaSxX
import Derived.Test.YtpbpgkkfpfenhaaSxT
namespace Go.Proofs.Ytpbpgkkfpfenhaa
open Go.Sx Go.RowKit
abbrev E := Int × Int × Int
abbrev eC (x : E) : List At := [.v (.int .i64 x.1), .v (.int .i64 x.2.1), .v (.int .i64 x.2.2)]
def eG (x : E) : List Value := [.int .i64 x.1, .int .i64 x.2.1, .int .i64 x.2.2]
abbrev e0 : E := (0, 0, 0)
theorem eDen (ρ : Env) (x : E) : dens ρ (eC x) = some (eG x) := rfl
theorem eLen (x : E) : (eG x).length = 3 := rfl
abbrev eV (x : E) : SV := .cv (.agg (eC x))
abbrev rowE (L : List E) : Row := rowL 3 eC e0 L
abbrev newE (L : List E) : Row := rowN 3 eC e0 L 45
abbrev frE (L : List E) : Row := ⟨3, L.length, fun i => eC (L.getD i e0), none, false, true⟩
abbrev rsV (r : Nat) : SV := .cv (.one (.rs r))
abbrev bpV (i : Nat) : SV := .cv (.one (.pt (.bp i 0)))
abbrev trueV : SV := .cv (.one (.lb true))
abbrev intV (x : Int) : SV := .cv (.one (.v (.int .i64 x)))
/-- A heap: its size, its spans. -/
abbrev heapV (r : Nat) (sz : Int) : SV := .cv (.agg [.v (.int .i64 sz), .rs r])
end Go.Proofs.Ytpbpgkkfpfenhaa
