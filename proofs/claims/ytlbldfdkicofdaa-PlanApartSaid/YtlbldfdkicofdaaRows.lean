/-
  No cell of these rows narrows 'for every input' (looked for: loops, veiled, ifaces, maps, wideKeys, modest, calm, conditions, laid).
  DERIVED. THE GIVEN ROWS OF THIS SEAT. 4 by the template 'for every input the law returns true; each argument reads behind the call as it read before'; 0 by the template 'total and deterministic' (their statements: YtlbldfdkicofdaaTotals.lean).
  GIVEN WITH THE SEED: the statements are not yours to turn. If you find one false, say at which input.
  Laid BY PROGRAM, IN A SANDBOX (cutbox-rows.mjs): the forced cells as the released guide's own fill.sh prints them over the translation 1e3aea91b7d72294… (all of the seat's roots in one cut). By AI agents, Wed Nov 11 2026. No macro, syntax, notation, axiom, sorry.
-/
import Derived.Test.YtlbldfdkicofdaaChecked
import GoSem.Claim
import GoSem.ClaimJoined
import GoSem.ClaimMapViews
import Derived.JoinedTies
import Derived.KernelRfl
namespace Go.Proofs.Ytlbldfdkicofdaa
/- THE CELL 'sum', in the pinned program and in every row, IS THE sha256 OF THE DUMP (.gsa) THAT YtlbldfdkicofdaaProg.lean LOADS. Nothing in Lean hashes anything: it is a label: what it is worth is what the hold of that sum in a sandbox is worth. -/
noncomputable def Try.pinned : Pinned := { name := "ytlbldfdkicofdaa", sum := "1e3aea91b7d72294101896029d1327b869407c16dea3418ef779a61c2c47c748", checked := Try.checked }
namespace Rows
def none {H : Type} : Left H := { results := [], args := [] }

/-- 'transomlaw05.PlanWindows': WHATEVER THE INPUT: true; the input reads as it did. -/
def planWindowsSpec : ChangeSpec := { name := "planWindows", fn := fun _ => fun
  | [d] => { results := [.lit (.bool true)], args := [d] }
  | _ => none }
def planWindowsRow : OpenClaim := { program := "ytlbldfdkicofdaa", sum := "1e3aea91b7d72294101896029d1327b869407c16dea3418ef779a61c2c47c748", func := "transom/transomlaw05.PlanWindows", spec := "planWindows", unfollowed := true, recurses := true, apart := false }
def PlanWindowsSaid : Prop := planWindowsRow.holds Try.pinned (OpenSpec.ofChange planWindowsSpec)

/-- ITS FALSE NEIGHBOUR: 'it returns false'. Refute it at one input. -/
def planWindowsWrong : ChangeSpec := { name := "planWindows", fn := fun _ => fun
  | [d] => { results := [.lit (.bool false)], args := [d] }
  | _ => none }
def PlanWindowsWrongFalsely : Prop := planWindowsRow.holds Try.pinned (OpenSpec.ofChange planWindowsWrong)

/-- 'transomlaw05.PlanApart': WHATEVER THE INPUT: true; the input reads as it did. -/
def planApartSpec : ChangeSpec := { name := "planApart", fn := fun _ => fun
  | [d1, d2] => { results := [.lit (.bool true)], args := [d1, d2] }
  | _ => none }
def planApartRow : OpenClaim := { program := "ytlbldfdkicofdaa", sum := "1e3aea91b7d72294101896029d1327b869407c16dea3418ef779a61c2c47c748", func := "transom/transomlaw05.PlanApart", spec := "planApart", unfollowed := true, recurses := true, apart := false }
def PlanApartSaid : Prop := planApartRow.holds Try.pinned (OpenSpec.ofChange planApartSpec)

/-- ITS FALSE NEIGHBOUR: 'it returns false'. Refute it at one input. -/
def planApartWrong : ChangeSpec := { name := "planApart", fn := fun _ => fun
  | [d1, d2] => { results := [.lit (.bool false)], args := [d1, d2] }
  | _ => none }
def PlanApartWrongFalsely : Prop := planApartRow.holds Try.pinned (OpenSpec.ofChange planApartWrong)

/-- 'transomlaw05.PlanChans': WHATEVER THE INPUT: true; the input reads as it did. -/
def planChansSpec : ChangeSpec := { name := "planChans", fn := fun _ => fun
  | [d] => { results := [.lit (.bool true)], args := [d] }
  | _ => none }
def planChansRow : OpenClaim := { program := "ytlbldfdkicofdaa", sum := "1e3aea91b7d72294101896029d1327b869407c16dea3418ef779a61c2c47c748", func := "transom/transomlaw05.PlanChans", spec := "planChans", unfollowed := true, recurses := true, apart := false }
def PlanChansSaid : Prop := planChansRow.holds Try.pinned (OpenSpec.ofChange planChansSpec)

/-- ITS FALSE NEIGHBOUR: 'it returns false'. Refute it at one input. -/
def planChansWrong : ChangeSpec := { name := "planChans", fn := fun _ => fun
  | [d] => { results := [.lit (.bool false)], args := [d] }
  | _ => none }
def PlanChansWrongFalsely : Prop := planChansRow.holds Try.pinned (OpenSpec.ofChange planChansWrong)

/-- 'transomlaw05.PlanMoved': WHATEVER THE INPUT: true; the input reads as it did. -/
def planMovedSpec : ChangeSpec := { name := "planMoved", fn := fun _ => fun
  | [d1, d2] => { results := [.lit (.bool true)], args := [d1, d2] }
  | _ => none }
def planMovedRow : OpenClaim := { program := "ytlbldfdkicofdaa", sum := "1e3aea91b7d72294101896029d1327b869407c16dea3418ef779a61c2c47c748", func := "transom/transomlaw05.PlanMoved", spec := "planMoved", unfollowed := true, recurses := true, apart := false }
def PlanMovedSaid : Prop := planMovedRow.holds Try.pinned (OpenSpec.ofChange planMovedSpec)

/-- ITS FALSE NEIGHBOUR: 'it returns false'. Refute it at one input. -/
def planMovedWrong : ChangeSpec := { name := "planMoved", fn := fun _ => fun
  | [d1, d2] => { results := [.lit (.bool false)], args := [d1, d2] }
  | _ => none }
def PlanMovedWrongFalsely : Prop := planMovedRow.holds Try.pinned (OpenSpec.ofChange planMovedWrong)

/- THE SECOND FORM. 'bulk': how many values and letters a reading holds, each counted each time it is reached (what is shared counts as often as it is met; a slice's spare places count too). A statement '..UptoSaid' is the law's where the arguments, and the package variables that the reading takes, are together of bulk at most 1048576: NARROWER than '..Said'. Prove '..Said' where nothing that the law and all that it calls make is longer than what came in: it says more and counts as full. Else prove '..UptoSaid'. A law counts once. -/
mutual
def uptoBulk {H : Type} : DataW H → Nat
  | .lit (.string bytes) => bytes.length + 1
  | .lit _ => 1
  | .nil => 1
  | .ptr d => uptoBulk d + 1
  | .slice elems spare => uptoBulkAll elems + uptoBulkAll spare + 1
  | .agg parts => uptoBulkAll parts + 1
  | .iface _ d => uptoBulk d + 1
  | .map entries => uptoBulkEntries entries + 1
  | .held _ => 1
def uptoBulkAll {H : Type} : List (DataW H) → Nat
  | [] => 0
  | d :: r => uptoBulk d + uptoBulkAll r
def uptoBulkEntries {H : Type} : List (Lit × DataW H) → Nat
  | [] => 0
  | x :: r => uptoBulkEntry x + uptoBulkEntries r
def uptoBulkEntry {H : Type} : Lit × DataW H → Nat
  | (.string bytes, d) => bytes.length + uptoBulk d + 1
  | (_, d) => uptoBulk d + 1
 end
def uptoSmall : (H : Type) → List (DataW H) → Bool := fun _ ds => decide (uptoBulkAll ds ≤ 1048576)
def OpenSpec.upto (s : _root_.Go.ChangeSpec) : _root_.Go.OpenSpec := { _root_.Go.OpenSpec.ofChange s with cond := some uptoSmall }

/-- 'transomlaw05.PlanWindows', WHERE WHAT IT READS IS OF BULK AT MOST 1048576: true; the input reads as it did. -/
def planWindowsUptoRow : OpenClaim := { program := "ytlbldfdkicofdaa", sum := "1e3aea91b7d72294101896029d1327b869407c16dea3418ef779a61c2c47c748", func := "transom/transomlaw05.PlanWindows", spec := "planWindows", unfollowed := true, recurses := true, apart := false, narrowed := true }
def PlanWindowsUptoSaid : Prop := planWindowsUptoRow.holds Try.pinned (OpenSpec.upto planWindowsSpec)

/-- 'transomlaw05.PlanApart', WHERE WHAT IT READS IS OF BULK AT MOST 1048576: true; the input reads as it did. -/
def planApartUptoRow : OpenClaim := { program := "ytlbldfdkicofdaa", sum := "1e3aea91b7d72294101896029d1327b869407c16dea3418ef779a61c2c47c748", func := "transom/transomlaw05.PlanApart", spec := "planApart", unfollowed := true, recurses := true, apart := false, narrowed := true }
def PlanApartUptoSaid : Prop := planApartUptoRow.holds Try.pinned (OpenSpec.upto planApartSpec)

/-- 'transomlaw05.PlanChans', WHERE WHAT IT READS IS OF BULK AT MOST 1048576: true; the input reads as it did. -/
def planChansUptoRow : OpenClaim := { program := "ytlbldfdkicofdaa", sum := "1e3aea91b7d72294101896029d1327b869407c16dea3418ef779a61c2c47c748", func := "transom/transomlaw05.PlanChans", spec := "planChans", unfollowed := true, recurses := true, apart := false, narrowed := true }
def PlanChansUptoSaid : Prop := planChansUptoRow.holds Try.pinned (OpenSpec.upto planChansSpec)

/-- 'transomlaw05.PlanMoved', WHERE WHAT IT READS IS OF BULK AT MOST 1048576: true; the input reads as it did. -/
def planMovedUptoRow : OpenClaim := { program := "ytlbldfdkicofdaa", sum := "1e3aea91b7d72294101896029d1327b869407c16dea3418ef779a61c2c47c748", func := "transom/transomlaw05.PlanMoved", spec := "planMoved", unfollowed := true, recurses := true, apart := false, narrowed := true }
def PlanMovedUptoSaid : Prop := planMovedUptoRow.holds Try.pinned (OpenSpec.upto planMovedSpec)

end Rows
end Go.Proofs.Ytlbldfdkicofdaa
