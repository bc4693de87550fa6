/-
  DERIVED. GIVEN WITH THE SEED: THE CARDS: each row of YtnpgfjkenjldlaaDoorRows.lean that lists a variable, with what it lists TIED to the program's text (the seventh form; the later family's looks); each row that meets fmt, with fmt's text TOLD by the authors' own Lean function (tested against real Go, not proved from fmt's source: count such statements apart). THE CARD IS WHAT COUNTS. Prove the row's statement (the work); the ties are given (YtnpgfjkenjldlaaDoorTie.lean); close each card by the builder's one call (the guide's Derived/Test/ToyasCard.lean, 'card_holds'). Laid BY PROGRAM, IN A SANDBOX (cutbox-door.mjs). By AI agents, Wed Nov 11 2026. No macro, syntax, notation, axiom, sorry.
-/
import Derived.Test.YtnpgfjkenjldlaaDoorRows
import GoSem.ClaimSeven
namespace Go.Proofs.YtnpgfjkenjldlaaDoor
namespace Rows

/-- THE TIED CARD OF 'transomlaw01.IsaWords'. -/
def isaWordsCard : Claim7 := { stood := { row := isaWordsRow, standIns := [], harness := (true, "e7db944b1b19b6cb346bb23187eb34c60a5075be6c18b74dc6c7ca8ee0c408ca"), looks := false }, kinds := [], alts := [], laidByText := true, laidKinds := [.data], laidTests := true, laidLooks := .later }
def IsaWordsCardSaid : Prop := Claim7.holds Tryd.pinned (.plain (OpenSpec.ofChange isaWordsSpec)) isaWordsCard

/-- THE TIED CARD OF 'transomlaw01.IsaBytes'. -/
def isaBytesCard : Claim7 := { stood := { row := isaBytesRow, standIns := [], harness := (true, "e7db944b1b19b6cb346bb23187eb34c60a5075be6c18b74dc6c7ca8ee0c408ca"), looks := false }, kinds := [], alts := [], laidByText := true, laidKinds := [.data], laidTests := true, laidLooks := .later }
def IsaBytesCardSaid : Prop := Claim7.holds Tryd.pinned (.plain (OpenSpec.ofChange isaBytesSpec)) isaBytesCard

/-- THE TIED CARD OF 'transomlaw01.IsaBack'. -/
def isaBackCard : Claim7 := { stood := { row := isaBackRow, standIns := [], harness := (true, "e7db944b1b19b6cb346bb23187eb34c60a5075be6c18b74dc6c7ca8ee0c408ca"), looks := false }, kinds := [], alts := [], laidByText := true, laidKinds := [.data], laidTests := true, laidLooks := .later }
def IsaBackCardSaid : Prop := Claim7.holds Tryd.pinned (.plain (OpenSpec.ofChange isaBackSpec)) isaBackCard

/-- THE TIED CARD OF 'transomlaw01.IsaApart'. -/
def isaApartCard : Claim7 := { stood := { row := isaApartRow, standIns := [], harness := (true, "e7db944b1b19b6cb346bb23187eb34c60a5075be6c18b74dc6c7ca8ee0c408ca"), looks := false }, kinds := [], alts := [], laidByText := true, laidKinds := [.data], laidTests := true, laidLooks := .later }
def IsaApartCardSaid : Prop := Claim7.holds Tryd.pinned (.plain (OpenSpec.ofChange isaApartSpec)) isaApartCard

/-- THE TIED CARD OF 'transomlaw01.IsaRows'. -/
def isaRowsCard : Claim7 := { stood := { row := isaRowsRow, standIns := [], harness := (true, "e7db944b1b19b6cb346bb23187eb34c60a5075be6c18b74dc6c7ca8ee0c408ca"), looks := false }, kinds := [], alts := [], laidByText := true, laidKinds := [.data], laidTests := true, laidLooks := .later }
def IsaRowsCardSaid : Prop := Claim7.holds Tryd.pinned (.plain (OpenSpec.ofChange isaRowsSpec)) isaRowsCard

/-- THE TIED CARD OF 'transomlaw01.IsaCuts'. -/
def isaCutsCard : Claim7 := { stood := { row := isaCutsRow, standIns := [], harness := (true, "e7db944b1b19b6cb346bb23187eb34c60a5075be6c18b74dc6c7ca8ee0c408ca"), looks := false }, kinds := [], alts := [], laidByText := true, laidKinds := [.data], laidTests := true, laidLooks := .later }
def IsaCutsCardSaid : Prop := Claim7.holds Tryd.pinned (.plain (OpenSpec.ofChange isaCutsSpec)) isaCutsCard

/-- THE TIED CARD OF 'transomlaw01.IsaFields'. -/
def isaFieldsCard : Claim7 := { stood := { row := isaFieldsRow, standIns := [], harness := (true, "e7db944b1b19b6cb346bb23187eb34c60a5075be6c18b74dc6c7ca8ee0c408ca"), looks := false }, kinds := [], alts := [], laidByText := true, laidKinds := [.data], laidTests := true, laidLooks := .later }
def IsaFieldsCardSaid : Prop := Claim7.holds Tryd.pinned (.plain (OpenSpec.ofChange isaFieldsSpec)) isaFieldsCard

/-- THE TIED CARD OF 'transomlaw01.IsaRegs'. -/
def isaRegsCard : Claim7 := { stood := { row := isaRegsRow, standIns := [], harness := (true, "e7db944b1b19b6cb346bb23187eb34c60a5075be6c18b74dc6c7ca8ee0c408ca"), looks := false }, kinds := [], alts := [], laidByText := true, laidKinds := [.data], laidTests := true, laidLooks := .later }
def IsaRegsCardSaid : Prop := Claim7.holds Tryd.pinned (.plain (OpenSpec.ofChange isaRegsSpec)) isaRegsCard

/-- THE SECOND FORM's CARD OF 'transomlaw01.IsaWords'. -/
def isaWordsUptoCard : Claim7 := { stood := { row := isaWordsUptoRow, standIns := [], harness := (true, "e7db944b1b19b6cb346bb23187eb34c60a5075be6c18b74dc6c7ca8ee0c408ca"), looks := false }, kinds := [], alts := [], laidByText := true, laidKinds := [.data], laidTests := true, laidLooks := .later }
def IsaWordsUptoCardSaid : Prop := Claim7.holds Tryd.pinned (.plain (OpenSpec.upto isaWordsSpec)) isaWordsUptoCard

/-- THE SECOND FORM's CARD OF 'transomlaw01.IsaBytes'. -/
def isaBytesUptoCard : Claim7 := { stood := { row := isaBytesUptoRow, standIns := [], harness := (true, "e7db944b1b19b6cb346bb23187eb34c60a5075be6c18b74dc6c7ca8ee0c408ca"), looks := false }, kinds := [], alts := [], laidByText := true, laidKinds := [.data], laidTests := true, laidLooks := .later }
def IsaBytesUptoCardSaid : Prop := Claim7.holds Tryd.pinned (.plain (OpenSpec.upto isaBytesSpec)) isaBytesUptoCard

/-- THE SECOND FORM's CARD OF 'transomlaw01.IsaBack'. -/
def isaBackUptoCard : Claim7 := { stood := { row := isaBackUptoRow, standIns := [], harness := (true, "e7db944b1b19b6cb346bb23187eb34c60a5075be6c18b74dc6c7ca8ee0c408ca"), looks := false }, kinds := [], alts := [], laidByText := true, laidKinds := [.data], laidTests := true, laidLooks := .later }
def IsaBackUptoCardSaid : Prop := Claim7.holds Tryd.pinned (.plain (OpenSpec.upto isaBackSpec)) isaBackUptoCard

/-- THE SECOND FORM's CARD OF 'transomlaw01.IsaApart'. -/
def isaApartUptoCard : Claim7 := { stood := { row := isaApartUptoRow, standIns := [], harness := (true, "e7db944b1b19b6cb346bb23187eb34c60a5075be6c18b74dc6c7ca8ee0c408ca"), looks := false }, kinds := [], alts := [], laidByText := true, laidKinds := [.data], laidTests := true, laidLooks := .later }
def IsaApartUptoCardSaid : Prop := Claim7.holds Tryd.pinned (.plain (OpenSpec.upto isaApartSpec)) isaApartUptoCard

/-- THE SECOND FORM's CARD OF 'transomlaw01.IsaRows'. -/
def isaRowsUptoCard : Claim7 := { stood := { row := isaRowsUptoRow, standIns := [], harness := (true, "e7db944b1b19b6cb346bb23187eb34c60a5075be6c18b74dc6c7ca8ee0c408ca"), looks := false }, kinds := [], alts := [], laidByText := true, laidKinds := [.data], laidTests := true, laidLooks := .later }
def IsaRowsUptoCardSaid : Prop := Claim7.holds Tryd.pinned (.plain (OpenSpec.upto isaRowsSpec)) isaRowsUptoCard

/-- THE SECOND FORM's CARD OF 'transomlaw01.IsaCuts'. -/
def isaCutsUptoCard : Claim7 := { stood := { row := isaCutsUptoRow, standIns := [], harness := (true, "e7db944b1b19b6cb346bb23187eb34c60a5075be6c18b74dc6c7ca8ee0c408ca"), looks := false }, kinds := [], alts := [], laidByText := true, laidKinds := [.data], laidTests := true, laidLooks := .later }
def IsaCutsUptoCardSaid : Prop := Claim7.holds Tryd.pinned (.plain (OpenSpec.upto isaCutsSpec)) isaCutsUptoCard

/-- THE SECOND FORM's CARD OF 'transomlaw01.IsaFields'. -/
def isaFieldsUptoCard : Claim7 := { stood := { row := isaFieldsUptoRow, standIns := [], harness := (true, "e7db944b1b19b6cb346bb23187eb34c60a5075be6c18b74dc6c7ca8ee0c408ca"), looks := false }, kinds := [], alts := [], laidByText := true, laidKinds := [.data], laidTests := true, laidLooks := .later }
def IsaFieldsUptoCardSaid : Prop := Claim7.holds Tryd.pinned (.plain (OpenSpec.upto isaFieldsSpec)) isaFieldsUptoCard

/-- THE SECOND FORM's CARD OF 'transomlaw01.IsaRegs'. -/
def isaRegsUptoCard : Claim7 := { stood := { row := isaRegsUptoRow, standIns := [], harness := (true, "e7db944b1b19b6cb346bb23187eb34c60a5075be6c18b74dc6c7ca8ee0c408ca"), looks := false }, kinds := [], alts := [], laidByText := true, laidKinds := [.data], laidTests := true, laidLooks := .later }
def IsaRegsUptoCardSaid : Prop := Claim7.holds Tryd.pinned (.plain (OpenSpec.upto isaRegsSpec)) isaRegsUptoCard
end Rows
end Go.Proofs.YtnpgfjkenjldlaaDoor
