/-
  DERIVED. GIVEN WITH THE SEED: THE CARDS: each row of YtfhpgmlfgjfknaaGreatDoorRows.lean that lists a variable, with what it lists TIED to the program's text (the seventh form; the later family's looks); each row that meets fmt, with fmt's text TOLD by the authors' own Lean function (tested against real Go, not proved from fmt's source: count such statements apart). THE CARD IS WHAT COUNTS. Prove the row's statement (the work); the ties are given (YtfhpgmlfgjfknaaGreatDoorTie.lean); close each card by the builder's one call (the guide's Derived/Test/ToyasCard.lean, 'card_holds'). Laid BY PROGRAM, IN A SANDBOX (cutbox-door.mjs). By AI agents, Wed Nov 11 2026. No macro, syntax, notation, axiom, sorry.
-/
import Derived.Test.YtfhpgmlfgjfknaaGreatDoorRows
import GoSem.ClaimSeven
namespace Go.Proofs.YtfhpgmlfgjfknaaGreatDoor
namespace Rows

/-- THE TIED CARD OF 'dovetaillaw08.WeighOrders'. -/
def weighOrdersCard : Claim7 := { stood := { row := weighOrdersRow, standIns := [], harness := (true, "0a16f1fe035f3c40dedce7f27e6d4ccff5772c18e327580fa84a190a106bd36d"), looks := true }, kinds := [], alts := [], laidByText := true, laidKinds := [.data, .data, .data, .pinned], laidTests := true, laidLooks := .later }
def WeighOrdersCardSaid : Prop := Claim7.holds Tryz.pinned (.plain (OpenSpec.ofChange weighOrdersSpec)) weighOrdersCard

/-- THE TIED CARD OF 'dovetaillaw08.WeighSame'. -/
def weighSameCard : Claim7 := { stood := { row := weighSameRow, standIns := [], harness := (true, "0a16f1fe035f3c40dedce7f27e6d4ccff5772c18e327580fa84a190a106bd36d"), looks := true }, kinds := [], alts := [], laidByText := true, laidKinds := [.data, .data, .data, .pinned], laidTests := true, laidLooks := .later }
def WeighSameCardSaid : Prop := Claim7.holds Tryz.pinned (.plain (OpenSpec.ofChange weighSameSpec)) weighSameCard

/-- THE TIED CARD OF 'dovetaillaw08.WeighStrong'. -/
def weighStrongCard : Claim7 := { stood := { row := weighStrongRow, standIns := [], harness := (true, "0a16f1fe035f3c40dedce7f27e6d4ccff5772c18e327580fa84a190a106bd36d"), looks := true }, kinds := [], alts := [], laidByText := true, laidKinds := [.data, .data, .data, .pinned], laidTests := true, laidLooks := .later }
def WeighStrongCardSaid : Prop := Claim7.holds Tryz.pinned (.plain (OpenSpec.ofChange weighStrongSpec)) weighStrongCard

/-- THE TIED CARD OF 'dovetaillaw08.WeighBack'. -/
def weighBackCard : Claim7 := { stood := { row := weighBackRow, standIns := [], harness := (true, "0a16f1fe035f3c40dedce7f27e6d4ccff5772c18e327580fa84a190a106bd36d"), looks := true }, kinds := [], alts := [], laidByText := true, laidKinds := [.data, .data, .data, .data, .data, .data, .pinned, .pinned], laidTests := true, laidLooks := .later }
def WeighBackCardSaid : Prop := Claim7.holds Tryz.pinned (.plain (OpenSpec.ofChange weighBackSpec)) weighBackCard

/-- THE TIED CARD OF 'dovetaillaw08.WeighNil'. -/
def weighNilCard : Claim7 := { stood := { row := weighNilRow, standIns := [], harness := (true, "0a16f1fe035f3c40dedce7f27e6d4ccff5772c18e327580fa84a190a106bd36d"), looks := true }, kinds := [], alts := [], laidByText := true, laidKinds := [.data, .data, .data, .data, .data, .data, .pinned, .pinned], laidTests := true, laidLooks := .later }
def WeighNilCardSaid : Prop := Claim7.holds Tryz.pinned (.plain (OpenSpec.ofChange weighNilSpec)) weighNilCard

/-- THE TIED CARD OF 'dovetaillaw08.WeighNames'. -/
def weighNamesCard : Claim7 := { stood := { row := weighNamesRow, standIns := [], harness := (true, "0a16f1fe035f3c40dedce7f27e6d4ccff5772c18e327580fa84a190a106bd36d"), looks := true }, kinds := [], alts := [], laidByText := true, laidKinds := [.data, .data, .data, .pinned], laidTests := true, laidLooks := .later }
def WeighNamesCardSaid : Prop := Claim7.holds Tryz.pinned (.plain (OpenSpec.ofChange weighNamesSpec)) weighNamesCard

/-- THE SECOND FORM's CARD OF 'dovetaillaw08.WeighOrders'. -/
def weighOrdersUptoCard : Claim7 := { stood := { row := weighOrdersUptoRow, standIns := [], harness := (true, "0a16f1fe035f3c40dedce7f27e6d4ccff5772c18e327580fa84a190a106bd36d"), looks := true }, kinds := [], alts := [], laidByText := true, laidKinds := [.data, .data, .data, .pinned], laidTests := true, laidLooks := .later }
def WeighOrdersUptoCardSaid : Prop := Claim7.holds Tryz.pinned (.plain (OpenSpec.upto weighOrdersSpec)) weighOrdersUptoCard

/-- THE SECOND FORM's CARD OF 'dovetaillaw08.WeighSame'. -/
def weighSameUptoCard : Claim7 := { stood := { row := weighSameUptoRow, standIns := [], harness := (true, "0a16f1fe035f3c40dedce7f27e6d4ccff5772c18e327580fa84a190a106bd36d"), looks := true }, kinds := [], alts := [], laidByText := true, laidKinds := [.data, .data, .data, .pinned], laidTests := true, laidLooks := .later }
def WeighSameUptoCardSaid : Prop := Claim7.holds Tryz.pinned (.plain (OpenSpec.upto weighSameSpec)) weighSameUptoCard

/-- THE SECOND FORM's CARD OF 'dovetaillaw08.WeighStrong'. -/
def weighStrongUptoCard : Claim7 := { stood := { row := weighStrongUptoRow, standIns := [], harness := (true, "0a16f1fe035f3c40dedce7f27e6d4ccff5772c18e327580fa84a190a106bd36d"), looks := true }, kinds := [], alts := [], laidByText := true, laidKinds := [.data, .data, .data, .pinned], laidTests := true, laidLooks := .later }
def WeighStrongUptoCardSaid : Prop := Claim7.holds Tryz.pinned (.plain (OpenSpec.upto weighStrongSpec)) weighStrongUptoCard

/-- THE SECOND FORM's CARD OF 'dovetaillaw08.WeighBack'. -/
def weighBackUptoCard : Claim7 := { stood := { row := weighBackUptoRow, standIns := [], harness := (true, "0a16f1fe035f3c40dedce7f27e6d4ccff5772c18e327580fa84a190a106bd36d"), looks := true }, kinds := [], alts := [], laidByText := true, laidKinds := [.data, .data, .data, .data, .data, .data, .pinned, .pinned], laidTests := true, laidLooks := .later }
def WeighBackUptoCardSaid : Prop := Claim7.holds Tryz.pinned (.plain (OpenSpec.upto weighBackSpec)) weighBackUptoCard

/-- THE SECOND FORM's CARD OF 'dovetaillaw08.WeighNil'. -/
def weighNilUptoCard : Claim7 := { stood := { row := weighNilUptoRow, standIns := [], harness := (true, "0a16f1fe035f3c40dedce7f27e6d4ccff5772c18e327580fa84a190a106bd36d"), looks := true }, kinds := [], alts := [], laidByText := true, laidKinds := [.data, .data, .data, .data, .data, .data, .pinned, .pinned], laidTests := true, laidLooks := .later }
def WeighNilUptoCardSaid : Prop := Claim7.holds Tryz.pinned (.plain (OpenSpec.upto weighNilSpec)) weighNilUptoCard

/-- THE SECOND FORM's CARD OF 'dovetaillaw08.WeighNames'. -/
def weighNamesUptoCard : Claim7 := { stood := { row := weighNamesUptoRow, standIns := [], harness := (true, "0a16f1fe035f3c40dedce7f27e6d4ccff5772c18e327580fa84a190a106bd36d"), looks := true }, kinds := [], alts := [], laidByText := true, laidKinds := [.data, .data, .data, .pinned], laidTests := true, laidLooks := .later }
def WeighNamesUptoCardSaid : Prop := Claim7.holds Tryz.pinned (.plain (OpenSpec.upto weighNamesSpec)) weighNamesUptoCard
end Rows
end Go.Proofs.YtfhpgmlfgjfknaaGreatDoor
