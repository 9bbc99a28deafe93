/-
  DERIVED. GIVEN WITH THE SEED: THE CARDS: each row of YtkjoomdglealmaaGreatDoorRows.lean that lists a variable, with what it lists TIED to the program's text (the seventh form; the later family's looks); each row that meets fmt, with fmt's text TOLD by the authors' own Lean function (tested against real Go, not proved from fmt's source: count such statements apart). THE CARD IS WHAT COUNTS. Prove the row's statement (the work); the ties are given (YtkjoomdglealmaaGreatDoorTie.lean); close each card by the builder's one call (the guide's Derived/Test/ToyasCard.lean, 'card_holds'). Laid BY PROGRAM, IN A SANDBOX (cutbox-door.mjs). By AI agents, Wed Nov 11 2026. No macro, syntax, notation, axiom, sorry.
-/
import Derived.Test.YtkjoomdglealmaaGreatDoorRows
import GoSem.ClaimSeven
namespace Go.Proofs.YtkjoomdglealmaaGreatDoor
namespace Rows

/-- THE TIED CARD OF 'dovetaillaw12.FitChecks'. -/
def fitChecksCard : Claim7 := { stood := { row := fitChecksRow, standIns := [], harness := (true, "ef21646d26e29200c66eebd18f59c8dfc77d8e335b5933329824049803449cea"), looks := true }, kinds := [], alts := [], laidByText := true, laidKinds := [.data, .data, .data, .handle, .data, .data], laidTests := true, laidLooks := .later }
def FitChecksCardSaid : Prop := Claim7.holds Tryz.pinned (.plain (OpenSpec.ofChange fitChecksSpec)) fitChecksCard

/-- THE TIED CARD OF 'dovetaillaw12.FitFields'. -/
def fitFieldsCard : Claim7 := { stood := { row := fitFieldsRow, standIns := [], harness := (true, "ef21646d26e29200c66eebd18f59c8dfc77d8e335b5933329824049803449cea"), looks := true }, kinds := [], alts := [], laidByText := true, laidKinds := [.data, .data, .data, .handle, .data, .data], laidTests := true, laidLooks := .later }
def FitFieldsCardSaid : Prop := Claim7.holds Tryz.pinned (.plain (OpenSpec.ofChange fitFieldsSpec)) fitFieldsCard

/-- THE TIED CARD OF 'dovetaillaw12.FitTurns'. -/
def fitTurnsCard : Claim7 := { stood := { row := fitTurnsRow, standIns := [], harness := (true, "ef21646d26e29200c66eebd18f59c8dfc77d8e335b5933329824049803449cea"), looks := true }, kinds := [], alts := [], laidByText := true, laidKinds := [.data, .data, .data, .handle, .data, .data], laidTests := true, laidLooks := .later }
def FitTurnsCardSaid : Prop := Claim7.holds Tryz.pinned (.plain (OpenSpec.ofChange fitTurnsSpec)) fitTurnsCard

/-- THE TIED CARD OF 'dovetaillaw13.OrderNames'. -/
def orderNamesCard : Claim7 := { stood := { row := orderNamesRow, standIns := [], harness := (true, "ef21646d26e29200c66eebd18f59c8dfc77d8e335b5933329824049803449cea"), looks := true }, kinds := [], alts := [], laidByText := true, laidKinds := [.data, .data, .data, .data, .handle, .data, .data, .pinned], laidTests := true, laidLooks := .later }
def OrderNamesCardSaid : Prop := Claim7.holds Tryz.pinned (.plain (OpenSpec.ofChange orderNamesSpec)) orderNamesCard

/-- THE TIED CARD OF 'dovetaillaw13.OrderThree'. -/
def orderThreeCard : Claim7 := { stood := { row := orderThreeRow, standIns := [], harness := (true, "ef21646d26e29200c66eebd18f59c8dfc77d8e335b5933329824049803449cea"), looks := true }, kinds := [], alts := [], laidByText := true, laidKinds := [.data, .data, .data, .data, .handle, .data, .data, .pinned], laidTests := true, laidLooks := .later }
def OrderThreeCardSaid : Prop := Claim7.holds Tryz.pinned (.plain (OpenSpec.ofChange orderThreeSpec)) orderThreeCard

/-- THE TIED CARD OF 'dovetaillaw13.OrderFalls'. -/
def orderFallsCard : Claim7 := { stood := { row := orderFallsRow, standIns := [], harness := (true, "ef21646d26e29200c66eebd18f59c8dfc77d8e335b5933329824049803449cea"), looks := true }, kinds := [], alts := [], laidByText := true, laidKinds := [.data, .data, .data, .data, .handle, .data, .data, .pinned], laidTests := true, laidLooks := .later }
def OrderFallsCardSaid : Prop := Claim7.holds Tryz.pinned (.plain (OpenSpec.ofChange orderFallsSpec)) orderFallsCard

/-- THE SECOND FORM's CARD OF 'dovetaillaw12.FitChecks'. -/
def fitChecksUptoCard : Claim7 := { stood := { row := fitChecksUptoRow, standIns := [], harness := (true, "ef21646d26e29200c66eebd18f59c8dfc77d8e335b5933329824049803449cea"), looks := true }, kinds := [], alts := [], laidByText := true, laidKinds := [.data, .data, .data, .handle, .data, .data], laidTests := true, laidLooks := .later }
def FitChecksUptoCardSaid : Prop := Claim7.holds Tryz.pinned (.plain (OpenSpec.upto fitChecksSpec)) fitChecksUptoCard

/-- THE SECOND FORM's CARD OF 'dovetaillaw12.FitFields'. -/
def fitFieldsUptoCard : Claim7 := { stood := { row := fitFieldsUptoRow, standIns := [], harness := (true, "ef21646d26e29200c66eebd18f59c8dfc77d8e335b5933329824049803449cea"), looks := true }, kinds := [], alts := [], laidByText := true, laidKinds := [.data, .data, .data, .handle, .data, .data], laidTests := true, laidLooks := .later }
def FitFieldsUptoCardSaid : Prop := Claim7.holds Tryz.pinned (.plain (OpenSpec.upto fitFieldsSpec)) fitFieldsUptoCard

/-- THE SECOND FORM's CARD OF 'dovetaillaw12.FitTurns'. -/
def fitTurnsUptoCard : Claim7 := { stood := { row := fitTurnsUptoRow, standIns := [], harness := (true, "ef21646d26e29200c66eebd18f59c8dfc77d8e335b5933329824049803449cea"), looks := true }, kinds := [], alts := [], laidByText := true, laidKinds := [.data, .data, .data, .handle, .data, .data], laidTests := true, laidLooks := .later }
def FitTurnsUptoCardSaid : Prop := Claim7.holds Tryz.pinned (.plain (OpenSpec.upto fitTurnsSpec)) fitTurnsUptoCard

/-- THE SECOND FORM's CARD OF 'dovetaillaw13.OrderNames'. -/
def orderNamesUptoCard : Claim7 := { stood := { row := orderNamesUptoRow, standIns := [], harness := (true, "ef21646d26e29200c66eebd18f59c8dfc77d8e335b5933329824049803449cea"), looks := true }, kinds := [], alts := [], laidByText := true, laidKinds := [.data, .data, .data, .data, .handle, .data, .data, .pinned], laidTests := true, laidLooks := .later }
def OrderNamesUptoCardSaid : Prop := Claim7.holds Tryz.pinned (.plain (OpenSpec.upto orderNamesSpec)) orderNamesUptoCard

/-- THE SECOND FORM's CARD OF 'dovetaillaw13.OrderThree'. -/
def orderThreeUptoCard : Claim7 := { stood := { row := orderThreeUptoRow, standIns := [], harness := (true, "ef21646d26e29200c66eebd18f59c8dfc77d8e335b5933329824049803449cea"), looks := true }, kinds := [], alts := [], laidByText := true, laidKinds := [.data, .data, .data, .data, .handle, .data, .data, .pinned], laidTests := true, laidLooks := .later }
def OrderThreeUptoCardSaid : Prop := Claim7.holds Tryz.pinned (.plain (OpenSpec.upto orderThreeSpec)) orderThreeUptoCard

/-- THE SECOND FORM's CARD OF 'dovetaillaw13.OrderFalls'. -/
def orderFallsUptoCard : Claim7 := { stood := { row := orderFallsUptoRow, standIns := [], harness := (true, "ef21646d26e29200c66eebd18f59c8dfc77d8e335b5933329824049803449cea"), looks := true }, kinds := [], alts := [], laidByText := true, laidKinds := [.data, .data, .data, .data, .handle, .data, .data, .pinned], laidTests := true, laidLooks := .later }
def OrderFallsUptoCardSaid : Prop := Claim7.holds Tryz.pinned (.plain (OpenSpec.upto orderFallsSpec)) orderFallsUptoCard
end Rows
end Go.Proofs.YtkjoomdglealmaaGreatDoor
