/-
  DERIVED. GIVEN WITH THE SEED: THE CARDS: each row of YtghjmfpjaabilaaGreatDoorRows.lean that lists a variable, with what it lists TIED to the program's text (the seventh form; the later family's looks); each row that meets fmt, with fmt's text TOLD by the authors' own Lean function (tested against real Go, not proved from fmt's source: count such statements apart). THE CARD IS WHAT COUNTS. Prove the row's statement (the work); the ties are given (YtghjmfpjaabilaaGreatDoorTie.lean); close each card by the builder's one call (the guide's Derived/Test/ToyasCard.lean, 'card_holds'). Laid BY PROGRAM, IN A SANDBOX (cutbox-door.mjs). By AI agents, Wed Nov 11 2026. No macro, syntax, notation, axiom, sorry.
-/
import Derived.Test.YtghjmfpjaabilaaGreatDoorRows
import GoSem.ClaimSeven
namespace Go.Proofs.YtghjmfpjaabilaaGreatDoor
namespace Rows

/-- THE TIED CARD OF 'dovetaillaw11.SchemaRoom'. -/
def schemaRoomCard : Claim7 := { stood := { row := schemaRoomRow, standIns := [], harness := (true, "ebf35fcb184541f3032777eddba607075bf13690c64930eee2e2f38f1d1b7e18"), looks := true }, kinds := [], alts := [], laidByText := true, laidKinds := [.data, .data, .data, .handle], laidTests := true, laidLooks := .later }
def SchemaRoomCardSaid : Prop := Claim7.holds Tryz.pinned (.plain (OpenSpec.ofChange schemaRoomSpec)) schemaRoomCard

/-- THE SECOND FORM's CARD OF 'dovetaillaw11.SchemaRoom'. -/
def schemaRoomUptoCard : Claim7 := { stood := { row := schemaRoomUptoRow, standIns := [], harness := (true, "ebf35fcb184541f3032777eddba607075bf13690c64930eee2e2f38f1d1b7e18"), looks := true }, kinds := [], alts := [], laidByText := true, laidKinds := [.data, .data, .data, .handle], laidTests := true, laidLooks := .later }
def SchemaRoomUptoCardSaid : Prop := Claim7.holds Tryz.pinned (.plain (OpenSpec.upto schemaRoomSpec)) schemaRoomUptoCard
end Rows
end Go.Proofs.YtghjmfpjaabilaaGreatDoor
