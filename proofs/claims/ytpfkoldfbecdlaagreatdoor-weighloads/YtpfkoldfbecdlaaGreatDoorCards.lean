/-
  DERIVED. GIVEN WITH THE SEED: THE CARDS: each row of YtpfkoldfbecdlaaGreatDoorRows.lean that lists a variable, with what it lists TIED to the program's text (the seventh form; the later family's looks); each row that meets fmt, with fmt's text TOLD by the authors' own Lean function (tested against real Go, not proved from fmt's source: count such statements apart). THE CARD IS WHAT COUNTS. Prove the row's statement (the work); the ties are given (YtpfkoldfbecdlaaGreatDoorTie.lean); close each card by the builder's one call (the guide's Derived/Test/ToyasCard.lean, 'card_holds'). Laid BY PROGRAM, IN A SANDBOX (cutbox-door.mjs). By AI agents, Wed Nov 11 2026. No macro, syntax, notation, axiom, sorry.
-/
import Derived.Test.YtpfkoldfbecdlaaGreatDoorRows
import GoSem.ClaimSeven
namespace Go.Proofs.YtpfkoldfbecdlaaGreatDoor
namespace Rows

/-- THE TIED CARD OF 'dovetaillaw08.WeighLoads'. -/
def weighLoadsCard : Claim7 := { stood := { row := weighLoadsRow, standIns := [], harness := (true, "c615a275c397ab3d81c7b9dfc2a079e7f7fb5aa2460d617acb930b18e79e1a4b"), looks := true }, kinds := [], alts := [], laidByText := true, laidKinds := [.data, .data, .data, .data, .data, .data, .pinned, .pinned], laidTests := true, laidLooks := .later }
def WeighLoadsCardSaid : Prop := Claim7.holds Tryz.pinned (.plain (OpenSpec.ofChange weighLoadsSpec)) weighLoadsCard

/-- THE TIED CARD OF 'dovetaillaw08.WeighKeys'. -/
def weighKeysCard : Claim7 := { stood := { row := weighKeysRow, standIns := [], harness := (true, "c615a275c397ab3d81c7b9dfc2a079e7f7fb5aa2460d617acb930b18e79e1a4b"), looks := true }, kinds := [], alts := [], laidByText := true, laidKinds := [.data, .data, .data, .pinned], laidTests := true, laidLooks := .later }
def WeighKeysCardSaid : Prop := Claim7.holds Tryz.pinned (.plain (OpenSpec.ofChange weighKeysSpec)) weighKeysCard

/-- THE SECOND FORM's CARD OF 'dovetaillaw08.WeighLoads'. -/
def weighLoadsUptoCard : Claim7 := { stood := { row := weighLoadsUptoRow, standIns := [], harness := (true, "c615a275c397ab3d81c7b9dfc2a079e7f7fb5aa2460d617acb930b18e79e1a4b"), looks := true }, kinds := [], alts := [], laidByText := true, laidKinds := [.data, .data, .data, .data, .data, .data, .pinned, .pinned], laidTests := true, laidLooks := .later }
def WeighLoadsUptoCardSaid : Prop := Claim7.holds Tryz.pinned (.plain (OpenSpec.upto weighLoadsSpec)) weighLoadsUptoCard

/-- THE SECOND FORM's CARD OF 'dovetaillaw08.WeighKeys'. -/
def weighKeysUptoCard : Claim7 := { stood := { row := weighKeysUptoRow, standIns := [], harness := (true, "c615a275c397ab3d81c7b9dfc2a079e7f7fb5aa2460d617acb930b18e79e1a4b"), looks := true }, kinds := [], alts := [], laidByText := true, laidKinds := [.data, .data, .data, .pinned], laidTests := true, laidLooks := .later }
def WeighKeysUptoCardSaid : Prop := Claim7.holds Tryz.pinned (.plain (OpenSpec.upto weighKeysSpec)) weighKeysUptoCard
end Rows
end Go.Proofs.YtpfkoldfbecdlaaGreatDoor
