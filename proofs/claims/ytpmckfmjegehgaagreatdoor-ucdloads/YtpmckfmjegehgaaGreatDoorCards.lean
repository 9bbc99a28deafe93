/-
  DERIVED. GIVEN WITH THE SEED: THE CARDS: each row of YtpmckfmjegehgaaGreatDoorRows.lean that lists a variable, with what it lists TIED to the program's text (the seventh form; the later family's looks); each row that meets fmt, with fmt's text TOLD by the authors' own Lean function (tested against real Go, not proved from fmt's source: count such statements apart). THE CARD IS WHAT COUNTS. Prove the row's statement (the work); the ties are given (YtpmckfmjegehgaaGreatDoorTie.lean); close each card by the builder's one call (the guide's Derived/Test/ToyasCard.lean, 'card_holds'). Laid BY PROGRAM, IN A SANDBOX (cutbox-door.mjs). By AI agents, Wed Nov 11 2026. No macro, syntax, notation, axiom, sorry.
-/
import Derived.Test.YtpmckfmjegehgaaGreatDoorRows
import GoSem.ClaimSeven
namespace Go.Proofs.YtpmckfmjegehgaaGreatDoor
namespace Rows

/-- THE TIED CARD OF 'dovetaillaw04.UcdLoads'. -/
def ucdLoadsCard : Claim7 := { stood := { row := ucdLoadsRow, standIns := [], harness := (true, "379a2d79b432fdc4c36e2e085a11de95ae3a14e4e3ccf600431fc29fad2bc289"), looks := true }, kinds := [], alts := [], laidByText := true, laidKinds := [.data, .data, .data, .data, .pinned, .pinned], laidTests := true, laidLooks := .later }
def UcdLoadsCardSaid : Prop := Claim7.holds Tryz.pinned (.plain (OpenSpec.ofChange ucdLoadsSpec)) ucdLoadsCard

/-- THE TIED CARD OF 'dovetaillaw04.UcdPrints'. -/
def ucdPrintsCard : Claim7 := { stood := { row := ucdPrintsRow, standIns := [], harness := (true, "379a2d79b432fdc4c36e2e085a11de95ae3a14e4e3ccf600431fc29fad2bc289"), looks := true }, kinds := [], alts := [], laidByText := true, laidKinds := [.data, .data, .data, .data, .pinned, .pinned], laidTests := true, laidLooks := .later }
def UcdPrintsCardSaid : Prop := Claim7.holds Tryz.pinned (.plain (OpenSpec.ofChange ucdPrintsSpec)) ucdPrintsCard

/-- THE TIED CARD OF 'dovetaillaw04.UcdBack'. -/
def ucdBackCard : Claim7 := { stood := { row := ucdBackRow, standIns := [], harness := (true, "379a2d79b432fdc4c36e2e085a11de95ae3a14e4e3ccf600431fc29fad2bc289"), looks := true }, kinds := [], alts := [], laidByText := true, laidKinds := [.data, .data, .data, .data, .pinned, .pinned], laidTests := true, laidLooks := .later }
def UcdBackCardSaid : Prop := Claim7.holds Tryz.pinned (.plain (OpenSpec.ofChange ucdBackSpec)) ucdBackCard

/-- THE TIED CARD OF 'dovetaillaw04.UcdAgain'. -/
def ucdAgainCard : Claim7 := { stood := { row := ucdAgainRow, standIns := [], harness := (true, "379a2d79b432fdc4c36e2e085a11de95ae3a14e4e3ccf600431fc29fad2bc289"), looks := true }, kinds := [], alts := [], laidByText := true, laidKinds := [.data, .data, .data, .data, .pinned, .pinned], laidTests := true, laidLooks := .later }
def UcdAgainCardSaid : Prop := Claim7.holds Tryz.pinned (.plain (OpenSpec.ofChange ucdAgainSpec)) ucdAgainCard

/-- THE TIED CARD OF 'dovetaillaw04.UcdSyllables'. -/
def ucdSyllablesCard : Claim7 := { stood := { row := ucdSyllablesRow, standIns := [], harness := (true, "379a2d79b432fdc4c36e2e085a11de95ae3a14e4e3ccf600431fc29fad2bc289"), looks := true }, kinds := [], alts := [], laidByText := true, laidKinds := [.data, .data, .data, .data, .pinned, .pinned], laidTests := true, laidLooks := .later }
def UcdSyllablesCardSaid : Prop := Claim7.holds Tryz.pinned (.plain (OpenSpec.ofChange ucdSyllablesSpec)) ucdSyllablesCard

/-- THE TIED CARD OF 'dovetaillaw04.UcdNil'. -/
def ucdNilCard : Claim7 := { stood := { row := ucdNilRow, standIns := [], harness := (true, "379a2d79b432fdc4c36e2e085a11de95ae3a14e4e3ccf600431fc29fad2bc289"), looks := true }, kinds := [], alts := [], laidByText := true, laidKinds := [.data, .data, .data, .data, .pinned, .pinned], laidTests := true, laidLooks := .later }
def UcdNilCardSaid : Prop := Claim7.holds Tryz.pinned (.plain (OpenSpec.ofChange ucdNilSpec)) ucdNilCard

/-- THE SECOND FORM's CARD OF 'dovetaillaw04.UcdLoads'. -/
def ucdLoadsUptoCard : Claim7 := { stood := { row := ucdLoadsUptoRow, standIns := [], harness := (true, "379a2d79b432fdc4c36e2e085a11de95ae3a14e4e3ccf600431fc29fad2bc289"), looks := true }, kinds := [], alts := [], laidByText := true, laidKinds := [.data, .data, .data, .data, .pinned, .pinned], laidTests := true, laidLooks := .later }
def UcdLoadsUptoCardSaid : Prop := Claim7.holds Tryz.pinned (.plain (OpenSpec.upto ucdLoadsSpec)) ucdLoadsUptoCard

/-- THE SECOND FORM's CARD OF 'dovetaillaw04.UcdPrints'. -/
def ucdPrintsUptoCard : Claim7 := { stood := { row := ucdPrintsUptoRow, standIns := [], harness := (true, "379a2d79b432fdc4c36e2e085a11de95ae3a14e4e3ccf600431fc29fad2bc289"), looks := true }, kinds := [], alts := [], laidByText := true, laidKinds := [.data, .data, .data, .data, .pinned, .pinned], laidTests := true, laidLooks := .later }
def UcdPrintsUptoCardSaid : Prop := Claim7.holds Tryz.pinned (.plain (OpenSpec.upto ucdPrintsSpec)) ucdPrintsUptoCard

/-- THE SECOND FORM's CARD OF 'dovetaillaw04.UcdBack'. -/
def ucdBackUptoCard : Claim7 := { stood := { row := ucdBackUptoRow, standIns := [], harness := (true, "379a2d79b432fdc4c36e2e085a11de95ae3a14e4e3ccf600431fc29fad2bc289"), looks := true }, kinds := [], alts := [], laidByText := true, laidKinds := [.data, .data, .data, .data, .pinned, .pinned], laidTests := true, laidLooks := .later }
def UcdBackUptoCardSaid : Prop := Claim7.holds Tryz.pinned (.plain (OpenSpec.upto ucdBackSpec)) ucdBackUptoCard

/-- THE SECOND FORM's CARD OF 'dovetaillaw04.UcdAgain'. -/
def ucdAgainUptoCard : Claim7 := { stood := { row := ucdAgainUptoRow, standIns := [], harness := (true, "379a2d79b432fdc4c36e2e085a11de95ae3a14e4e3ccf600431fc29fad2bc289"), looks := true }, kinds := [], alts := [], laidByText := true, laidKinds := [.data, .data, .data, .data, .pinned, .pinned], laidTests := true, laidLooks := .later }
def UcdAgainUptoCardSaid : Prop := Claim7.holds Tryz.pinned (.plain (OpenSpec.upto ucdAgainSpec)) ucdAgainUptoCard

/-- THE SECOND FORM's CARD OF 'dovetaillaw04.UcdSyllables'. -/
def ucdSyllablesUptoCard : Claim7 := { stood := { row := ucdSyllablesUptoRow, standIns := [], harness := (true, "379a2d79b432fdc4c36e2e085a11de95ae3a14e4e3ccf600431fc29fad2bc289"), looks := true }, kinds := [], alts := [], laidByText := true, laidKinds := [.data, .data, .data, .data, .pinned, .pinned], laidTests := true, laidLooks := .later }
def UcdSyllablesUptoCardSaid : Prop := Claim7.holds Tryz.pinned (.plain (OpenSpec.upto ucdSyllablesSpec)) ucdSyllablesUptoCard

/-- THE SECOND FORM's CARD OF 'dovetaillaw04.UcdNil'. -/
def ucdNilUptoCard : Claim7 := { stood := { row := ucdNilUptoRow, standIns := [], harness := (true, "379a2d79b432fdc4c36e2e085a11de95ae3a14e4e3ccf600431fc29fad2bc289"), looks := true }, kinds := [], alts := [], laidByText := true, laidKinds := [.data, .data, .data, .data, .pinned, .pinned], laidTests := true, laidLooks := .later }
def UcdNilUptoCardSaid : Prop := Claim7.holds Tryz.pinned (.plain (OpenSpec.upto ucdNilSpec)) ucdNilUptoCard
end Rows
end Go.Proofs.YtpmckfmjegehgaaGreatDoor
