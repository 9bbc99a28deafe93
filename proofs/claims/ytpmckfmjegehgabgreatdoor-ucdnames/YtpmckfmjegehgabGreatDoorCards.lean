/-
  DERIVED. GIVEN WITH THE SEED: THE CARDS: each row of YtpmckfmjegehgabGreatDoorRows.lean that lists a variable, with what it lists TIED to the program's text (the seventh form; the later family's looks); each row that meets fmt, with fmt's text TOLD by the authors' own Lean function (tested against real Go, not proved from fmt's source: count such statements apart). THE CARD IS WHAT COUNTS. Prove the row's statement (the work); the ties are given (YtpmckfmjegehgabGreatDoorTie.lean); close each card by the builder's one call (the guide's Derived/Test/ToyasCard.lean, 'card_holds'). Laid BY PROGRAM, IN A SANDBOX (cutbox-door.mjs). By AI agents, Wed Nov 11 2026. No macro, syntax, notation, axiom, sorry.
-/
import Derived.Test.YtpmckfmjegehgabGreatDoorRows
import GoSem.ClaimSeven
namespace Go.Proofs.YtpmckfmjegehgabGreatDoor
namespace Rows

/-- THE TIED CARD OF 'dovetaillaw04.UcdNames'. -/
def ucdNamesCard : Claim7 := { stood := { row := ucdNamesRow, standIns := [], harness := (true, "58d361e4b4436f12041b651d4b864c65431d0ee6c77562da7f7761cde28c553c"), looks := true }, kinds := [], alts := [], laidByText := true, laidKinds := [.data, .data, .data, .data, .pinned, .pinned], laidTests := true, laidLooks := .later }
def UcdNamesCardSaid : Prop := Claim7.holds Tryz.pinned (.plain (OpenSpec.ofChange ucdNamesSpec)) ucdNamesCard

/-- THE SECOND FORM's CARD OF 'dovetaillaw04.UcdNames'. -/
def ucdNamesUptoCard : Claim7 := { stood := { row := ucdNamesUptoRow, standIns := [], harness := (true, "58d361e4b4436f12041b651d4b864c65431d0ee6c77562da7f7761cde28c553c"), looks := true }, kinds := [], alts := [], laidByText := true, laidKinds := [.data, .data, .data, .data, .pinned, .pinned], laidTests := true, laidLooks := .later }
def UcdNamesUptoCardSaid : Prop := Claim7.holds Tryz.pinned (.plain (OpenSpec.upto ucdNamesSpec)) ucdNamesUptoCard
end Rows
end Go.Proofs.YtpmckfmjegehgabGreatDoor
