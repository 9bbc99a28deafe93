/-
  DERIVED. GIVEN WITH THE SEED: THE CARDS: each row of YtedmmifflbnmbaaDoorRows.lean that lists a variable, with what it lists TIED to the program's text (the seventh form; the later family's looks); each row that meets fmt, with fmt's text TOLD by the authors' own Lean function (tested against real Go, not proved from fmt's source: count such statements apart). THE CARD IS WHAT COUNTS. Prove the row's statement (the work); the ties are given (YtedmmifflbnmbaaDoorTie.lean); close each card by the builder's one call (the guide's Derived/Test/ToyasCard.lean, 'card_holds'). Laid BY PROGRAM, IN A SANDBOX (cutbox-door.mjs). By AI agents, Wed Nov 11 2026. No macro, syntax, notation, axiom, sorry.
-/
import Derived.Test.YtedmmifflbnmbaaDoorRows
import GoSem.ClaimSeven
namespace Go.Proofs.YtedmmifflbnmbaaDoor
namespace Rows

/-- THE TIED CARD OF 'dovetaillaw09.ValueWant'. -/
def valueWantCard : Claim7 := { stood := { row := valueWantRow, standIns := [], harness := (true, "719deb5d85edb52e6d7d79ef22c71a8bb956506a324ee6fd562906fa5c1a09ed"), looks := true }, kinds := [], alts := [], laidByText := true, laidKinds := [.handle], laidTests := true, laidLooks := .later }
def ValueWantCardSaid : Prop := Claim7.holds Tryd.pinned (.plain (OpenSpec.ofChange valueWantSpec)) valueWantCard

/-- THE SECOND FORM's CARD OF 'dovetaillaw09.ValueWant'. -/
def valueWantUptoCard : Claim7 := { stood := { row := valueWantUptoRow, standIns := [], harness := (true, "719deb5d85edb52e6d7d79ef22c71a8bb956506a324ee6fd562906fa5c1a09ed"), looks := true }, kinds := [], alts := [], laidByText := true, laidKinds := [.handle], laidTests := true, laidLooks := .later }
def ValueWantUptoCardSaid : Prop := Claim7.holds Tryd.pinned (.plain (OpenSpec.upto valueWantSpec)) valueWantUptoCard
end Rows
end Go.Proofs.YtedmmifflbnmbaaDoor
