/-
  DERIVED. GIVEN WITH THE SEED: THE CARDS: each row of YtkcnjnccdafbfaaGreatDoorRows.lean that lists a variable, with what it lists TIED to the program's text (the seventh form; the later family's looks); each row that meets fmt, with fmt's text TOLD by the authors' own Lean function (tested against real Go, not proved from fmt's source: count such statements apart). THE CARD IS WHAT COUNTS. Prove the row's statement (the work); the ties are given (YtkcnjnccdafbfaaGreatDoorTie.lean); close each card by the builder's one call (the guide's Derived/Test/ToyasCard.lean, 'card_holds'). Laid BY PROGRAM, IN A SANDBOX (cutbox-door.mjs). By AI agents, Wed Nov 11 2026. No macro, syntax, notation, axiom, sorry.
-/
import Derived.Test.YtkcnjnccdafbfaaGreatDoorRows
import GoSem.ClaimSeven
namespace Go.Proofs.YtkcnjnccdafbfaaGreatDoor
namespace Rows

/-- THE TIED CARD OF 'dovetaillaw07.MatchSteps'. -/
def matchStepsCard : Claim7 := { stood := { row := matchStepsRow, standIns := [], harness := (true, "e60e3683136837d5c1be2c25865a21c9f48a0c11891186f437ebb7d9c8166bb9"), looks := true }, kinds := [], alts := [], laidByText := true, laidKinds := [.data, .pinned], laidTests := true, laidLooks := .later }
def MatchStepsCardSaid : Prop := Claim7.holds Tryz.pinned (.plain (OpenSpec.ofChange matchStepsSpec)) matchStepsCard

/-- THE TIED CARD OF 'dovetaillaw07.MatchSingles'. -/
def matchSinglesCard : Claim7 := { stood := { row := matchSinglesRow, standIns := [], harness := (true, "e60e3683136837d5c1be2c25865a21c9f48a0c11891186f437ebb7d9c8166bb9"), looks := true }, kinds := [], alts := [], laidByText := true, laidKinds := [.data, .pinned], laidTests := true, laidLooks := .later }
def MatchSinglesCardSaid : Prop := Claim7.holds Tryz.pinned (.plain (OpenSpec.ofChange matchSinglesSpec)) matchSinglesCard

/-- THE TIED CARD OF 'dovetaillaw07.MatchTails'. -/
def matchTailsCard : Claim7 := { stood := { row := matchTailsRow, standIns := [], harness := (true, "e60e3683136837d5c1be2c25865a21c9f48a0c11891186f437ebb7d9c8166bb9"), looks := true }, kinds := [], alts := [], laidByText := true, laidKinds := [.data, .pinned], laidTests := true, laidLooks := .later }
def MatchTailsCardSaid : Prop := Claim7.holds Tryz.pinned (.plain (OpenSpec.ofChange matchTailsSpec)) matchTailsCard

/-- THE SECOND FORM's CARD OF 'dovetaillaw07.MatchSteps'. -/
def matchStepsUptoCard : Claim7 := { stood := { row := matchStepsUptoRow, standIns := [], harness := (true, "e60e3683136837d5c1be2c25865a21c9f48a0c11891186f437ebb7d9c8166bb9"), looks := true }, kinds := [], alts := [], laidByText := true, laidKinds := [.data, .pinned], laidTests := true, laidLooks := .later }
def MatchStepsUptoCardSaid : Prop := Claim7.holds Tryz.pinned (.plain (OpenSpec.upto matchStepsSpec)) matchStepsUptoCard

/-- THE SECOND FORM's CARD OF 'dovetaillaw07.MatchSingles'. -/
def matchSinglesUptoCard : Claim7 := { stood := { row := matchSinglesUptoRow, standIns := [], harness := (true, "e60e3683136837d5c1be2c25865a21c9f48a0c11891186f437ebb7d9c8166bb9"), looks := true }, kinds := [], alts := [], laidByText := true, laidKinds := [.data, .pinned], laidTests := true, laidLooks := .later }
def MatchSinglesUptoCardSaid : Prop := Claim7.holds Tryz.pinned (.plain (OpenSpec.upto matchSinglesSpec)) matchSinglesUptoCard

/-- THE SECOND FORM's CARD OF 'dovetaillaw07.MatchTails'. -/
def matchTailsUptoCard : Claim7 := { stood := { row := matchTailsUptoRow, standIns := [], harness := (true, "e60e3683136837d5c1be2c25865a21c9f48a0c11891186f437ebb7d9c8166bb9"), looks := true }, kinds := [], alts := [], laidByText := true, laidKinds := [.data, .pinned], laidTests := true, laidLooks := .later }
def MatchTailsUptoCardSaid : Prop := Claim7.holds Tryz.pinned (.plain (OpenSpec.upto matchTailsSpec)) matchTailsUptoCard
end Rows
end Go.Proofs.YtkcnjnccdafbfaaGreatDoor
