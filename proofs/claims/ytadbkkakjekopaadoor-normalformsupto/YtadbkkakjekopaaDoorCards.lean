/-
  DERIVED. GIVEN WITH THE SEED: THE CARDS: each row of YtadbkkakjekopaaDoorRows.lean that lists a variable, with what it lists TIED to the program's text (the seventh form; the later family's looks); each row that meets fmt, with fmt's text TOLD by the authors' own Lean function (tested against real Go, not proved from fmt's source: count such statements apart). THE CARD IS WHAT COUNTS. Prove the row's statement (the work); the ties are given (YtadbkkakjekopaaDoorTie.lean); close each card by the builder's one call (the guide's Derived/Test/ToyasCard.lean, 'card_holds'). Laid BY PROGRAM, IN A SANDBOX (cutbox-door.mjs). By AI agents, Wed Nov 11 2026. No macro, syntax, notation, axiom, sorry.
-/
import Derived.Test.YtadbkkakjekopaaDoorRows
import GoSem.ClaimSeven
namespace Go.Proofs.YtadbkkakjekopaaDoor
namespace Rows

/-- THE TIED CARD OF 'dovetaillaw05.NormalForms'. -/
def normalFormsCard : Claim7 := { stood := { row := normalFormsRow, standIns := [], harness := (true, "0a776b99c7473f97a7d21164d84a86a64c141589f33bf58a038e9336516b49e5"), looks := true }, kinds := [], alts := [], laidByText := true, laidKinds := [.data, .pinned], laidTests := true, laidLooks := .later }
def NormalFormsCardSaid : Prop := Claim7.holds Tryd.pinned (.plain (OpenSpec.ofChange normalFormsSpec)) normalFormsCard

/-- THE TIED CARD OF 'dovetaillaw05.NormalTwice'. -/
def normalTwiceCard : Claim7 := { stood := { row := normalTwiceRow, standIns := [], harness := (true, "0a776b99c7473f97a7d21164d84a86a64c141589f33bf58a038e9336516b49e5"), looks := true }, kinds := [], alts := [], laidByText := true, laidKinds := [.data, .pinned], laidTests := true, laidLooks := .later }
def NormalTwiceCardSaid : Prop := Claim7.holds Tryd.pinned (.plain (OpenSpec.ofChange normalTwiceSpec)) normalTwiceCard

/-- THE TIED CARD OF 'dovetaillaw05.NormalTurns'. -/
def normalTurnsCard : Claim7 := { stood := { row := normalTurnsRow, standIns := [], harness := (true, "0a776b99c7473f97a7d21164d84a86a64c141589f33bf58a038e9336516b49e5"), looks := true }, kinds := [], alts := [], laidByText := true, laidKinds := [.data, .pinned], laidTests := true, laidLooks := .later }
def NormalTurnsCardSaid : Prop := Claim7.holds Tryd.pinned (.plain (OpenSpec.ofChange normalTurnsSpec)) normalTurnsCard

/-- THE TIED CARD OF 'dovetaillaw05.NormalNil'. -/
def normalNilCard : Claim7 := { stood := { row := normalNilRow, standIns := [], harness := (true, "0a776b99c7473f97a7d21164d84a86a64c141589f33bf58a038e9336516b49e5"), looks := true }, kinds := [], alts := [], laidByText := true, laidKinds := [.data, .pinned], laidTests := true, laidLooks := .later }
def NormalNilCardSaid : Prop := Claim7.holds Tryd.pinned (.plain (OpenSpec.ofChange normalNilSpec)) normalNilCard

/-- THE SECOND FORM's CARD OF 'dovetaillaw05.NormalForms'. -/
def normalFormsUptoCard : Claim7 := { stood := { row := normalFormsUptoRow, standIns := [], harness := (true, "0a776b99c7473f97a7d21164d84a86a64c141589f33bf58a038e9336516b49e5"), looks := true }, kinds := [], alts := [], laidByText := true, laidKinds := [.data, .pinned], laidTests := true, laidLooks := .later }
def NormalFormsUptoCardSaid : Prop := Claim7.holds Tryd.pinned (.plain (OpenSpec.upto normalFormsSpec)) normalFormsUptoCard

/-- THE SECOND FORM's CARD OF 'dovetaillaw05.NormalTwice'. -/
def normalTwiceUptoCard : Claim7 := { stood := { row := normalTwiceUptoRow, standIns := [], harness := (true, "0a776b99c7473f97a7d21164d84a86a64c141589f33bf58a038e9336516b49e5"), looks := true }, kinds := [], alts := [], laidByText := true, laidKinds := [.data, .pinned], laidTests := true, laidLooks := .later }
def NormalTwiceUptoCardSaid : Prop := Claim7.holds Tryd.pinned (.plain (OpenSpec.upto normalTwiceSpec)) normalTwiceUptoCard

/-- THE SECOND FORM's CARD OF 'dovetaillaw05.NormalTurns'. -/
def normalTurnsUptoCard : Claim7 := { stood := { row := normalTurnsUptoRow, standIns := [], harness := (true, "0a776b99c7473f97a7d21164d84a86a64c141589f33bf58a038e9336516b49e5"), looks := true }, kinds := [], alts := [], laidByText := true, laidKinds := [.data, .pinned], laidTests := true, laidLooks := .later }
def NormalTurnsUptoCardSaid : Prop := Claim7.holds Tryd.pinned (.plain (OpenSpec.upto normalTurnsSpec)) normalTurnsUptoCard

/-- THE SECOND FORM's CARD OF 'dovetaillaw05.NormalNil'. -/
def normalNilUptoCard : Claim7 := { stood := { row := normalNilUptoRow, standIns := [], harness := (true, "0a776b99c7473f97a7d21164d84a86a64c141589f33bf58a038e9336516b49e5"), looks := true }, kinds := [], alts := [], laidByText := true, laidKinds := [.data, .pinned], laidTests := true, laidLooks := .later }
def NormalNilUptoCardSaid : Prop := Claim7.holds Tryd.pinned (.plain (OpenSpec.upto normalNilSpec)) normalNilUptoCard
end Rows
end Go.Proofs.YtadbkkakjekopaaDoor
