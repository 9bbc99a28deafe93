/- The closed facts of the row of FitTurns (nothing is claimed here). -/
import Derived.Test.YtkjoomdglealmaaGreatDoorRows
import Derived.Lay
import Derived.ProofKit
import Derived.OpenShut
import Derived.Stop.Joined
namespace Go.Proofs.YtkjoomdglealmaaGreatDoor
open Go.ChangeShapes Go.WideShapes Go.ChangeAt Go.RowKit
theorem fitTurns_facts : joinedFacts Tryz.pinned.checked.prog 5 Tryz.f5 Rows.fitTurnsSpec Rows.fitTurnsRow = true := by kernel_rfl
end Go.Proofs.YtkjoomdglealmaaGreatDoor
