/- The closed facts of the row of FitChecks (nothing is claimed here). -/
import Derived.Test.YtkjoomdglealmaaGreatDoorRows
import Derived.Lay
import Derived.ProofKit
import Derived.OpenShut
import Derived.Stop.Joined
namespace Go.Proofs.YtkjoomdglealmaaGreatDoor
open Go.ChangeShapes Go.WideShapes Go.ChangeAt Go.RowKit
theorem fitChecks_facts : joinedFacts Tryz.pinned.checked.prog 3 Tryz.f3 Rows.fitChecksSpec Rows.fitChecksRow = true := by kernel_rfl
end Go.Proofs.YtkjoomdglealmaaGreatDoor
