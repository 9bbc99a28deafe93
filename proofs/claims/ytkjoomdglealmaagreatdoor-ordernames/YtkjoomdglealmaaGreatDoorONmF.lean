/- The closed facts of the row of OrderNames (nothing is claimed here). -/
import Derived.Test.YtkjoomdglealmaaGreatDoorRows
import Derived.Lay
import Derived.ProofKit
import Derived.OpenShut
import Derived.Stop.Joined
namespace Go.Proofs.YtkjoomdglealmaaGreatDoor
open Go.ChangeShapes Go.WideShapes Go.ChangeAt Go.RowKit
theorem orderNames_facts : joinedFacts Tryz.pinned.checked.prog 6 Tryz.f6 Rows.orderNamesSpec Rows.orderNamesRow = true := by kernel_rfl
end Go.Proofs.YtkjoomdglealmaaGreatDoor
