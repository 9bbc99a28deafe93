/- The closed facts of the row of SpanNames (nothing is claimed here). -/
import Derived.Test.YtgefbgpfjbbeaaaGreatDoorRows
import Derived.Lay
import Derived.ProofKit
import Derived.OpenShut
import Derived.Stop.Joined
namespace Go.Proofs.YtgefbgpfjbbeaaaGreatDoor
open Go.ChangeShapes Go.WideShapes Go.ChangeAt Go.RowKit
theorem spanNames_facts : joinedFacts Tryz.pinned.checked.prog 3 Tryz.f3 Rows.spanNamesSpec Rows.spanNamesRow = true := by kernel_rfl
end Go.Proofs.YtgefbgpfjbbeaaaGreatDoor
