/- The closed facts of the row of SpanMeets (nothing is claimed here). -/
import Derived.Test.YtgefbgpfjbbeaaaGreatDoorRows
import Derived.Lay
import Derived.ProofKit
import Derived.OpenShut
import Derived.Stop.Joined
namespace Go.Proofs.YtgefbgpfjbbeaaaGreatDoor
open Go.ChangeShapes Go.WideShapes Go.ChangeAt Go.RowKit
theorem spanMeets_facts : joinedFacts Tryz.pinned.checked.prog 4 Tryz.f4 Rows.spanMeetsSpec Rows.spanMeetsRow = true := by kernel_rfl
end Go.Proofs.YtgefbgpfjbbeaaaGreatDoor
