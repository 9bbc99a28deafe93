/- The closed facts of the row of SchemaNames (nothing is claimed here). -/
import Derived.Test.YtcbjnifoojjipaaGreatDoorRows
import Derived.Lay
import Derived.ProofKit
import Derived.OpenShut
import Derived.Stop.Joined
namespace Go.Proofs.YtcbjnifoojjipaaGreatDoor
open Go.ChangeShapes Go.WideShapes Go.ChangeAt Go.RowKit
theorem schemaNames_facts : joinedFacts Tryz.pinned.checked.prog 3 Tryz.f3 Rows.schemaNamesSpec Rows.schemaNamesRow = true := by kernel_rfl
end Go.Proofs.YtcbjnifoojjipaaGreatDoor
