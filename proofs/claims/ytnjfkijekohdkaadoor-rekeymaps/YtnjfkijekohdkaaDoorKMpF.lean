/- The closed facts of the row of RekeyMaps (nothing is claimed here). -/
import Derived.Test.YtnjfkijekohdkaaDoorRows
import Derived.Lay
import Derived.ProofKit
import Derived.OpenShut
import Derived.Stop.Joined
namespace Go.Proofs.YtnjfkijekohdkaaDoor
open Go.ChangeShapes Go.WideShapes Go.ChangeAt Go.RowKit
theorem rekeyMaps_facts : joinedFacts Tryd.pinned.checked.prog 4 Tryd.f4 Rows.rekeyMapsSpec Rows.rekeyMapsRow = true := by kernel_rfl
end Go.Proofs.YtnjfkijekohdkaaDoor
