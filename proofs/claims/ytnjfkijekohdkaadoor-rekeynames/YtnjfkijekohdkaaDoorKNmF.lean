/- The closed facts of the row of RekeyNames (nothing is claimed here). -/
import Derived.Test.YtnjfkijekohdkaaDoorRows
import Derived.Lay
import Derived.ProofKit
import Derived.OpenShut
import Derived.Stop.Joined
namespace Go.Proofs.YtnjfkijekohdkaaDoor
open Go.ChangeShapes Go.WideShapes Go.ChangeAt Go.RowKit
theorem rekeyNames_facts : joinedFacts Tryd.pinned.checked.prog 3 Tryd.f3 Rows.rekeyNamesSpec Rows.rekeyNamesRow = true := by kernel_rfl
end Go.Proofs.YtnjfkijekohdkaaDoor
