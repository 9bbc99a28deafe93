/- The closed facts of the row of RekeyGoes (nothing is claimed here). -/
import Derived.Test.YtnjfkijekohdkaaDoorRows
import Derived.Lay
import Derived.ProofKit
import Derived.OpenShut
import Derived.Stop.Joined
namespace Go.Proofs.YtnjfkijekohdkaaDoor
open Go.ChangeShapes Go.WideShapes Go.ChangeAt Go.RowKit
theorem rekeyGoes_facts : joinedFacts Tryd.pinned.checked.prog 5 Tryd.f5 Rows.rekeyGoesSpec Rows.rekeyGoesRow = true := by kernel_rfl
end Go.Proofs.YtnjfkijekohdkaaDoor
