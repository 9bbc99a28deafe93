/- What the statement RekeyNames does (a contract; nothing is claimed here). -/
import Derived.Test.YtnjfkijekohdkaaDoorKAwk
namespace Go.Proofs.YtnjfkijekohdkaaDoor
open Go.RowKit Go.Vf
theorem rekeyNames_any (w : World) : Calls Tryd.prog 3 #[] w fun e w' => e = .returned (.bool true) ∧ Below w.heap.size w w' := by
  have ha := awake_any w
  go_enter Tryd.func3, Tryd.ntmps3
  go_wp2_with fail
  refine ha.mono ?_
  rintro _ w2 ⟨rfl, hb⟩
  clear ha
  go_wp2_with fail
  go_ret
  exact ⟨rfl, hb⟩
end Go.Proofs.YtnjfkijekohdkaaDoor
