/- What UtfNames does (a contract; nothing is claimed here). -/
import Derived.Test.YtjlgmoakdaeinaaDoorAwake
namespace Go.Proofs.YtjlgmoakdaeinaaDoor
open Go.RowKit Go.Vf

theorem names_walk (w : World) (ht : Tabs w) : Calls Tryd.prog 3 #[] w fun e w' => e = .returned (.bool true) ∧ Below w.heap.size w w' := by
  go_enter Tryd.func3, Tryd.ntmps3
  go_wp2_with fail
  refine (awake_any w ht).mono ?_
  rintro e w1 ⟨rfl, hb1⟩
  go_wp2_with fail
  go_ret
  exact ⟨rfl, hb1⟩

end Go.Proofs.YtjlgmoakdaeinaaDoor
