/- What UcdNil does (a contract; nothing is claimed here). -/
import Derived.Test.YtpmckfmjegehgaaGreatDoorAwake
namespace Go.Proofs.YtpmckfmjegehgaaGreatDoor
open Go.RowKit Go.Vf

theorem nil_walk (p : Int) (_hp : (Lit.int .i64 p).wf = true) (w : World) (hg : Glob w) : Calls Tryz.prog 8 #[.int .i64 p] w fun e w' => e = .returned (.bool true) ∧ Below w.heap.size w w' := by
  go_enter Tryz.func8, Tryz.ntmps8
  go_wp2_with fail
  refine (awake_any w hg).mono ?_
  rintro e w1 ⟨rfl, hb1⟩
  go_wp2_with fail
  refine (class_nil p w1).mono ?_
  rintro e w2 ⟨rfl, rfl⟩
  go_wp2_with fail
  refine (parts_nil p w1).mono ?_
  rintro e w2 ⟨rfl, rfl⟩
  go_wp2_with fail
  refine (marks_nil w1).mono ?_
  rintro e w2 ⟨rfl, rfl⟩
  go_wp2_with fail
  go_ret
  exact ⟨rfl, hb1⟩

end Go.Proofs.YtpmckfmjegehgaaGreatDoor
