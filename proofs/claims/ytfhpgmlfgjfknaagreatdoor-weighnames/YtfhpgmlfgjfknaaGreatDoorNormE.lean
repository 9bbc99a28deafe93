/- What slices.Equal at ints, normal.Is and normal.Same do (contracts; nothing is claimed here). -/
import Derived.Test.YtfhpgmlfgjfknaaGreatDoorNormF
import Derived.Test.YtfhpgmlfgjfknaaGreatDoorSame
namespace Go.Proofs.YtfhpgmlfgjfknaaGreatDoor
open Go.RowKit Go.Vf Go.Maps

/-- The Form of numbers is one. -/
def IsForm (L : List Mk) (E : Int → List Int) (ps X : List Int) : Prop := FormOf (classAt L) (flatR E ps) X

theorem form_nil (v : Value) (w : World) : Calls Tryz.prog 20 #[.pointer none, v] w fun e w' => e = .returned (.slice none 0 0) ∧ Below w.heap.size w w' := by
  have hb1 := (Below.refl w.heap.size w).alloc (Nat.le_refl _) (.cells #[.pointer none] 43)
  go_enter Tryz.func20, Tryz.ntmps20
  go_wp2
  go_ret
  exact ⟨rfl, hb1⟩
end Go.Proofs.YtfhpgmlfgjfknaaGreatDoor
