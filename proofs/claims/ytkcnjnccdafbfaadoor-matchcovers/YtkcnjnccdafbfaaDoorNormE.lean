/- What slices.Equal at ints, normal.Is and normal.Same do (contracts; nothing is claimed here). -/
import Derived.Test.YtkcnjnccdafbfaaDoorNormF
import Derived.Test.YtkcnjnccdafbfaaDoorSame
namespace Go.Proofs.YtkcnjnccdafbfaaDoor
open Go.RowKit Go.Vf Go.Maps

/-- The Form of numbers is one. -/
def IsForm (L : List Mk) (E : Int → List Int) (ps X : List Int) : Prop := FormOf (classAt L) (flatR E ps) X

theorem form_nil (v : Value) (w : World) : Calls Tryd.prog 9 #[.pointer none, v] w fun e w' => e = .returned (.slice none 0 0) ∧ Below w.heap.size w w' := by
  have hb1 := (Below.refl w.heap.size w).alloc (Nat.le_refl _) (.cells #[.pointer none] 25)
  go_enter Tryd.func9, Tryd.ntmps9
  go_wp2
  go_ret
  exact ⟨rfl, hb1⟩
end Go.Proofs.YtkcnjnccdafbfaaDoor
