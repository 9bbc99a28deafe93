/- Calls that came in, and ShelfPlays (nothing is claimed here). -/
import Derived.Test.YtklnnkdcnaieoaaPlw
namespace Go.Proofs.Ytklnnkdcnaieoaa
open Go.ChangeShapes Go.WideShapes Go.ChangeAt Go.RowKit Go.Vf

theorem plays_open {H : Type} {enc : TypeId × Value → H} {base : Nat} {W : World} (v0 : Value) (d0 : DataW H) (p0 : List MemPlace) (ok0 : Value.okWide Try.prog W .any base 22 v0) (h0 : DataW.Trod enc Try.prog W 0 (fun _ => true) true 22 v0 d0 p0) (W' : World) (hW : W' = W) :
    Calls Try.prog 3 #[v0] W' fun e w' => e = .returned (.bool true) ∧ Below W'.heap.size W' w' := by
  subst hW
  obtain ⟨l, a, c, rfl, hA, hl⟩ := calls_open v0 d0 p0 ok0 h0
  exact plays_walk W' a c l hA hl
end Go.Proofs.Ytklnnkdcnaieoaa
