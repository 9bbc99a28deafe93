/- What came in for MatchCovers, opened (nothing is claimed here). -/
import Derived.Test.YtkcnjnccdafbfaaDoorCovW
import Derived.Test.YtkcnjnccdafbfaaDoorJ16
namespace Go.Proofs.YtkcnjnccdafbfaaDoor
open Go.ChangeShapes Go.WideShapes Go.ChangeAt Go.RowKit Go.Vf

set_option maxRecDepth 100000 in
theorem covers_open {H : Type} {enc : TypeId × Value → H} {base : Nat} {W : World} (v0 : Value) (d0 : DataW H) (p0 : List MemPlace) (ok0 : Value.okWide Tryd.prog W .any base 23 v0) (h0 : DataW.Trod enc Tryd.prog W 0 (fun _ => true) true 23 v0 d0 p0) (y0 : ∀ n ∈ d0.weights Tryd.prog 23, n ≤ reachBytes)
    (v1 : Value) (d1 : DataW H) (p1 : List MemPlace) (ok1 : Value.okWide Tryd.prog W .any base 24 v1) (h1 : DataW.Trod enc Tryd.prog W 0 (fun _ => true) true 24 v1 d1 p1) (y1 : ∀ n ∈ d1.weights Tryd.prog 24, n ≤ reachBytes) (W' : World) (hg : Glob W') (hW : W' = W) :
    Calls Tryd.prog 3 #[v0, v1] W' fun e w' => e = .returned (.bool true) ∧ Below W'.heap.size W' w' := by
  subst hW
  obtain ⟨m, e, rfl, hm, he⟩ := texts_open v0 d0 p0 ok0 h0 y0
  obtain ⟨a, k, c, zs, rfl, ha⟩ := lst_open v1 d1 p1 ok1 h1 y1
  exact covers_walk m e hm he a k c zs W' hg ha
end Go.Proofs.YtkcnjnccdafbfaaDoor
