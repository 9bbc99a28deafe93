/- What came in for MatchSame, opened (nothing is claimed here). -/
import Derived.Test.YtkcnjnccdafbfaaDoorSameW
import Derived.Test.YtkcnjnccdafbfaaDoorJ16
namespace Go.Proofs.YtkcnjnccdafbfaaDoor
open Go.ChangeShapes Go.WideShapes Go.ChangeAt Go.RowKit Go.Vf

set_option maxRecDepth 100000 in
theorem same_open {H : Type} {enc : TypeId × Value → H} {base : Nat} {W : World} (v0 : Value) (d0 : DataW H) (p0 : List MemPlace) (ok0 : Value.okWide Tryd.prog W .any base 23 v0) (h0 : DataW.Trod enc Tryd.prog W 0 (fun _ => true) true 23 v0 d0 p0) (y0 : ∀ n ∈ d0.weights Tryd.prog 23, n ≤ reachBytes)
    (v1 : Value) (d1 : DataW H) (p1 : List MemPlace) (ok1 : Value.okWide Tryd.prog W .any base 24 v1) (h1 : DataW.Trod enc Tryd.prog W 0 (fun _ => true) true 24 v1 d1 p1) (y1 : ∀ n ∈ d1.weights Tryd.prog 24, n ≤ reachBytes)
    (v2 : Value) (d2 : DataW H) (p2 : List MemPlace) (ok2 : Value.okWide Tryd.prog W .any base 24 v2) (h2 : DataW.Trod enc Tryd.prog W 0 (fun _ => true) true 24 v2 d2 p2) (y2 : ∀ n ∈ d2.weights Tryd.prog 24, n ≤ reachBytes) (W' : World) (hg : Glob W') (hW : W' = W) :
    Calls Tryd.prog 4 #[v0, v1, v2] W' fun e w' => e = .returned (.bool true) ∧ Below W'.heap.size W' w' := by
  subst hW
  obtain ⟨m, e, rfl, hm, he⟩ := texts_open v0 d0 p0 ok0 h0 y0
  obtain ⟨a, k, c, zs, rfl, ha⟩ := lst_open v1 d1 p1 ok1 h1 y1
  obtain ⟨b, k2, c2, ys, rfl, hb⟩ := lst_open v2 d2 p2 ok2 h2 y2
  exact same_walk m e hm he a b k c k2 c2 zs ys W' hg ha hb
end Go.Proofs.YtkcnjnccdafbfaaDoor
