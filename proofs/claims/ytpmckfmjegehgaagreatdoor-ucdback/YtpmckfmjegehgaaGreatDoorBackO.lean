/- UcdBack's arguments, opened (nothing is claimed here). -/
import Derived.Test.YtpmckfmjegehgaaGreatDoorBackW
namespace Go.Proofs.YtpmckfmjegehgaaGreatDoor
open Go.ChangeShapes Go.WideShapes Go.ChangeAt Go.RowKit Go.Vf

set_option maxRecDepth 20000 in
theorem back_open {H : Type} {enc : TypeId × Value → H} {base : Nat} {W : World} (s : ByteArray) (hs : s.size ≤ 281474976710656) (v : Value) (d : DataW H) (pl : List MemPlace) (hok : Value.okWide Tryz.prog W .any base 22 v)
    (h : DataW.Trod enc Tryz.prog W 0 (fun _ => true) true 22 v d pl) (hw : ∀ n ∈ d.weights Tryz.prog 22, n ≤ reachBytes) (W' : World) (hg : Glob W') (hW : W' = W) :
    Calls Tryz.prog 5 #[.string s, v] W' fun e w' => e = .returned (.bool true) ∧ Below W'.heap.size W' w' := by
  subst hW
  obtain ⟨zs, h1, h2, h3⟩ := ints_open v d pl h (okWide_slice Tryz.underlying22 hok) hw
  exact back_walk s hs v zs h2 h3 W' hg h1

end Go.Proofs.YtpmckfmjegehgaaGreatDoor
