/- UtfBack's arguments, opened (nothing is claimed here). -/
import Derived.Test.YtjlgmoakdaeinaaDoorBackW
import Derived.Test.YtjlgmoakdaeinaaDoorIntsO
namespace Go.Proofs.YtjlgmoakdaeinaaDoor
open Go.ChangeShapes Go.WideShapes Go.ChangeAt Go.RowKit Go.Vf

theorem back_open {H : Type} {enc : TypeId × Value → H} {base : Nat} {W : World} (s : ByteArray) (ws : s.size ≤ maxLen) (v : Value) (d : DataW H) (pl : List MemPlace) (hok : Value.okWide Tryd.prog W .any base 25 v)
    (h : DataW.Trod enc Tryd.prog W 0 (fun _ => true) true 25 v d pl) (W' : World) (ht : Tabs W') (hW : W' = W) :
    Calls Tryd.prog 5 #[.string s, v] W' fun e w' => e = .returned (.bool true) ∧ Below W'.heap.size W' w' := by
  subst hW
  obtain ⟨zs, hv, hl⟩ := ints_open v d pl hok h
  exact back_walk s ws v zs hl W' ht hv

end Go.Proofs.YtjlgmoakdaeinaaDoor
