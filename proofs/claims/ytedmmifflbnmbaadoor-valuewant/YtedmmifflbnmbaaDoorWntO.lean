/- ValueWant for every part and kind that came in (nothing is claimed here). -/
import Derived.Test.YtedmmifflbnmbaaDoorWntW
import Derived.Test.YtedmmifflbnmbaaDoorPrtO
namespace Go.Proofs.YtedmmifflbnmbaaDoor
open Go.RowKit Go.Vf
set_option maxRecDepth 20000 in
theorem want_open {H : Type} {enc : TypeId × Value → H} {base : Nat} {W : World} (v : Value) (d : DataW H) (pl : List MemPlace) (hok : Value.okWide Tryd.prog W .any base 27 v)
    (h : DataW.Trod enc Tryd.prog W 0 (fun _ => true) true 27 v d pl) (hw : ∀ n ∈ d.weights Tryd.prog 27, n ≤ reachBytes) (k : Int) (hk0 : 0 ≤ k) (hk1 : k < 256) (hg : W.cell? ⟨0, 0, none⟩ = some (.iface 112 (.agg #[hnd 37]))) :
    Calls Tryd.prog 3 #[v, .int .u8 k] W fun e w' => e = .returned (.bool true) ∧ Below W.heap.size W w' := by
  obtain ⟨p, a, c, rfl, hp, hf⟩ := part_open v d pl hok h hw
  exact wantLaw_any p hf k hk0 hk1 a c 0 W.heap.size W (Nat.le_refl _) hp hg
end Go.Proofs.YtedmmifflbnmbaaDoor
