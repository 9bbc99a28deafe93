/- ValueBack for every part that came in (nothing is claimed here). -/
import Derived.Test.YtedmmifflbnmbaaBackW
import Derived.Test.YtedmmifflbnmbaaPrtO
namespace Go.Proofs.Ytedmmifflbnmbaa
open Go.RowKit Go.Vf
theorem back_open {H : Type} {enc : TypeId × Value → H} {base : Nat} {W : World} (v : Value) (d : DataW H) (pl : List MemPlace) (hok : Value.okWide Try.prog W .any base 27 v)
    (h : DataW.Trod enc Try.prog W 0 (fun _ => true) true 27 v d pl) (hw : ∀ n ∈ d.weights Try.prog 27, n ≤ reachBytes) : Calls Try.prog 6 #[v] W fun e w' => e = .returned (.bool true) ∧ Below W.heap.size W w' := by
  obtain ⟨p, a, c, rfl, hp, hf⟩ := part_open v d pl hok h hw
  exact back_any p hf a c 0 W.heap.size W (Nat.le_refl _) hp
end Go.Proofs.Ytedmmifflbnmbaa
