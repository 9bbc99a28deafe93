/- ValueSame for any two parts that came in (contracts; nothing is claimed here). -/
import Derived.Test.YtedmmifflbnmbaaSamV
import Derived.Test.YtedmmifflbnmbaaPrtO
namespace Go.Proofs.Ytedmmifflbnmbaa
open Go.RowKit Go.Vf
set_option maxRecDepth 20000 in
theorem vsame_open {H : Type} {enc : TypeId × Value → H} {base : Nat} {W : World} (v : Value) (d : DataW H) (pl : List MemPlace) (hok : Value.okWide Try.prog W .any base 27 v)
    (h : DataW.Trod enc Try.prog W 0 (fun _ => true) true 27 v d pl) (hw : ∀ n ∈ d.weights Try.prog 27, n ≤ reachBytes) (v2 : Value) (d2 : DataW H) (pl2 : List MemPlace) (hok2 : Value.okWide Try.prog W .any base 27 v2)
    (h2 : DataW.Trod enc Try.prog W 0 (fun _ => true) true 27 v2 d2 pl2) (hw2 : ∀ n ∈ d2.weights Try.prog 27, n ≤ reachBytes) : Calls Try.prog 5 #[v, v2] W fun e w' => e = .returned (.bool true) ∧ Below W.heap.size W w' := by
  obtain ⟨p, a, c, rfl, hp, hf⟩ := part_open v d pl hok h hw
  obtain ⟨q, a2, c2, rfl, hq, hf2⟩ := part_open v2 d2 pl2 hok2 h2 hw2
  exact vsame_any p q hf hf2 a a2 c c2 0 W.heap.size 0 W.heap.size W (Nat.le_refl _) (Nat.le_refl _) hp hq
end Go.Proofs.Ytedmmifflbnmbaa
