/- A range that may be left: what stands behind it is said once (a law; nothing is claimed here). -/
import Derived.Test.YtklnnkdcnaieoaaRnu
namespace Go.Proofs.Ytklnnkdcnaieoaa
open Go.RowKit Go.Vf

theorem range_break {α : Type} {P : Program} {n id : Nat} {g : Operand} {t : Tmp} {assign body : Code} {Q : Exit → Act → World → Prop} {a : Act} {w : World} (h1 : 1 ≤ n) {gf : Nat} {lb : Array Value}
    (hg : a.eval g = .func (.func gf) #[] lb) (eg : ∀ args w, (callFunc gf args).run P w = .ok (.enter gf args) w) {enc : α → Value} {all : List α} (hseq : TellsK (n - 1) P gf lb enc all w)
    (I : List α → World → Prop) (Ib : World → Prop) (hI : OwnFrom w.heap.size I) (hIb : OwnFrom w.heap.size (fun (_ : List α) W => Ib W)) (h0 : I [] w) (hsub : ∀ W, I all W → Ib W)
    (Ax : α → Act → World → Prop) (hAx : ∀ x a', OwnFrom w.heap.size (fun (_ : Unit) W => Ax x a' W))
    (hassign : ∀ (l : Nat) (pre : List α) (x : α) (W : World) (K : Act → World → Prop), I pre W → pre ++ [x] <+: all → (∀ a' W', KeepsFrom w.heap.size W W' → KeepT W W' → I pre W' → Ax x a' W' → K a' W') →
      assign.wpIn (Fence.wide.inRound l) (n - 1 - 1) P (Exit.then K (fun _ _ _ => False)) { tmps := a.tmps.setIfInBounds t (enc x), defers := [] } W)
    (hbody : ∀ (l : Nat) (pre : List α) (x : α) (a' : Act) (W : World), w.heap.size ≤ l → (∃ r, W.heap[l]? = some (.loop r)) → I pre W → Ax x a' W → pre ++ [x] <+: all →
      body.wpIn (Fence.wide.inRound l) (n - 1 - 1) P (ownPostG w.heap.size KeepT I (fun c _ W => c = .exit id ∧ Ib W) (pre ++ [x]) W) a' W)
    (hend : ∀ (D : Nat) (W : World), w.heap.size ≤ D → Ib W → W.heap[D]? = some (.deferred (some [])) → Q .normal { a with defers := { target := .collected D, args := #[] } :: a.defers } W) :
    (Code.rangeFunc g #[t] assign body).wpIn Fence.wide n P (Exit.inBlock id Q) a w := by
  refine range_tellsK h1 hg eg hseq I (fun c _ W => c = .exit id ∧ Ib W) hI (fun c s A C row hs hgr hr => ⟨hs.1, hIb s A C row hs.2 hgr hr⟩) h0 Ax hAx hassign hbody (fun D W hD hi hK => hend D W hD (hsub W hi) hK) ?_
  rintro D c pre W hD hp ⟨rfl, hb⟩ hK
  refine wpIn_exit ?_
  show (if id = id then _ else _)
  rw [if_pos rfl]
  exact hend D W hD hb hK
end Go.Proofs.Ytklnnkdcnaieoaa
