/- What stays while a range goes on (lemmas; nothing is claimed here). -/
import Derived.Test.YtklnnkdcnaieoaaMem
import Derived.RangeFuncNested
import Derived.RangeFuncBound
import Derived.RangeFuncCalls
import Derived.RangeFuncLeaves
import Derived.Shelf.Abstract
import Derived.Shelf.RegionOpen
import Derived.OwnWalkIn
import Derived.TacticsInMore
import Derived.LoopNIn
import Derived.LoopIn
namespace Go.Proofs.Ytklnnkdcnaieoaa
open Go.RowKit Go.Vf

/-- The types of the blocks that stay while a range goes on: nodes, spans, the functions that pairs are told to. -/
def KT (t : TypeId) : Prop := t = 66 ∨ t = 29 ∨ t = 68
structure KeepT (w w' : World) : Prop where
  size : w.heap.size ≤ w'.heap.size
  same : ∀ b t cs, KT t → Blk w b t cs → Blk w' b t cs
theorem KeepT.refl (w : World) : KeepT w w := ⟨Nat.le_refl _, fun _ _ _ _ h => h⟩
theorem KeepT.trans {a b c : World} (h : KeepT a b) (k : KeepT b c) : KeepT a c := ⟨Nat.le_trans h.size k.size, fun x t cs ht q => k.same x t cs ht (h.same x t cs ht q)⟩
theorem KeepT.of {w w' : World} (h : Below w.heap.size w w') : KeepT w w' := ⟨h.size, fun _ _ _ _ q => q.old h⟩
theorem KeepT.nodes {w w' : World} (h : KeepT w w') : KeepN w w' := ⟨h.size, fun b cs q => h.same b 66 cs (.inl rfl) q⟩
theorem KeepT.oth {B : Nat} {w w' : World} {t : TypeId} {cs : Array Value} (h : Oth B w w') (hB : Blk w B t cs) (ht : ¬ KT t) : KeepT w w' :=
  ⟨h.size, fun _ _ _ hu q => h.blk q (q.apart hB (fun e => ht (e ▸ hu)))⟩
theorem KeepT.put (W : World) (l : Nat) (o o' : Obj) (h : W.heap[l]? = some o) (ho : o.isCells = false) : KeepT W (W.putObj l o') := by
  refine ⟨by show _ ≤ (W.heap.setIfInBounds l o').size; simp, fun b t cs _ q => ?_⟩
  have hn : b ≠ l := by
    rintro rfl
    have e := h.symm.trans q
    injection e with e
    subst e
    cases ho
  exact (World.putObj_heap_other hn).trans q
theorem own_at {B k : Nat} {o : Obj} (hk : k < B) {α : Type} : OwnFrom (β := List α) B (fun _ W => W.heap[k]? = some o) := fun s A C row hs hg hr =>
  (hg.block k (Array.getElem?_eq_some_iff.1 hs).1 (fun e => by have := (hr k e.symm).1; omega)).trans hs
theorem own_more {β : Type} {B C : Nat} {I : β → World → Prop} (h : OwnFrom B I) (hBC : B ≤ C) : OwnFrom C I := fun s A D row hs hg hr => h s A D row hs hg (fun r e => ⟨Nat.le_trans hBC (hr r e).1, (hr r e).2⟩)

end Go.Proofs.Ytklnnkdcnaieoaa
