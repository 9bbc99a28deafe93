/- What stays but for some blocks (lemmas; nothing is claimed here). -/
import Derived.Test.YtklnnkdcnaieoaaRsc
import Derived.Test.YtklnnkdcnaieoaaRnu
namespace Go.Proofs.Ytklnnkdcnaieoaa
open Go.RowKit Go.Vf

/-- All blocks stay but those of E. -/
structure KeepX (E : Nat → Prop) (a b : World) : Prop where
  os : b.os = a.os
  tape : b.tape = a.tape
  output : b.output = a.output
  size : a.heap.size ≤ b.heap.size
  block : ∀ k, k < a.heap.size → ¬ E k → b.heap[k]? = a.heap[k]?
theorem KeepX.refl (E : Nat → Prop) (a : World) : KeepX E a a := ⟨rfl, rfl, rfl, Nat.le_refl _, fun _ _ _ => rfl⟩
theorem KeepX.trans {E E' : Nat → Prop} {a b c : World} (h : KeepX E a b) (k : KeepX E' b c) (hE : ∀ x, x < a.heap.size → E' x → E x) : KeepX E a c :=
  ⟨k.os.trans h.os, k.tape.trans h.tape, k.output.trans h.output, Nat.le_trans h.size k.size, fun x hx hn => (k.block x (Nat.lt_of_lt_of_le hx h.size) (fun e => hn (hE x hx e))).trans (h.block x hx hn)⟩
theorem KeepX.of {E : Nat → Prop} {a b : World} (h : Below a.heap.size a b) : KeepX E a b := ⟨h.os, h.tape, h.output, h.size, fun k hk _ => h.block k hk⟩
theorem KeepX.old {E : Nat → Prop} {a b c : World} (h : KeepX E a b) (k : Below b.heap.size b c) : KeepX E a c := h.trans (KeepX.of (E := fun _ => False) k) (fun _ _ e => e.elim)
theorem KeepX.mono {E E' : Nat → Prop} {a b : World} (h : KeepX E a b) (hE : ∀ x, x < a.heap.size → E x → E' x) : KeepX E' a b := ⟨h.os, h.tape, h.output, h.size, fun k hk hn => h.block k hk (fun e => hn (hE k hk e))⟩
theorem KeepX.set {E : Nat → Prop} {a b : World} (h : KeepX E a b) (p : Addr) (v : Value) (hp : p.block < a.heap.size → E p.block) : KeepX E a (b.setCell p v) :=
  ⟨h.os, h.tape, h.output, by rw [size_setCell]; exact h.size, fun k hk hn => (Below.heap_setCell b p v k (fun e => hn (by subst e; exact hp hk))).trans (h.block k hk hn)⟩
theorem KeepX.chg {B : Nat} {a b : World} (h : Oth B a b) (k : Below B a b) : KeepX (fun x => x = B) a b := ⟨k.os, k.tape, k.output, h.size, fun x hx hn => h.block x hx hn⟩
theorem KeepX.rchg {C base : Nat} {v v' : Value} {M : List Pr} {a b : World} (h : RChd C base v M a b v') : KeepX (fun x => x = C ∨ v.ownBlock = some x) a b :=
  ⟨h.low.os, h.low.tape, h.low.output, h.frm.size, fun x hx hn => h.frm.block x hx (fun e => hn (.inl e)) (fun e => hn (.inr e.symm))⟩
theorem KeepX.blk {E : Nat → Prop} {a b : World} {k : Nat} {t : TypeId} {cs : Array Value} (h : KeepX E a b) (hb : Blk a k t cs) (hn : ¬ E k) : Blk b k t cs := (h.block k hb.lt hn).trans hb
theorem KeepX.below {E : Nat → Prop} {a b : World} {n : Nat} (h : KeepX E a b) (hn : n ≤ a.heap.size) (hE : ∀ k, k < n → ¬ E k) : Below n a b := ⟨h.os, h.tape, h.output, h.size, fun k hk => h.block k (by omega) (hE k hk)⟩
/-- What may change are cells of these types. -/
def OfT (a : World) (E : Nat → Prop) (T : TypeId → Prop) : Prop := ∀ k, E k → ∃ t cs, Blk a k t cs ∧ T t
theorem KeepX.obj {E : Nat → Prop} {T : TypeId → Prop} {a b : World} {k : Nat} {o : Obj} (h : KeepX E a b) (hE : OfT a E T) (ho : a.heap[k]? = some o) (hc : o.isCells = false) : b.heap[k]? = some o := by
  refine (h.block k (Array.getElem?_eq_some_iff.1 ho).1 (fun e => ?_)).trans ho
  obtain ⟨t, cs, hb, _⟩ := hE k e
  have e2 := ho.symm.trans hb
  injection e2 with e2
  subst e2
  cases hc
theorem KeepX.keepT {E : Nat → Prop} {T : TypeId → Prop} {a b : World} (h : KeepX E a b) (hE : OfT a E T) (hT : ∀ t, T t → ¬ KT t) : KeepT a b :=
  ⟨h.size, fun k t cs ht q => h.blk q (fun e => by
    obtain ⟨u, ds, hb, hu⟩ := hE k e
    exact q.apart hb (fun e => hT u hu (e ▸ ht)) rfl)⟩
theorem KeepX.keepsFrom {E : Nat → Prop} {T : TypeId → Prop} {a b : World} (h : KeepX E a b) (hE : OfT a E T) (B : Nat) : KeepsFrom B a b := ⟨h.size, fun _ _ _ ho hc => h.obj hE ho hc⟩
theorem KeepX.sh {E : Nat → Prop} {T : TypeId → Prop} {a b : World} {B : Nat} {L : List Pr} (h : KeepX E a b) (hE : OfT a E T) (hT : ∀ t, T t → t ≠ 66) (hB : ¬ E B) (hs : ShAt a B L) : ShAt b B L := by
  obtain ⟨T', h1, h2, h3⟩ := hs.tree
  refine ⟨hs.srt, T', h1, h2.keep ⟨h.size, fun k cs q => h.blk q (fun e => ?_)⟩, h.blk h3 hB⟩
  obtain ⟨u, ds, hb, hu⟩ := hE k e
  exact q.apart hb (fun e => hT u hu e.symm) rfl
theorem KeepX.row {E : Nat → Prop} {a b : World} {base : Nat} {v : Value} {l : List Pr} (h : KeepX E a b) (hr : PRow a base v l) (hv : ∀ g, v.ownBlock = some g → ¬ E g) : PRow b base v l := by
  refine ⟨hr.1, ?_⟩
  rcases hr.2 with h0 | ⟨g, cap, cur, rfl, hb, hg, hx⟩
  · exact .inl h0
  · exact .inr ⟨g, cap, cur, rfl, hb, h.blk (cs := cur) (t := 45) hg (hv g rfl), hx⟩
theorem KeepX.rf {E : Nat → Prop} {a b : World} {C base : Nat} {v : Value} {l : List Pr} (h : KeepX E a b) (hr : RfAt a C base v l) (hC : ¬ E C) (hv : ∀ g, v.ownBlock = some g → ¬ E g) : RfAt b C base v l := ⟨h.blk hr.box hC, h.row hr.row hv⟩
theorem KeepX.own {β : Type} {B : Nat} {E : Nat → Prop} {a : World} (hB : a.heap.size ≤ B) : OwnFrom (β := β) B (fun _ V => KeepX E a V) := fun s A C row hs hg hr =>
  ⟨hg.os.trans hs.os, hg.tape.trans hs.tape, hg.output.trans hs.output, Nat.le_trans hs.size hg.size, fun k hk hn => (hg.block k (Nat.lt_of_lt_of_le hk hs.size) (fun e => by have := (hr k e.symm).1; omega)).trans (hs.block k hk hn)⟩
theorem RfAt.keep {w w' : World} {C base : Nat} {v : Value} {L : List Pr} (h : RfAt w C base v L) (hk : KeepC w w') : RfAt w' C base v L := ⟨hk.same _ _ _ h.box, h.row.keep hk⟩
theorem PRow.blk {w : World} {b g : Nat} {v : Value} {l : List Pr} (h : PRow w b v l) (hg : v.ownBlock = some g) : ∃ cs, Blk w g 45 cs := by
  rcases h.2 with ⟨rfl, _⟩ | ⟨g', cap, cur, rfl, _, hgc, _⟩
  · cases hg
  · injection hg with hg
    subst hg
    exact ⟨cur, hgc⟩
end Go.Proofs.Ytklnnkdcnaieoaa
