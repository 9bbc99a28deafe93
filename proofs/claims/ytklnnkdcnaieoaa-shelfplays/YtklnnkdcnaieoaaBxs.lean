/- The boxes of the statements' scan (lemmas; nothing is claimed here). -/
import Derived.Test.YtklnnkdcnaieoaaKpx
import Derived.Test.YtklnnkdcnaieoaaAwk
namespace Go.Proofs.Ytklnnkdcnaieoaa
open Go.RowKit Go.Vf

/-- A call, as it is handed in. -/
structure Ca where
  kind : Int
  oth : Bool
  key : ByteArray
  val : ByteArray
  f : ByteArray
  t : ByteArray
  o : Bool
  back : Bool
  early : Int
def Ca.cells (x : Ca) : Array Value := #[.int .i64 x.kind, .bool x.oth, .string x.key, .string x.val, .string x.f, .string x.t, .bool x.o, .bool x.back, .int .i64 x.early]
def Ca.v (x : Ca) : Value := .agg x.cells
theorem Blk.c9 {w : World} {b : Nat} {t : TypeId} {x : Ca} (h : Blk w b t x.cells) : w.cell? ⟨b, 0, none⟩ = some (.int .i64 x.kind) ∧ w.cell? ⟨b, 1, none⟩ = some (.bool x.oth) ∧ w.cell? ⟨b, 2, none⟩ = some (.string x.key) ∧ w.cell? ⟨b, 3, none⟩ = some (.string x.val) ∧ w.cell? ⟨b, 4, none⟩ = some (.string x.f) ∧ w.cell? ⟨b, 5, none⟩ = some (.string x.t) ∧ w.cell? ⟨b, 6, none⟩ = some (.bool x.o) ∧ w.cell? ⟨b, 7, none⟩ = some (.bool x.back) ∧ w.cell? ⟨b, 8, none⟩ = some (.int .i64 x.early) :=
  ⟨h.cell 0, h.cell 1, h.cell 2, h.cell 3, h.cell 4, h.cell 5, h.cell 6, h.cell 7, h.cell 8⟩
/-- The boxes, and the row of what is wanted. -/
structure Bxs (b Nw Ni N wb B C : Nat) (x : Ca) (wv : Value) (all : List Pr) (W : World) : Prop where
  s : Blk W b 24 #[.pointer (some ⟨B, 0, none⟩)]
  r : Blk W (b + 1) 26 #[.pointer (some ⟨C, 0, none⟩)]
  o : Blk W (b + 1 + 1) 31 x.cells
  q : Blk W (b + 1 + 1 + 1) 4 #[.bool false]
  w : Blk W Nw 39 #[wv]
  i : Blk W Ni 50 #[itV N]
  n1 : Blk W N 24 #[.pointer (some ⟨B, 0, none⟩)]
  n2 : Blk W (N + 1) 29 #[.string x.f, .string x.t, .bool x.o]
  n3 : Blk W (N + 1 + 1) 4 #[.bool x.back]
  row : PRow W wb wv all
/-- What changes. -/
def TX (t : TypeId) : Prop := t = 56 ∨ t = 58 ∨ t = 3 ∨ t = 45
theorem TX.nkt {t : TypeId} (h : TX t) : ¬ KT t := by
  rcases h with rfl | rfl | rfl | rfl <;> (unfold KT; decide)
theorem TX.n66 {t : TypeId} (h : TX t) : t ≠ 66 := by
  rcases h with rfl | rfl | rfl | rfl <;> decide
theorem OfT.non {a : World} {E : Nat → Prop} (hE : OfT a E TX) {k : Nat} {t : TypeId} {cs : Array Value} (h : Blk a k t cs) (ht : ¬ TX t) : ¬ E k := fun e => by
  obtain ⟨u, ds, hb, hu⟩ := hE k e
  exact h.apart hb (fun q => ht (q ▸ hu)) rfl
theorem KeepX.bxs {E : Nat → Prop} {a c : World} {b Nw Ni N wb B C : Nat} {x : Ca} {wv : Value} {all : List Pr} (h : KeepX E a c) (hE : OfT a E TX) (hw : ∀ g, wv.ownBlock = some g → ¬ E g) (hb : Bxs b Nw Ni N wb B C x wv all a) : Bxs b Nw Ni N wb B C x wv all c :=
  have q : ∀ {k : Nat} {t : TypeId} {cs : Array Value}, Blk a k t cs → ¬ TX t → Blk c k t cs := fun hk ht => h.blk hk (hE.non hk ht)
  ⟨q hb.s (by unfold TX; decide), q hb.r (by unfold TX; decide), q hb.o (by unfold TX; decide), q hb.q (by unfold TX; decide), q hb.w (by unfold TX; decide), q hb.i (by unfold TX; decide), q hb.n1 (by unfold TX; decide), q hb.n2 (by unfold TX; decide), q hb.n3 (by unfold TX; decide), h.row hb.row hw⟩
theorem Bxs.keep {a c : World} {b Nw Ni N wb B C : Nat} {x : Ca} {wv : Value} {all : List Pr} (hb : Bxs b Nw Ni N wb B C x wv all a) (k : KeepC a c) : Bxs b Nw Ni N wb B C x wv all c :=
  ⟨k.same _ _ _ hb.s, k.same _ _ _ hb.r, k.same _ _ _ hb.o, k.same _ _ _ hb.q, k.same _ _ _ hb.w, k.same _ _ _ hb.i, k.same _ _ _ hb.n1, k.same _ _ _ hb.n2, k.same _ _ _ hb.n3, hb.row.keep k⟩
theorem Bxs.old {a c : World} {b Nw Ni N wb B C : Nat} {x : Ca} {wv : Value} {all : List Pr} (hb : Bxs b Nw Ni N wb B C x wv all a) (k : Below a.heap.size a c) : Bxs b Nw Ni N wb B C x wv all c := hb.keep (.of k)
theorem ofT_one {a : World} {n : Nat} {cs : Array Value} (h : Blk a n 3 cs) : OfT a (fun k => k = n) TX := fun k e => by
  have e2 : k = n := e
  subst e2
  exact ⟨3, cs, h, .inr (.inr (.inl rfl))⟩
end Go.Proofs.Ytklnnkdcnaieoaa
