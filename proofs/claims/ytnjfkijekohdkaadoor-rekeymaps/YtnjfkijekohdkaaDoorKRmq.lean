/- What the document's Map answers at no tuple, and at too many sources (contracts; nothing is claimed here). -/
import Derived.Test.YtnjfkijekohdkaaDoorTell
import Derived.Test.YtnjfkijekohdkaaDoorKGoP
namespace Go.Proofs.YtnjfkijekohdkaaDoor
open Go.RowKit Go.Vf

set_option maxRecDepth 100000 in
theorem resMap_run {tmps : Array Value} {w : World} {A B : Nat} {a0 a1 a2 a3 a4 a5 b0 b1 b2 : Value} (hA : Blk w A 29 #[a0, a1, a2, a3, a4, a5]) (hB : Blk w B 40 #[b0, b1, b2]) (t4 : tmps[4]?.getD undef = .pointer (some ⟨A, 0, none⟩)) (t5 : tmps[5]?.getD undef = .pointer (some ⟨B, 0, none⟩)) :
    (results Tryd.f11 tmps).run Tryd.prog w = .ok (.tuple #[.agg #[a0, a1, a2, a3, a4, a5], .agg #[b0, b1, b2], tmps[6]?.getD undef]) w := by
  obtain ⟨c0, c1, c2, c3, c4, c5⟩ := hA.c6
  have d0 : w.cell? ⟨B, 0, none⟩ = some b0 := hB.cell 0
  have d1 : w.cell? ⟨B, 1, none⟩ = some b1 := hB.cell 1
  have d2 : w.cell? ⟨B, 2, none⟩ = some b2 := hB.cell 2
  simp [results, Tryd.results11, go_sem, t4, t5, c0, c1, c2, c3, c4, c5, d0, d1, d2]
/-- The three blocks that Map begins with: its argument, and its first two results. -/
structure Map3 (w W : World) (p : Prt) (a : Option Addr) (ln c : Nat) : Prop where
  arg : Blk W w.heap.size 29 #[.int .u8 p.kind, .bool p.yes, .bool p.neg, .string p.mag, .string p.raw, .slice a ln c]
  one : Blk W (w.heap.size + 1) 29 #[.int .u8 0, .bool false, .bool false, .string ⟨#[]⟩, .string ⟨#[]⟩, .slice none 0 0]
  two : Blk W (w.heap.size + 1 + 1) 40 #[.int .i64 0, .int .i64 0, .slice none 0 0]
  bel : Below w.heap.size w W
  size : W.heap.size = w.heap.size + 1 + 1 + 1
theorem Map3.mk' (w : World) (p : Prt) (a : Option Addr) (ln c : Nat) : Map3 w (((w.alloc (.cells #[.int .u8 p.kind, .bool p.yes, .bool p.neg, .string p.mag, .string p.raw, .slice a ln c] 29)).alloc (.cells #[.int .u8 0, .bool false, .bool false, .string ⟨#[]⟩, .string ⟨#[]⟩, .slice none 0 0] 29)).alloc (.cells #[.int .i64 0, .int .i64 0, .slice none 0 0] 40)) p a ln c := by
  have b1 := (Below.refl w.heap.size w).alloc (Nat.le_refl _) (.cells #[.int .u8 p.kind, .bool p.yes, .bool p.neg, .string p.mag, .string p.raw, .slice a ln c] 29)
  have k1 := Blk.new w 29 #[.int .u8 p.kind, .bool p.yes, .bool p.neg, .string p.mag, .string p.raw, .slice a ln c]
  have s1 := alloc_size w (.cells #[.int .u8 p.kind, .bool p.yes, .bool p.neg, .string p.mag, .string p.raw, .slice a ln c] 29)
  generalize w.alloc (.cells #[.int .u8 p.kind, .bool p.yes, .bool p.neg, .string p.mag, .string p.raw, .slice a ln c] 29) = w1 at *
  have b2 := (Below.refl w1.heap.size w1).alloc (Nat.le_refl _) (.cells #[.int .u8 0, .bool false, .bool false, .string ⟨#[]⟩, .string ⟨#[]⟩, .slice none 0 0] 29)
  have k2 := Blk.new w1 29 #[.int .u8 0, .bool false, .bool false, .string ⟨#[]⟩, .string ⟨#[]⟩, .slice none 0 0]
  have s2 := alloc_size w1 (.cells #[.int .u8 0, .bool false, .bool false, .string ⟨#[]⟩, .string ⟨#[]⟩, .slice none 0 0] 29)
  generalize w1.alloc (.cells #[.int .u8 0, .bool false, .bool false, .string ⟨#[]⟩, .string ⟨#[]⟩, .slice none 0 0] 29) = w2 at *
  have b3 := (Below.refl w2.heap.size w2).alloc (Nat.le_refl _) (.cells #[.int .i64 0, .int .i64 0, .slice none 0 0] 40)
  have k3 := Blk.new w2 40 #[.int .i64 0, .int .i64 0, .slice none 0 0]
  have s3 := alloc_size w2 (.cells #[.int .i64 0, .int .i64 0, .slice none 0 0] 40)
  rw [s1] at k2 s2
  rw [s2] at k3 s3
  exact ⟨(k1.old (b2.mono (by omega))).old b3, k2.old b3, k3, (b1.trans (b2.mono b1.size)).trans (b3.mono (Nat.le_trans b1.size b2.size)), s3⟩
/-- The two results, written. -/
theorem map3_put {W : World} {A B : Nat} {x0 x1 x2 x3 x4 x5 y0 y1 y2 : Value} (hne : A ≠ B) (hA : Blk W A 29 #[x0, x1, x2, x3, x4, x5]) (hB : Blk W B 40 #[y0, y1, y2]) (a0 a1 a2 a3 a4 a5 b0 b1 b2 : Value) :
    (let W' := ((((((((W.setCell ⟨A, 0, none⟩ a0).setCell ⟨A, 1, none⟩ a1).setCell ⟨A, 2, none⟩ a2).setCell ⟨A, 3, none⟩ a3).setCell ⟨A, 4, none⟩ a4).setCell ⟨A, 5, none⟩ a5).setCell ⟨B, 0, none⟩ b0).setCell ⟨B, 1, none⟩ b1).setCell ⟨B, 2, none⟩ b2
     Blk W' A 29 #[a0, a1, a2, a3, a4, a5] ∧ Blk W' B 40 #[b0, b1, b2] ∧ ∀ (n : Nat) (w : World), n ≤ A → n ≤ B → Below n w W → Below n w W') := by
  have g1 := (((hA.set6 a0 a1 a2 a3 a4 a5).other (p := ⟨B, 0, none⟩) hne b0).other (p := ⟨B, 1, none⟩) hne b1).other (p := ⟨B, 2, none⟩) hne b2
  have g2 := ((((((((hB.other (p := ⟨A, 0, none⟩) (Ne.symm hne) a0).other (p := ⟨A, 1, none⟩) (Ne.symm hne) a1).other (p := ⟨A, 2, none⟩) (Ne.symm hne) a2).other (p := ⟨A, 3, none⟩) (Ne.symm hne) a3).other (p := ⟨A, 4, none⟩) (Ne.symm hne) a4).other (p := ⟨A, 5, none⟩) (Ne.symm hne) a5).set 0 b0).set 1 b1).set 2 b2
  rw [show ((#[y0, y1, y2].setIfInBounds 0 b0).setIfInBounds 1 b1).setIfInBounds 2 b2 = #[b0, b1, b2] by simp] at g2
  refine ⟨g1, g2, fun n w h1 h2 h => ?_⟩
  exact ((((((((h.setCell (p := ⟨A, 0, none⟩) h1 _).setCell (p := ⟨A, 1, none⟩) h1 _).setCell (p := ⟨A, 2, none⟩) h1 _).setCell (p := ⟨A, 3, none⟩) h1 _).setCell (p := ⟨A, 4, none⟩) h1 _).setCell (p := ⟨A, 5, none⟩) h1 _).setCell (p := ⟨B, 0, none⟩) h2 _).setCell (p := ⟨B, 1, none⟩) h2 _).setCell (p := ⟨B, 2, none⟩) h2 _
theorem map3_rest {W : World} {A B : Nat} (a0 a1 a2 a3 a4 a5 b0 b1 b2 : Value) :
    (let W' := ((((((((W.setCell ⟨A, 0, none⟩ a0).setCell ⟨A, 1, none⟩ a1).setCell ⟨A, 2, none⟩ a2).setCell ⟨A, 3, none⟩ a3).setCell ⟨A, 4, none⟩ a4).setCell ⟨A, 5, none⟩ a5).setCell ⟨B, 0, none⟩ b0).setCell ⟨B, 1, none⟩ b1).setCell ⟨B, 2, none⟩ b2
     W'.heap.size = W.heap.size ∧ ∀ b, b ≠ A → b ≠ B → W'.heap[b]? = W.heap[b]?) := by
  have q : ∀ (X : World) (p : Addr) (v : Value), (X.setCell p v).heap.size = X.heap.size := fun X p v => by simp [World.setCell]
  have r : ∀ (X : World) (p : Addr) (v : Value) (b : Nat), b ≠ p.block → (X.setCell p v).heap[b]? = X.heap[b]? := fun X p v b h => Below.heap_setCell X p v b h
  refine ⟨by simp only [q], fun b h1 h2 => ?_⟩
  rw [r _ _ _ b h2, r _ _ _ b h2, r _ _ _ b h2, r _ _ _ b h1, r _ _ _ b h1, r _ _ _ b h1, r _ _ _ b h1, r _ _ _ b h1, r _ _ _ b h1]
end Go.Proofs.YtnjfkijekohdkaaDoor
