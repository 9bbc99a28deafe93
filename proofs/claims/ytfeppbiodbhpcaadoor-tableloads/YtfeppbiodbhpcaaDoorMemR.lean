/- Rows and blocks that a call owns (lemmas; nothing is claimed here). -/
import Derived.Test.YtfeppbiodbhpcaaDoorMem
namespace Go.Proofs.YtfeppbiodbhpcaaDoor
open Go.RowKit Go.Vf Go.Maps

theorem own_setCell {w : World} {base : Nat} {e : TypeId} {size : Nat} {v : Value} {k : Nat} {xs : List Value} (h : w.ownsRow base e size v k xs) {p : Addr} (hp : p.block < base) (x : Value) : (w.setCell p x).ownsRow base e size v k xs := by
  refine ⟨h.1, ?_⟩
  rcases h.2 with hn | ⟨g, cap, cur, rfl, hb, hg, rest⟩
  · exact .inl hn
  · exact .inr ⟨g, cap, cur, rfl, hb, (Below.heap_setCell w p x g (by omega)).trans hg, rest⟩
theorem row_val {w : World} {base : Nat} {e : TypeId} {size : Nat} {v : Value} {k : Nat} {xs : List Value} (h : w.ownsRow base e size v k xs) : ∃ a cap, v = .slice a k cap := by
  rcases h.2 with ⟨rfl, rfl⟩ | ⟨g, cap, cur, rfl, _⟩
  · exact ⟨_, _, rfl⟩
  · exact ⟨_, _, rfl⟩
/-- Rows of unlike elements lie in unlike blocks. -/
theorem own_ne_blk {w : World} {base : Nat} {e t : TypeId} {size k b : Nat} {v : Value} {xs : List Value} {cs : Array Value} (h : w.ownsRow base e size v k xs) (hb : Blk w b t cs) (hne : e ≠ t) : some b ≠ v.ownBlock := fun hv => by
  obtain ⟨_, c1, f1, g1⟩ := own_ge h hv.symm
  rw [show w.heap[b]? = _ from hb] at g1
  simp only [Option.some.injEq, Obj.cells.injEq] at g1
  exact hne g1.2.1.symm
theorem row_set {w : World} {base g n c : Nat} {e : TypeId} {size : Nat} {xs : List Value} (h : w.ownsRow base e size (.slice (some ⟨g, 0, none⟩) n c) n xs) (k : Nat) (u : Value) : (w.setCell ⟨g, k, none⟩ u).ownsRow base e size (.slice (some ⟨g, 0, none⟩) n c) n (xs.set k u) := by
  rcases h.2 with ⟨e, _⟩ | ⟨g', cap, cur, e, hb, hg, hn, hm, hs, ht⟩
  · cases e
  · simp only [Value.slice.injEq, Option.some.injEq, Addr.mk.injEq] at e
    obtain ⟨⟨rfl, _, _⟩, _, rfl⟩ := e
    refine ⟨by rw [List.length_set]; exact h.1, .inr ⟨g, c, cur.setIfInBounds k u, by simp, hb, ?_, hn, hm, by simpa using hs, ?_⟩⟩
    · exact (show Blk w g _ cur from hg).set k u
    · rw [Array.toList_setIfInBounds, List.take_set, ht]
theorem own_other {w w' : World} {b1 : Nat} {e1 : TypeId} {s1 k1 : Nat} {v1 : Value} {x1 : List Value} (h1 : w.ownsRow b1 e1 s1 v1 k1 x1) (hk : ∀ g, v1.ownBlock = some g → w'.heap[g]? = w.heap[g]?) : w'.ownsRow b1 e1 s1 v1 k1 x1 := by
  refine ⟨h1.1, h1.2.imp id fun ⟨g, cap, cur, q1, q2, q3, q4⟩ => ⟨g, cap, cur, q1, q2, ?_, q4⟩⟩
  exact (hk g (by rw [q1]; rfl)).trans q3
/-- Two slices whose rows are not the same. -/
def Apt (u v : Value) : Prop := ∀ g, u.ownBlock = some g → v.ownBlock ≠ some g
theorem Apt.symm {u v : Value} (h : Apt u v) : Apt v u := fun g hv hu => h g hu hv
theorem apt_types {w : World} {b1 b2 : Nat} {e1 e2 : TypeId} {s1 s2 k1 k2 : Nat} {v1 v2 : Value} {x1 x2 : List Value} (h1 : w.ownsRow b1 e1 s1 v1 k1 x1) (h2 : w.ownsRow b2 e2 s2 v2 k2 x2) (ht : e1 ≠ e2) : Apt v1 v2 := fun g hg1 hg2 => by
  obtain ⟨_, c1, f1, q1⟩ := own_ge h1 hg1
  obtain ⟨_, c2, f2, q2⟩ := own_ge h2 hg2
  rw [q1] at q2
  simp only [Option.some.injEq, Obj.cells.injEq] at q2
  exact ht q2.2.1
theorem row_lt {w : World} {base : Nat} {e : TypeId} {size k : Nat} {v : Value} {xs : List Value} (h : w.ownsRow base e size v k xs) {g : Nat} (hg : v.ownBlock = some g) : g < w.heap.size := by
  obtain ⟨_, c, f, q⟩ := own_ge h hg
  exact (Array.getElem?_eq_some_iff.1 q).1
theorem apt_new {w : World} {b1 b2 : Nat} {e1 e2 : TypeId} {s1 s2 k1 k2 : Nat} {v1 v2 : Value} {x1 x2 : List Value} {w2 : World} (h1 : w.ownsRow b1 e1 s1 v1 k1 x1) (h2 : w2.ownsRow b2 e2 s2 v2 k2 x2) (hb : w.heap.size ≤ b2) : Apt v1 v2 := fun g hg1 hg2 => by
  have := row_lt h1 hg1
  have := (own_ge h2 hg2).1
  omega
/-- A row that was not written. -/
theorem own_grown {w w' : World} {b : Nat} {e : TypeId} {s k : Nat} {v u : Value} {xs : List Value} (h : w.ownsRow b e s v k xs) (hg : w.grownBy w' u.ownBlock) (ha : Apt u v) : w'.ownsRow b e s v k xs :=
  own_other h (fun g hv => hg.block g (row_lt h hv) (fun e => ha g e.symm hv))
theorem blk_grown {w w' : World} {b : Nat} {e : TypeId} {s k B : Nat} {t : TypeId} {u : Value} {xs : List Value} {cs : Array Value} (hb : Blk w B t cs) (hu : w.ownsRow b e s u k xs) (ht : e ≠ t) (hg : w.grownBy w' u.ownBlock) : Blk w' B t cs := by
  refine (hg.block B hb.lt (fun eq => ?_)).trans hb
  obtain ⟨_, c, f, q⟩ := own_ge hu eq.symm
  have := q.symm.trans hb
  simp only [Option.some.injEq, Obj.cells.injEq] at this
  exact ht this.2.1
theorem own_apart {w w' : World} {b1 : Nat} {e1 : TypeId} {s1 k1 : Nat} {v1 : Value} {x1 : List Value} {row : Option Nat} (h1 : w.ownsRow b1 e1 s1 v1 k1 x1) (hne : ∀ g, row = some g → g < b1) (hg : w.grownBy w' row) : w'.ownsRow b1 e1 s1 v1 k1 x1 := by
  refine ⟨h1.1, h1.2.imp id fun ⟨g, cap, cur, q1, q2, q3, q4⟩ => ⟨g, cap, cur, q1, q2, ?_, q4⟩⟩
  have hlt : g < w.heap.size := (Array.getElem?_eq_some_iff.1 q3).1
  refine (hg.block g hlt ?_).trans q3
  intro e
  have := hne g e.symm
  omega
theorem own_lt {w : World} {b1 : Nat} {e1 : TypeId} {s1 k1 : Nat} {v1 : Value} {x1 : List Value} (h1 : w.ownsRow b1 e1 s1 v1 k1 x1) : ∀ g, v1.ownBlock = some g → g < w.heap.size := fun g hg => by
  obtain ⟨_, cs, f, q⟩ := own_ge h1 hg
  exact (Array.getElem?_eq_some_iff.1 q).1
theorem blk_ne {w : World} {b1 b2 : Nat} {t1 t2 : TypeId} {c1 c2 : Array Value} (h1 : Blk w b1 t1 c1) (h2 : Blk w b2 t2 c2) (ht : t1 ≠ t2) : b1 ≠ b2 := by
  rintro rfl
  have e := (show w.heap[b1]? = _ from h1).symm.trans h2
  simp only [Option.some.injEq, Obj.cells.injEq] at e
  exact ht e.2.1
end Go.Proofs.YtfeppbiodbhpcaaDoor
