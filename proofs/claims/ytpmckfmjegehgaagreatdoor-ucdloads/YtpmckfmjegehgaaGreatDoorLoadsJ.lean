/- What the document's Load keeps in memory while it reads lines (lemmas; nothing is claimed here). -/
import Derived.Test.YtpmckfmjegehgaaGreatDoorLoadsB
import Derived.Test.YtpmckfmjegehgaaGreatDoorLawM
namespace Go.Proofs.YtpmckfmjegehgaaGreatDoor
open Go.RowKit Go.Vf Go.Maps

/-- Two slices whose rows are not the same. -/
def Apt (u v : Value) : Prop := ∀ g, u.ownBlock = some g → v.ownBlock ≠ some g
theorem Apt.symm {u v : Value} (h : Apt u v) : Apt v u := fun g hv hu => h g hu hv
theorem apt_types {w : World} {b1 b2 : Nat} {e1 e2 : TypeId} {s1 s2 k1 k2 : Nat} {v1 v2 : Value} {x1 x2 : List Value} (h1 : w.ownsRow b1 e1 s1 v1 k1 x1) (h2 : w.ownsRow b2 e2 s2 v2 k2 x2) (ht : e1 ≠ e2) : Apt v1 v2 := fun g hg1 hg2 => by
  obtain ⟨_, c1, f1, q1⟩ := own_ge h1 hg1
  obtain ⟨_, c2, f2, q2⟩ := own_ge h2 hg2
  rw [q1] at q2
  simp only [Option.some.injEq, Obj.cells.injEq] at q2
  exact ht q2.2.1
theorem row_lt {w : World} {base : Nat} {e : TypeId} {size k : Nat} {v : Value} {xs : List Value} (h : w.ownsRow base e size v k xs) {g : Nat} (hg : v.ownBlock = some g) : g < w.heap.size := by
  obtain ⟨_, c, f, q⟩ := own_ge h hg
  exact (Array.getElem?_eq_some_iff.1 q).1
theorem apt_new {w : World} {b1 b2 : Nat} {e1 e2 : TypeId} {s1 s2 k1 k2 : Nat} {v1 v2 : Value} {x1 x2 : List Value} {w2 : World} (h1 : w.ownsRow b1 e1 s1 v1 k1 x1) (h2 : w2.ownsRow b2 e2 s2 v2 k2 x2) (hb : w.heap.size ≤ b2) : Apt v1 v2 := fun g hg1 hg2 => by
  have := row_lt h1 hg1
  have := (own_ge h2 hg2).1
  omega
/-- A row that was not written. -/
theorem own_grown {w w' : World} {b : Nat} {e : TypeId} {s k : Nat} {v u : Value} {xs : List Value} (h : w.ownsRow b e s v k xs) (hg : w.grownBy w' u.ownBlock) (ha : Apt u v) : w'.ownsRow b e s v k xs :=
  own_other h (fun g hv => hg.block g (row_lt h hv) (fun e => ha g e.symm hv))
theorem blk_grown {w w' : World} {b : Nat} {e : TypeId} {s k B : Nat} {t : TypeId} {u : Value} {xs : List Value} {cs : Array Value} (hb : Blk w B t cs) (hu : w.ownsRow b e s u k xs) (ht : e ≠ t) (hg : w.grownBy w' u.ownBlock) : Blk w' B t cs := by
  refine (hg.block B hb.lt (fun eq => ?_)).trans hb
  obtain ⟨_, c, f, q⟩ := own_ge hu eq.symm
  have := q.symm.trans hb
  simp only [Option.some.injEq, Obj.cells.injEq] at this
  exact ht this.2.1

/-- What Load keeps. -/
structure LJ (w : World) (vl : Value) (C : List (List UInt8)) (lp la : List Int) (l : List PM) (vp va vm : Value) (ps : List (PM × Value)) (wr : World) : Prop where
  res : Blk wr w.heap.size 29 #[.slice none 0 0]
  box : Blk wr (w.heap.size + 1) 29 #[vm]
  lines : SOwn wr w.heap.size vl C
  points : IOwn wr w.heap.size vp lp
  ats : IOwn wr w.heap.size va la
  marks : wr.ownsRow w.heap.size 36 3 vm ps.length (flatM ps)
  parts : ∀ x ∈ ps, IOwn wr w.heap.size x.2 x.1.parts
  is : ps.map Prod.fst = l
  sepA : Apt vp va
  sepP : ∀ x ∈ ps, Apt vp x.2 ∧ Apt va x.2
  below : Below w.heap.size w wr
section
variable {w : World} {vl : Value} {C : List (List UInt8)} {lp la : List Int} {l : List PM} {vp va vm : Value} {ps : List (PM × Value)} {wr : World}
theorem LJ.go (h : LJ w vl C lp la l vp va vm ps wr) {w' : World} (hb : Below wr.heap.size wr w') : LJ w vl C lp la l vp va vm ps w' where
  res := h.res.below hb h.res.lt
  box := h.box.below hb h.box.lt
  lines := own_after h.lines hb
  points := own_after h.points hb
  ats := own_after h.ats hb
  marks := own_after h.marks hb
  parts := fun x hx => own_after (h.parts x hx) hb
  is := h.is
  sepA := h.sepA
  sepP := h.sepP
  below := h.below.trans (hb.mono h.below.size)
theorem LJ.mown (h : LJ w vl C lp la l vp va vm ps wr) : MOwn wr w.heap.size vm ps := ⟨h.marks, h.parts⟩
theorem LJ.min (h : LJ w vl C lp la l vp va vm ps wr) : MIn wr.heap.size wr vm l := by
  have := h.mown.min
  rw [h.is] at this
  exact this
/-- One point more. -/
theorem LJ.point (h : LJ w vl C lp la l vp va vm ps wr) {w' : World} {vp' : Value} {lp' : List Int} (hg : wr.grownBy w' vp.ownBlock) (ho : IOwn w' w.heap.size vp' lp') (hat : vp'.ownBlock = vp.ownBlock ∨ vp'.ownBlock = some wr.heap.size) : LJ w vl C lp' la l vp' va vm ps w' where
  res := blk_grown h.res h.points (by decide) hg
  box := blk_grown h.box h.points (by decide) hg
  lines := own_grown h.lines hg (apt_types h.points h.lines (by decide))
  points := ho
  ats := own_grown h.ats hg h.sepA
  marks := own_grown h.marks hg (apt_types h.points h.marks (by decide))
  parts := fun x hx => own_grown (h.parts x hx) hg (h.sepP x hx).1
  is := h.is
  sepA := fun g hg1 hg2 => by
    rcases hat with e | e
    · exact h.sepA g (e.symm.trans hg1) hg2
    · rw [e] at hg1
      have := row_lt h.ats hg2
      simp at hg1
      omega
  sepP := fun x hx => ⟨fun g hg1 hg2 => by
    rcases hat with e | e
    · exact (h.sepP x hx).1 g (e.symm.trans hg1) hg2
    · rw [e] at hg1
      have := row_lt (h.parts x hx) hg2
      simp at hg1
      omega, (h.sepP x hx).2⟩
  below := h.below.grown hg h.below.size (fun k hk => (own_ge h.points hk).1)
/-- One line's number more. -/
theorem LJ.at (h : LJ w vl C lp la l vp va vm ps wr) {w' : World} {va' : Value} {la' : List Int} (hg : wr.grownBy w' va.ownBlock) (ho : IOwn w' w.heap.size va' la') (hat : va'.ownBlock = va.ownBlock ∨ va'.ownBlock = some wr.heap.size) : LJ w vl C lp la' l vp va' vm ps w' where
  res := blk_grown h.res h.ats (by decide) hg
  box := blk_grown h.box h.ats (by decide) hg
  lines := own_grown h.lines hg (apt_types h.ats h.lines (by decide))
  points := own_grown h.points hg h.sepA.symm
  ats := ho
  marks := own_grown h.marks hg (apt_types h.ats h.marks (by decide))
  parts := fun x hx => own_grown (h.parts x hx) hg (h.sepP x hx).2
  is := h.is
  sepA := fun g hg1 hg2 => by
    rcases hat with e | e
    · exact h.sepA g hg1 (e.symm.trans hg2)
    · rw [e] at hg2
      have := row_lt h.points hg1
      simp at hg2
      omega
  sepP := fun x hx => ⟨(h.sepP x hx).1, fun g hg1 hg2 => by
    rcases hat with e | e
    · exact (h.sepP x hx).2 g (e.symm.trans hg1) hg2
    · rw [e] at hg1
      have := row_lt (h.parts x hx) hg2
      simp at hg1
      omega⟩
  below := h.below.grown hg h.below.size (fun k hk => (own_ge h.ats hk).1)
/-- A row of marks of its own in the box. -/
theorem LJ.mark (h : LJ w vl C lp la l vp va vm ps wr) {vm' : Value} {ps' : List (PM × Value)} {l' : List PM} {b : Nat} (hr : wr.ownsRow b 36 3 vm' ps'.length (flatM ps')) (hb : w.heap.size ≤ b) (hp : ∀ x ∈ ps', IOwn wr w.heap.size x.2 x.1.parts ∧ Apt vp x.2 ∧ Apt va x.2) (hl : ps'.map Prod.fst = l') :
    LJ w vl C lp la l' vp va vm' ps' (wr.setCell ⟨w.heap.size + 1, 0, none⟩ vm') := by
  have hk : ∀ {b1 : Nat} {e1 : TypeId} {s1 k1 : Nat} {v1 : Value} {x1 : List Value}, e1 ≠ 29 → wr.ownsRow b1 e1 s1 v1 k1 x1 → (wr.setCell ⟨w.heap.size + 1, 0, none⟩ vm').ownsRow b1 e1 s1 v1 k1 x1 := fun ht h1 => own_other h1 (fun g hg => Below.heap_setCell wr ⟨w.heap.size + 1, 0, none⟩ _ g (by
    intro e
    have e' : g = w.heap.size + 1 := e
    subst e'
    obtain ⟨_, c, f, q⟩ := own_ge h1 hg
    have := q.symm.trans h.box
    simp only [Option.some.injEq, Obj.cells.injEq] at this
    exact ht this.2.1))
  refine ⟨(Below.heap_setCell wr ⟨w.heap.size + 1, 0, none⟩ _ w.heap.size (by show w.heap.size ≠ w.heap.size + 1; omega)).trans h.res, ?_, hk (by decide) h.lines, hk (by decide) h.points, hk (by decide) h.ats, ownsRow_mono (hk (by decide) hr) hb, fun x hx => hk (by decide) (hp x hx).1, hl, h.sepA, fun x hx => (hp x hx).2, h.below.setCell (by show w.heap.size ≤ w.heap.size + 1; omega) _⟩
  have := h.box.set 0 vm'
  simpa using this
end
theorem refLoad_results {tmps : Array Value} {w : World} {h : Nat} {x a b : Value} (hb : Blk w h 29 #[x]) (t2 : tmps[2]?.getD undef = .pointer (some ⟨h, 0, none⟩)) (t3 : tmps[3]?.getD undef = a) (t4 : tmps[4]?.getD undef = b) :
    (results Tryz.f10 tmps).run Tryz.prog w = .ok (.tuple #[.agg #[x], a, b]) w := by
  have c0 : w.cell? ⟨h, 0, none⟩ = some x := hb.cell 0
  simp [results, Tryz.results10, go_sem, t2, t3, t4, c0]
end Go.Proofs.YtpmckfmjegehgaaGreatDoor
