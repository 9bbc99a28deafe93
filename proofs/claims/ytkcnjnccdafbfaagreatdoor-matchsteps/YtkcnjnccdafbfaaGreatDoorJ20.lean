/- Contracts and lemmas (nothing is claimed here). -/
import Derived.Test.YtkcnjnccdafbfaaGreatDoorJ13
import Derived.Test.YtkcnjnccdafbfaaGreatDoorJ19
namespace Go.Proofs.YtkcnjnccdafbfaaGreatDoor
open Go.RowKit Go.Vf Go.Maps
structure LJ (w : World) (vl : Value) (C : List (List UInt8)) (lp la : List Int) (l : List PM) (vp va vm : Value) (ps : List (PM × Value)) (wr : World) : Prop where
  res : Blk wr w.heap.size 31 #[.slice none 0 0]
  box : Blk wr (w.heap.size + 1) 31 #[vm]
  lines : SOwn wr w.heap.size vl C
  points : IOwn wr w.heap.size vp lp
  ats : IOwn wr w.heap.size va la
  marks : wr.ownsRow w.heap.size 73 3 vm ps.length (flatM ps)
  parts : ∀ x ∈ ps, IOwn wr w.heap.size x.2 x.1.parts
  is : ps.map Prod.fst = l
  sepA : Apt vp va
  sepP : ∀ x ∈ ps, Apt vp x.2 ∧ Apt va x.2
  below : Below w.heap.size w wr
section
variable {w : World} {vl : Value} {C : List (List UInt8)} {lp la : List Int} {l : List PM} {vp va vm : Value} {ps : List (PM × Value)} {wr : World}
theorem LJ.go (h : LJ w vl C lp la l vp va vm ps wr) {w' : World} (hb : Below wr.heap.size wr w') : LJ w vl C lp la l vp va vm ps w' where
  res := h.res.below hb h.res.lt
  box := h.box.below hb h.box.lt
  lines := own_after h.lines hb
  points := own_after h.points hb
  ats := own_after h.ats hb
  marks := own_after h.marks hb
  parts := fun x hx => own_after (h.parts x hx) hb
  is := h.is
  sepA := h.sepA
  sepP := h.sepP
  below := h.below.trans (hb.mono h.below.size)
theorem LJ.mown (h : LJ w vl C lp la l vp va vm ps wr) : MOwn wr w.heap.size vm ps := ⟨h.marks, h.parts⟩
theorem LJ.min (h : LJ w vl C lp la l vp va vm ps wr) : MIn wr.heap.size wr vm l := by
  have := h.mown.min
  rw [h.is] at this
  exact this
theorem LJ.point (h : LJ w vl C lp la l vp va vm ps wr) {w' : World} {vp' : Value} {lp' : List Int} (hg : wr.grownBy w' vp.ownBlock) (ho : IOwn w' w.heap.size vp' lp') (hat : vp'.ownBlock = vp.ownBlock ∨ vp'.ownBlock = some wr.heap.size) : LJ w vl C lp' la l vp' va vm ps w' where
  res := blk_grown h.res h.points (by decide) hg
  box := blk_grown h.box h.points (by decide) hg
  lines := own_grown h.lines hg (apt_types h.points h.lines (by decide))
  points := ho
  ats := own_grown h.ats hg h.sepA
  marks := own_grown h.marks hg (apt_types h.points h.marks (by decide))
  parts := fun x hx => own_grown (h.parts x hx) hg (h.sepP x hx).1
  is := h.is
  sepA := fun g hg1 hg2 => by
    rcases hat with e | e
    · exact h.sepA g (e.symm.trans hg1) hg2
    · rw [e] at hg1
      have := row_lt h.ats hg2
      simp at hg1
      omega
  sepP := fun x hx => ⟨fun g hg1 hg2 => by
    rcases hat with e | e
    · exact (h.sepP x hx).1 g (e.symm.trans hg1) hg2
    · rw [e] at hg1
      have := row_lt (h.parts x hx) hg2
      simp at hg1
      omega, (h.sepP x hx).2⟩
  below := h.below.grown hg h.below.size (fun k hk => (own_ge h.points hk).1)
theorem LJ.at (h : LJ w vl C lp la l vp va vm ps wr) {w' : World} {va' : Value} {la' : List Int} (hg : wr.grownBy w' va.ownBlock) (ho : IOwn w' w.heap.size va' la') (hat : va'.ownBlock = va.ownBlock ∨ va'.ownBlock = some wr.heap.size) : LJ w vl C lp la' l vp va' vm ps w' where
  res := blk_grown h.res h.ats (by decide) hg
  box := blk_grown h.box h.ats (by decide) hg
  lines := own_grown h.lines hg (apt_types h.ats h.lines (by decide))
  points := own_grown h.points hg h.sepA.symm
  ats := ho
  marks := own_grown h.marks hg (apt_types h.ats h.marks (by decide))
  parts := fun x hx => own_grown (h.parts x hx) hg (h.sepP x hx).2
  is := h.is
  sepA := fun g hg1 hg2 => by
    rcases hat with e | e
    · exact h.sepA g hg1 (e.symm.trans hg2)
    · rw [e] at hg2
      have := row_lt h.points hg1
      simp at hg2
      omega
  sepP := fun x hx => ⟨(h.sepP x hx).1, fun g hg1 hg2 => by
    rcases hat with e | e
    · exact (h.sepP x hx).2 g (e.symm.trans hg1) hg2
    · rw [e] at hg1
      have := row_lt (h.parts x hx) hg2
      simp at hg1
      omega⟩
  below := h.below.grown hg h.below.size (fun k hk => (own_ge h.ats hk).1)
theorem LJ.mark (h : LJ w vl C lp la l vp va vm ps wr) {vm' : Value} {ps' : List (PM × Value)} {l' : List PM} {b : Nat} (hr : wr.ownsRow b 73 3 vm' ps'.length (flatM ps')) (hb : w.heap.size ≤ b) (hp : ∀ x ∈ ps', IOwn wr w.heap.size x.2 x.1.parts ∧ Apt vp x.2 ∧ Apt va x.2) (hl : ps'.map Prod.fst = l') :
    LJ w vl C lp la l' vp va vm' ps' (wr.setCell ⟨w.heap.size + 1, 0, none⟩ vm') := by
  have hk : ∀ {b1 : Nat} {e1 : TypeId} {s1 k1 : Nat} {v1 : Value} {x1 : List Value}, e1 ≠ 31 → wr.ownsRow b1 e1 s1 v1 k1 x1 → (wr.setCell ⟨w.heap.size + 1, 0, none⟩ vm').ownsRow b1 e1 s1 v1 k1 x1 := fun ht h1 => own_other h1 (fun g hg => Below.heap_setCell wr ⟨w.heap.size + 1, 0, none⟩ _ g (by
    intro e
    have e' : g = w.heap.size + 1 := e
    subst e'
    obtain ⟨_, c, f, q⟩ := own_ge h1 hg
    have := q.symm.trans h.box
    simp only [Option.some.injEq, Obj.cells.injEq] at this
    exact ht this.2.1))
  refine ⟨(Below.heap_setCell wr ⟨w.heap.size + 1, 0, none⟩ _ w.heap.size (by show w.heap.size ≠ w.heap.size + 1; omega)).trans h.res, ?_, hk (by decide) h.lines, hk (by decide) h.points, hk (by decide) h.ats, ownsRow_mono (hk (by decide) hr) hb, fun x hx => hk (by decide) (hp x hx).1, hl, h.sepA, fun x hx => (hp x hx).2, h.below.setCell (by show w.heap.size ≤ w.heap.size + 1; omega) _⟩
  have := h.box.set 0 vm'
  simpa using this
end
theorem refLoad_results {tmps : Array Value} {w : World} {h : Nat} {x a b : Value} (hb : Blk w h 31 #[x]) (t2 : tmps[2]?.getD undef = .pointer (some ⟨h, 0, none⟩)) (t3 : tmps[3]?.getD undef = a) (t4 : tmps[4]?.getD undef = b) :
    (results Tryz.f7 tmps).run Tryz.prog w = .ok (.tuple #[.agg #[x], a, b]) w := by
  have c0 : w.cell? ⟨h, 0, none⟩ = some x := hb.cell 0
  simp [results, Tryz.results7, go_sem, t2, t3, t4, c0]
theorem flatM_append (a b : List (PM × Value)) : flatM (a ++ b) = flatM a ++ flatM b := by simp [flatM]
theorem flatM_one {w : World} {base : Nat} {ps : List (PM × Value)} (h : ∀ x ∈ ps, IOwn w base x.2 x.1.parts) : ∀ u ∈ flatM ps, u.oneCell' = true := fun u hu => by
  obtain ⟨x, hx, hu⟩ := List.mem_flatMap.1 hu
  obtain ⟨a, c, e⟩ := (h x hx).val
  simp only [List.mem_cons, List.not_mem_nil, or_false] at hu
  rcases hu with rfl | rfl | rfl
  · rfl
  · rfl
  · rw [e]; rfl
theorem flatM_cells {w : World} {base n mc g : Nat} {ps : List (PM × Value)} (h : w.ownsRow base 73 3 (.slice (some ⟨g, 0, none⟩) n mc) ps.length (flatM ps)) (k0 : Nat) (hk : k0 ≤ ps.length) :
    (∀ j u, (flatM (ps.take k0))[j]? = some u → w.cell? ((⟨g, 0, none⟩ : Addr).add j) = some u) ∧ (∀ j u, (flatM (ps.drop k0))[j]? = some u → w.cell? ((⟨g, k0 * 3, none⟩ : Addr).add j) = some u) ∧ base ≤ g ∧ g < w.heap.size ∧ ps.length ≤ mc := by
  rcases h.2 with ⟨e0, hz0⟩ | ⟨g', cap, cur, e, hb, hg, hc, hm, hs, htk⟩
  · cases e0
  · obtain ⟨e1, _, rfl⟩ := Value.slice.inj e
    cases e1
    have hall : ∀ j u, (flatM ps)[j]? = some u → w.cell? ⟨g, j, none⟩ = some u := fun j u hu => by
      rw [← htk] at hu
      have hj := (List.getElem?_eq_some_iff.1 hu).1
      rw [List.getElem?_take_of_lt (by rw [List.length_take] at hj; omega)] at hu
      simp only [World.cell?, hg]
      simpa using hu
    have hsp : flatM ps = flatM (ps.take k0) ++ flatM (ps.drop k0) := by rw [← flatM_append, List.take_append_drop]
    have hlt : (flatM (ps.take k0)).length = k0 * 3 := by rw [flatM_len, List.length_take]; omega
    refine ⟨fun j u hu => ?_, fun j u hu => ?_, hb, (Array.getElem?_eq_some_iff.1 hg).1, hc⟩
    · rw [Go.WideShapes.add_plain, Nat.zero_add]
      refine hall j u ?_
      rw [hsp, List.getElem?_append_left (List.getElem?_eq_some_iff.1 hu).1]
      exact hu
    · rw [show (⟨g, k0 * 3, none⟩ : Addr).add j = ⟨g, k0 * 3 + j, none⟩ by simp [Addr.add]]
      refine hall (k0 * 3 + j) u ?_
      rw [hsp, List.getElem?_append_right (by omega), hlt, Nat.add_sub_cancel_left]
      exact hu
theorem LJ.fin {w : World} {vl : Value} {C : List (List UInt8)} {lp la : List Int} {l : List PM} {vp va vm : Value} {ps : List (PM × Value)} {wr : World} (h : LJ w vl C lp la l vp va vm ps wr) (v : Value) : MIn (wr.setCell ⟨w.heap.size, 0, none⟩ v).heap.size (wr.setCell ⟨w.heap.size, 0, none⟩ v) vm l := by
  have hk : ∀ {b1 : Nat} {e1 : TypeId} {s1 k1 : Nat} {v1 : Value} {x1 : List Value}, e1 ≠ 31 → wr.ownsRow b1 e1 s1 v1 k1 x1 → (wr.setCell ⟨w.heap.size, 0, none⟩ v).ownsRow b1 e1 s1 v1 k1 x1 := fun ht h1 => own_other h1 (fun g hg => Below.heap_setCell wr ⟨w.heap.size, 0, none⟩ _ g (by
    intro e
    have e' : g = w.heap.size := e
    subst e'
    obtain ⟨_, c, f, q⟩ := own_ge h1 hg
    have := q.symm.trans h.res
    simp only [Option.some.injEq, Obj.cells.injEq] at this
    exact ht this.2.1))
  have hm : MOwn (wr.setCell ⟨w.heap.size, 0, none⟩ v) w.heap.size vm ps := ⟨hk (by decide) h.marks, fun x hx => hk (by decide) (h.parts x hx)⟩
  have := hm.min
  rw [h.is] at this
  exact this
end Go.Proofs.YtkcnjnccdafbfaaGreatDoor
