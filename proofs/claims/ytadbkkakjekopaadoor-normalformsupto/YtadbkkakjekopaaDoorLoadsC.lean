/- Pieces of a row of marks (lemmas; nothing is claimed here). -/
import Derived.Test.YtadbkkakjekopaaDoorJ8
namespace Go.Proofs.YtadbkkakjekopaaDoor
open Go.RowKit Go.Vf Go.Maps
theorem flatM_append (a b : List (PM × Value)) : flatM (a ++ b) = flatM a ++ flatM b := by simp [flatM]
theorem flatM_one {w : World} {base : Nat} {ps : List (PM × Value)} (h : ∀ x ∈ ps, IOwn w base x.2 x.1.parts) : ∀ u ∈ flatM ps, u.oneCell' = true := fun u hu => by
  obtain ⟨x, hx, hu⟩ := List.mem_flatMap.1 hu
  obtain ⟨a, c, e⟩ := (h x hx).val
  simp only [List.mem_cons, List.not_mem_nil, or_false] at hu
  rcases hu with rfl | rfl | rfl
  · rfl
  · rfl
  · rw [e]; rfl
/-- The cells of the first marks of a row, and of those behind them. -/
theorem flatM_cells {w : World} {base n mc g : Nat} {ps : List (PM × Value)} (h : w.ownsRow base 61 3 (.slice (some ⟨g, 0, none⟩) n mc) ps.length (flatM ps)) (k0 : Nat) (hk : k0 ≤ ps.length) :
    (∀ j u, (flatM (ps.take k0))[j]? = some u → w.cell? ((⟨g, 0, none⟩ : Addr).add j) = some u) ∧ (∀ j u, (flatM (ps.drop k0))[j]? = some u → w.cell? ((⟨g, k0 * 3, none⟩ : Addr).add j) = some u) ∧ base ≤ g ∧ g < w.heap.size ∧ ps.length ≤ mc := by
  rcases h.2 with ⟨e0, hz0⟩ | ⟨g', cap, cur, e, hb, hg, hc, hm, hs, htk⟩
  · cases e0
  · obtain ⟨e1, _, rfl⟩ := Value.slice.inj e
    cases e1
    have hall : ∀ j u, (flatM ps)[j]? = some u → w.cell? ⟨g, j, none⟩ = some u := fun j u hu => by
      rw [← htk] at hu
      have hj := (List.getElem?_eq_some_iff.1 hu).1
      rw [List.getElem?_take_of_lt (by rw [List.length_take] at hj; omega)] at hu
      simp only [World.cell?, hg]
      simpa using hu
    have hsp : flatM ps = flatM (ps.take k0) ++ flatM (ps.drop k0) := by rw [← flatM_append, List.take_append_drop]
    have hlt : (flatM (ps.take k0)).length = k0 * 3 := by rw [flatM_len, List.length_take]; omega
    refine ⟨fun j u hu => ?_, fun j u hu => ?_, hb, (Array.getElem?_eq_some_iff.1 hg).1, hc⟩
    · rw [Go.WideShapes.add_plain, Nat.zero_add]
      refine hall j u ?_
      rw [hsp, List.getElem?_append_left (List.getElem?_eq_some_iff.1 hu).1]
      exact hu
    · rw [show (⟨g, k0 * 3, none⟩ : Addr).add j = ⟨g, k0 * 3 + j, none⟩ by simp [Addr.add]]
      refine hall (k0 * 3 + j) u ?_
      rw [hsp, List.getElem?_append_right (by omega), hlt, Nat.add_sub_cancel_left]
      exact hu
theorem LJ.fin {w : World} {vl : Value} {C : List (List UInt8)} {lp la : List Int} {l : List PM} {vp va vm : Value} {ps : List (PM × Value)} {wr : World} (h : LJ w vl C lp la l vp va vm ps wr) (v : Value) : MIn (wr.setCell ⟨w.heap.size, 0, none⟩ v).heap.size (wr.setCell ⟨w.heap.size, 0, none⟩ v) vm l := by
  have hk : ∀ {b1 : Nat} {e1 : TypeId} {s1 k1 : Nat} {v1 : Value} {x1 : List Value}, e1 ≠ 29 → wr.ownsRow b1 e1 s1 v1 k1 x1 → (wr.setCell ⟨w.heap.size, 0, none⟩ v).ownsRow b1 e1 s1 v1 k1 x1 := fun ht h1 => own_other h1 (fun g hg => Below.heap_setCell wr ⟨w.heap.size, 0, none⟩ _ g (by
    intro e
    have e' : g = w.heap.size := e
    subst e'
    obtain ⟨_, c, f, q⟩ := own_ge h1 hg
    have := q.symm.trans h.res
    simp only [Option.some.injEq, Obj.cells.injEq] at this
    exact ht this.2.1))
  have hm : MOwn (wr.setCell ⟨w.heap.size, 0, none⟩ v) w.heap.size vm ps := ⟨hk (by decide) h.marks, fun x hx => hk (by decide) (h.parts x hx)⟩
  have := hm.min
  rw [h.is] at this
  exact this
end Go.Proofs.YtadbkkakjekopaaDoor
