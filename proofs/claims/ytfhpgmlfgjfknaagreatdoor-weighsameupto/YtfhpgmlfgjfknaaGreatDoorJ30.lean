/- Contracts and lemmas (nothing is claimed here). -/
import Derived.Test.YtfhpgmlfgjfknaaGreatDoorJ25
import Derived.Test.YtfhpgmlfgjfknaaGreatDoorJ28
import Derived.Test.YtfhpgmlfgjfknaaGreatDoorJ29
namespace Go.Proofs.YtfhpgmlfgjfknaaGreatDoor
open Go.RowKit Go.Vf Go.Maps
theorem MIn.up {n₀ n : Nat} {x : World} {v : Value} {l : List PM} (hn : n₀ ≤ n) : MIn n₀ x v l → MIn n x v l
  | .inl e => .inl e
  | .inr ⟨b, off, cap, e, hb, hc⟩ => .inr ⟨b, off, cap, e, Nat.lt_of_lt_of_le hb hn, fun j hj => by
    obtain ⟨pa, pk, pc, h1, h2, h3, h4⟩ := hc j hj
    exact ⟨pa, pk, pc, h1, h2, h3, h4.mono hn⟩⟩
theorem MIn.go {x y : World} {v : Value} {l : List PM} (h : MIn x.heap.size x v l) (hb : Below x.heap.size x y) : MIn y.heap.size y v l := MIn.up hb.size (h.below hb (Nat.le_refl _))
theorem load_few {t : List UInt8} {L : List Mk} {E : Int → List Int} (h : loadR t = .ok (L, E)) : (L.map Mk.point).Nodup ∧ (marksR L).length ≤ 1048576 := by
  obtain ⟨hlen, hl, _⟩ := load_says h
  obtain ⟨_, hnd, h4, _⟩ := load_total hlen hl
  exact ⟨hnd, by rw [marksR_length]; omega⟩
theorem rclass_load {t : List UInt8} {L : List Mk} {E : Int → List Int} (h : loadR t = .ok (L, E)) {a : Option Addr} {n c : Nat} (q : Int) {x : World} (hin : MIn x.heap.size x (.slice a n c) (marksR L)) :
    Calls Tryz.prog 56 #[.agg #[.slice a n c], .int .i64 q] x fun e w' => e = .returned (.int .i64 (classAt L q)) ∧ Below x.heap.size x w' := by
  obtain ⟨hnd, hll⟩ := load_few h
  have := refClassOf_any (marksR L) (marksR_rise hnd) hll a n c q x.heap.size x (Nat.le_refl _) hin
  rw [clsP_marks hnd] at this
  exact this
theorem rparts_load {t : List UInt8} {L : List Mk} {E : Int → List Int} (h : loadR t = .ok (L, E)) {a : Option Addr} {n c : Nat} (q : Int) (hl57 : (partsR' E q).length ≤ 57) {x : World} (hin : MIn x.heap.size x (.slice a n c) (marksR L)) :
    Calls Tryz.prog 55 #[.agg #[.slice a n c], .int .i64 q] x fun e w' => ∃ a n c, e = .returned (.slice a n c) ∧ IOwn w' x.heap.size (.slice a n c) (partsR' E q) ∧ Below x.heap.size x w' := by
  obtain ⟨hlen, hl, _⟩ := load_says h
  obtain ⟨hnd, hll⟩ := load_few h
  obtain ⟨k, hdep, he⟩ := depth_of h
  have := refParts_any (marksR L) (marksR_rise hnd) hll (fun p => (parts_plain hlen hl p).1) (fun p => (parts_plain hlen hl p).2) k (by rw [partsP_marks hnd]; exact hdep) a n c x.heap.size q (by rw [partsD_eq h he]; omega) x (Nat.le_refl _) hin
  rw [partsD_eq h he] at this
  exact this
theorem flatM_append (a b : List (PM × Value)) : flatM (a ++ b) = flatM a ++ flatM b := by simp [flatM]
theorem flatM_one {w : World} {base : Nat} {ps : List (PM × Value)} (h : ∀ x ∈ ps, IOwn w base x.2 x.1.parts) : ∀ u ∈ flatM ps, u.oneCell' = true := fun u hu => by
  obtain ⟨x, hx, hu⟩ := List.mem_flatMap.1 hu
  obtain ⟨a, c, e⟩ := (h x hx).val
  simp only [List.mem_cons, List.not_mem_nil, or_false] at hu
  rcases hu with rfl | rfl | rfl
  · rfl
  · rfl
  · rw [e]; rfl
theorem flatM_cells {w : World} {base n mc g : Nat} {ps : List (PM × Value)} (h : w.ownsRow base 153 3 (.slice (some ⟨g, 0, none⟩) n mc) ps.length (flatM ps)) (k0 : Nat) (hk : k0 ≤ ps.length) :
    (∀ j u, (flatM (ps.take k0))[j]? = some u → w.cell? ((⟨g, 0, none⟩ : Addr).add j) = some u) ∧ (∀ j u, (flatM (ps.drop k0))[j]? = some u → w.cell? ((⟨g, k0 * 3, none⟩ : Addr).add j) = some u) ∧ base ≤ g ∧ g < w.heap.size ∧ ps.length ≤ mc := by
  rcases h.2 with ⟨e0, hz0⟩ | ⟨g', cap, cur, e, hb, hg, hc, hm, hs, htk⟩
  · cases e0
  · obtain ⟨e1, _, rfl⟩ := Value.slice.inj e
    cases e1
    have hall : ∀ j u, (flatM ps)[j]? = some u → w.cell? ⟨g, j, none⟩ = some u := fun j u hu => by
      rw [← htk] at hu
      have hj := (List.getElem?_eq_some_iff.1 hu).1
      rw [List.getElem?_take_of_lt (by rw [List.length_take] at hj; omega)] at hu
      simp only [World.cell?, hg]
      simpa using hu
    have hsp : flatM ps = flatM (ps.take k0) ++ flatM (ps.drop k0) := by rw [← flatM_append, List.take_append_drop]
    have hlt : (flatM (ps.take k0)).length = k0 * 3 := by rw [flatM_len, List.length_take]; omega
    refine ⟨fun j u hu => ?_, fun j u hu => ?_, hb, (Array.getElem?_eq_some_iff.1 hg).1, hc⟩
    · rw [Go.WideShapes.add_plain, Nat.zero_add]
      refine hall j u ?_
      rw [hsp, List.getElem?_append_left (List.getElem?_eq_some_iff.1 hu).1]
      exact hu
    · rw [show (⟨g, k0 * 3, none⟩ : Addr).add j = ⟨g, k0 * 3 + j, none⟩ by simp [Addr.add]]
      refine hall (k0 * 3 + j) u ?_
      rw [hsp, List.getElem?_append_right (by omega), hlt, Nat.add_sub_cancel_left]
      exact hu
theorem LJ.fin {w : World} {vl : Value} {C : List (List UInt8)} {lp la : List Int} {l : List PM} {vp va vm : Value} {ps : List (PM × Value)} {wr : World} (h : LJ w vl C lp la l vp va vm ps wr) (v : Value) : MIn (wr.setCell ⟨w.heap.size, 0, none⟩ v).heap.size (wr.setCell ⟨w.heap.size, 0, none⟩ v) vm l := by
  have hk : ∀ {b1 : Nat} {e1 : TypeId} {s1 k1 : Nat} {v1 : Value} {x1 : List Value}, e1 ≠ 62 → wr.ownsRow b1 e1 s1 v1 k1 x1 → (wr.setCell ⟨w.heap.size, 0, none⟩ v).ownsRow b1 e1 s1 v1 k1 x1 := fun ht h1 => own_other h1 (fun g hg => Below.heap_setCell wr ⟨w.heap.size, 0, none⟩ _ g (by
    intro e
    have e' : g = w.heap.size := e
    subst e'
    obtain ⟨_, c, f, q⟩ := own_ge h1 hg
    have := q.symm.trans h.res
    simp only [Option.some.injEq, Obj.cells.injEq] at this
    exact ht this.2.1))
  have hm : MOwn (wr.setCell ⟨w.heap.size, 0, none⟩ v) w.heap.size vm ps := ⟨hk (by decide) h.marks, fun x hx => hk (by decide) (h.parts x hx)⟩
  have := hm.min
  rw [h.is] at this
  exact this
end Go.Proofs.YtfhpgmlfgjfknaaGreatDoor
