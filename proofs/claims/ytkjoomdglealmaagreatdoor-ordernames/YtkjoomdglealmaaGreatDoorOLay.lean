/- What the listed variables hold when a call of OrderNames begins gives the walk what it reads (nothing is claimed here). -/
import Derived.Test.YtkjoomdglealmaaGreatDoorJ31
namespace Go.Proofs.YtkjoomdglealmaaGreatDoor
open Go.RowKit Go.Vf

def laidQ : List (String × DataW Unit) := [("math/bits.deBruijn32tab", Rows.laid_math_bits_deBruijn32tab), ("math/bits.deBruijn64tab", Rows.laid_math_bits_deBruijn64tab), ("internal/strconv.uint64pow10", Rows.laid_internal_strconv_uint64pow10), ("unicode/utf8.acceptRanges", Rows.laid_unicode_utf8_acceptRanges), ("dovetail/utf.rows", Rows.laid_dovetail_utf_rows), ("dovetail/utf.heads", Rows.laid_dovetail_utf_heads), ("unicode/utf8.first", Rows.laid_unicode_utf8_first)]
def laidO : List (String × DataW Unit) := [("math/bits.deBruijn32tab", Rows.laid_math_bits_deBruijn32tab), ("math/bits.deBruijn64tab", Rows.laid_math_bits_deBruijn64tab), ("internal/strconv.uint64pow10", Rows.laid_internal_strconv_uint64pow10), ("unicode/utf8.acceptRanges", Rows.laid_unicode_utf8_acceptRanges), ("errors.errorType", Rows.laid_errors_errorType), ("dovetail/utf.rows", Rows.laid_dovetail_utf_rows), ("dovetail/utf.heads", Rows.laid_dovetail_utf_heads), ("unicode/utf8.first", Rows.laid_unicode_utf8_first)]
theorem tabs_of_laidO {W : World} (h : laidMet Tryz.prog laidQ W) : Tabs W := by
  obtain ⟨ps, ⟨_, _, _, _, _, _, _, _, _, _, ⟨_, _, _, _, _, _, _, _, _, _, ⟨_, _, _, _, _, _, _, _, _, _, ⟨_, _, _, _, _, _, _, _, _, _, ⟨g0, t0, cs0, f0, p0, q0, hg0, ht0, hv0, hd0, ⟨g1, t1, cs1, f1, p1, q1, hg1, ht1, hv1, hd1, _, _⟩, _⟩, _⟩, _⟩, _⟩, _⟩, _, _⟩ := h
  obtain rfl := Option.some.inj (gRows.symm.trans hg0)
  obtain rfl := Option.some.inj (gHeads.symm.trans hg1)
  obtain rfl := Option.some.inj (tRows.symm.trans ht0)
  obtain rfl := Option.some.inj (tHeads.symm.trans ht1)
  have c0 := World.var?_cell hg0 hv0
  have c1 := World.var?_cell hg1 hv1
  obtain ⟨xs, m, _, e, hl, hn, hel⟩ := DataW.trod_array Tryz.underlying335 hd0
  obtain ⟨ys, m1, _, e1, hl1, hn1, hel1⟩ := DataW.trod_array Tryz.underlying336 hd1
  have hrow : ∀ k, k < 9 → ∃ y : DataW Unit × List MemPlace, xs[k]? = some y ∧ y.1 = rowD k := fun k hk => by
    have e2 : xs.map (·.1) = (List.range 9).map rowD := by
      have := congrArg Prod.fst e
      rw [rows_data] at this
      exact (DataW.agg.inj this).symm
    have e3 := congrArg (fun l : List (DataW Unit) => l[k]?) e2
    simp only [List.getElem?_map, List.getElem?_range hk, Option.map_some] at e3
    obtain ⟨y, h1, h2⟩ := Option.map_eq_some_iff.1 e3
    exact ⟨y, h1, h2⟩
  have hhead : ∀ k, k < 5 → ∃ y : DataW Unit × List MemPlace, ys[k]? = some y ∧ y.1 = .lit (.int .u8 (headOf k : Int)) := fun k hk => by
    have e2 : ys.map (·.1) = (List.range 5).map fun k => .lit (.int .u8 (headOf k : Int)) := by
      have := congrArg Prod.fst e1
      rw [heads_data] at this
      exact (DataW.agg.inj this).symm
    have e3 := congrArg (fun l : List (DataW Unit) => l[k]?) e2
    simp only [List.getElem?_map, List.getElem?_range hk, Option.map_some] at e3
    obtain ⟨y, h1, h2⟩ := Option.map_eq_some_iff.1 e3
    exact ⟨y, h1, h2⟩
  have key : ∀ k, k < 9 → ∀ j v, ((cs0.toList.drop (k * 7)).take 7)[j]? = some v → W.cell? ⟨1, k * 7 + j, none⟩ = some v := fun k hk j v hv => by
    rw [c0]
    simp only [List.getElem?_take, List.getElem?_drop] at hv
    simp at hv
    simpa using hv.2
  have rows : ∀ k, k < 9 → RowCells ((cs0.toList.drop (k * 7)).take 7) k := fun k hk => by
    obtain ⟨y, h1, h2⟩ := hrow k hk
    have h3 := hel k hk
    rw [h1, cells48] at h3
    exact row_cells h3 h2
  refine ⟨?_, fun k hk => key k hk 0 _ (rows k hk).1, fun k hk => key k hk 1 _ (rows k hk).2.1, fun k hk => key k hk 2 _ (rows k hk).2.2.1, fun k hk => key k hk 3 _ (rows k hk).2.2.2.1, fun k hk => key k hk 4 _ (rows k hk).2.2.2.2.1, fun k hk => key k hk 5 _ (rows k hk).2.2.2.2.2.1, fun k hk => key k hk 6 _ (rows k hk).2.2.2.2.2.2, fun k hk => ?_⟩
  · simp only [World.var?, hg1, Option.bind_some] at hv1
    split at hv1
    · rename_i h; have := (Array.getElem?_eq_some_iff.1 h).1; omega
    · cases hv1
  · obtain ⟨y, h1, h2⟩ := hhead k hk
    have h3 := hel1 k hk
    rw [h1, cellsU5, Nat.mul_one] at h3
    have := one_cell' (int_cell Tryz.underlying5 h3 h2)
    rw [c1]
    simpa using this



theorem laid_partsO {W : World} (h : laidMetH Tryz.prog laidO W) : laidMet Tryz.prog laidQ W ∧ handlesMet Tryz.prog [("errors.errorType", Rows.laid_errors_errorType)] W := h
/-- A world that meets the condition: the variables' cells are laid. -/
noncomputable def laidWorldO (os : Os) : World :=
  let w0 := World.laidAll Tryz.prog os laidQ
  { w0 with heap := w0.heap.modify 0 fun
      | .cells _ t frozen => .cells #[.iface 215 (.agg #[hnd 42])] t frozen
      | o => o }
theorem laid_metO (os : Os) (args : Array Value) : laidMetH Tryz.prog laidO ((laidWorldO os).forCall (fun _ _ => 0) ⟨#[], args, []⟩).memory :=
  laidMetH_of_parts (laidMet_of_run' 600 (by kernel_rfl) (by kernel_rfl)) (by kernel_rfl)
theorem laid_shapedO (os : Os) (args : Array Value) : ((laidWorldO os).forCall (fun _ _ => 0) ⟨#[], args, []⟩).Shaped Tryz.prog := World.shaped_of_ZipB (by kernel_rfl) (by kernel_rfl)
end Go.Proofs.YtkjoomdglealmaaGreatDoor
