/- What the listed variables hold when a call begins, and the world's shape, give what the calls read of package-level variables (nothing is claimed here). -/
import Derived.Test.YtfeppbiodbhpcaaDoorLaid
namespace Go.Proofs.YtfeppbiodbhpcaaDoor
open Go.RowKit Go.Vf

def laidP : List (String × DataW Unit) := [("math/bits.deBruijn32tab", Rows.laid_math_bits_deBruijn32tab), ("math/bits.deBruijn64tab", Rows.laid_math_bits_deBruijn64tab), ("internal/strconv.uint64pow10", Rows.laid_internal_strconv_uint64pow10), ("unicode/utf8.acceptRanges", Rows.laid_unicode_utf8_acceptRanges), ("unicode.CaseRanges", Rows.laid_unicode_CaseRanges), ("unicode/utf8.first", Rows.laid_unicode_utf8_first)]
theorem laidP_met (os : Os) (args : Array Value) : laidMetH Tryd.prog laidP ((World.laidAll Tryd.prog os laidP).forCall (fun _ _ => 0) ⟨#[], args, []⟩).memory := by
  rw [MakeChecks.laidMetH_plain _ _ _ (by kernel_rfl)]
  exact laidMet_laidAll _ (by kernel_rfl) (by kernel_rfl)
theorem laidP_shaped (os : Os) (args : Array Value) : ((World.laidAll Tryd.prog os laidP).forCall (fun _ _ => 0) ⟨#[], args, []⟩).Shaped Tryd.prog := World.shaped_of_ZipB (by kernel_rfl) (by kernel_rfl)
/-- What the calls read of package-level variables. -/
structure GlobZ (w : World) : Prop where
  glob : Glob w
  lt : 6 < w.heap.size
  b64 : w.cell? ⟨6, 15, none⟩ = some (.int .u8 4)
theorem GlobZ.below {w w' : World} (h : GlobZ w) (hb : Below w.heap.size w w') : GlobZ w' := ⟨h.glob.below hb, Nat.lt_of_lt_of_le h.lt hb.size, (hb.cell (p := ⟨6, 15, none⟩) h.lt).trans h.b64⟩
theorem gB64 : Tryd.prog.globalNamed "math/bits.deBruijn64tab" = some 6 := by kernel_rfl
def b64Tab : List Int := (match (Rows.laid_math_bits_deBruijn64tab : DataW Unit) with
  | .agg xs => xs.map fun x => match x with
    | .lit (.int _ z) => z
    | _ => 0
  | _ => [])
theorem b64_data : (Rows.laid_math_bits_deBruijn64tab : DataW Unit) = Lib.tabData .u8 b64Tab := by kernel_rfl
theorem tB64 : (Tryd.prog.globals[6]?).map (·.type) = some 189 := by kernel_rfl
theorem globZ_of_laid {W : World} (h : laidMetH Tryd.prog laidP W) (hs : W.ShapedOpen Tryd.prog) : GlobZ W := by
  have hg : Glob W := cell_of_shapedOpen_int (P := Tryd.prog) (g := 0) (t := 3) (zero := #[.int .i64 0]) hs (of_decide_eq_true (by kernel_rfl)) (by kernel_rfl) rfl (by kernel_rfl) (by kernel_rfl) Tryd.underlying3
  rw [MakeChecks.laidMetH_plain _ _ _ (by kernel_rfl)] at h
  obtain ⟨ps, ⟨g0, t0, cs0, f0, p0, q0, hg0, ht0, hv0, hd0, ⟨g1, t1, cs1, f1, p1, q1, hg1, ht1, hv1, hd1, _, _⟩, _⟩, _, _⟩ := h
  obtain rfl := Option.some.inj (gB64.symm.trans hg1)
  obtain rfl := Option.some.inj (tB64.symm.trans ht1)
  rw [b64_data] at hd1
  have c1 := Lib.cells_of_tab Tryd.underlying189 Tryd.underlying5 (by kernel_rfl) (by kernel_rfl) hd1
  have i1 : Lib.TabIs Tryd.prog W "math/bits.deBruijn64tab" .u8 b64Tab := by unfold Lib.TabIs; rw [hv1, ← c1]
  have k1 := i1.cell gB64 15 (of_decide_eq_true (by kernel_rfl))
  rw [show b64Tab.getD 15 0 = 4 by kernel_rfl] at k1
  exact ⟨hg, World.block_lt_of_cell? W _ k1, k1⟩
end Go.Proofs.YtfeppbiodbhpcaaDoor
