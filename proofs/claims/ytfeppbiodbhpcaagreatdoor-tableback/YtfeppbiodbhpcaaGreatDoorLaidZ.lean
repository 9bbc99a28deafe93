/- What the listed variables hold when a call begins, and the world's shape, give what the calls read of package-level variables (nothing is claimed here). -/
import Derived.Test.YtfeppbiodbhpcaaGreatDoorLaid
namespace Go.Proofs.YtfeppbiodbhpcaaGreatDoor
open Go.RowKit Go.Vf

/-- What the calls read of package-level variables. -/
structure GlobZ (w : World) : Prop where
  glob : Glob w
  lt : 6 < w.heap.size
  b64 : w.cell? ⟨6, 15, none⟩ = some (.int .u8 4)
theorem GlobZ.below {w w' : World} (h : GlobZ w) (hb : Below w.heap.size w w') : GlobZ w' := ⟨h.glob.below hb, Nat.lt_of_lt_of_le h.lt hb.size, (hb.cell (p := ⟨6, 15, none⟩) h.lt).trans h.b64⟩
theorem gB64 : Tryz.prog.globalNamed "math/bits.deBruijn64tab" = some 6 := by kernel_rfl
def b64Tab : List Int := (match (Rows.laid_math_bits_deBruijn64tab : DataW Unit) with
  | .agg xs => xs.map fun x => match x with
    | .lit (.int _ z) => z
    | _ => 0
  | _ => [])
theorem b64_data : (Rows.laid_math_bits_deBruijn64tab : DataW Unit) = Lib.tabData .u8 b64Tab := by kernel_rfl
theorem tB64 : (Tryz.prog.globals[6]?).map (·.type) = some 168 := by kernel_rfl
theorem globZ_of_laid {W : World} (h : laidMetH Tryz.prog laid2 W) (hs : W.ShapedOpen Tryz.prog) : GlobZ W := by
  have hg := glob_of_laid h hs
  rw [MakeChecks.laidMetH_plain _ _ _ (by kernel_rfl)] at h
  obtain ⟨ps, ⟨g0, t0, cs0, f0, p0, q0, hg0, ht0, hv0, hd0, ⟨g1, t1, cs1, f1, p1, q1, hg1, ht1, hv1, hd1, _, _⟩, _⟩, _, _⟩ := h
  obtain rfl := Option.some.inj (gB64.symm.trans hg1)
  obtain rfl := Option.some.inj (tB64.symm.trans ht1)
  rw [b64_data] at hd1
  have c1 := Lib.cells_of_tab Tryz.underlying168 Tryz.underlying5 (by kernel_rfl) (by kernel_rfl) hd1
  have i1 : Lib.TabIs Tryz.prog W "math/bits.deBruijn64tab" .u8 b64Tab := by unfold Lib.TabIs; rw [hv1, ← c1]
  have k1 := i1.cell gB64 15 (of_decide_eq_true (by kernel_rfl))
  rw [show b64Tab.getD 15 0 = 4 by kernel_rfl] at k1
  exact ⟨hg, World.block_lt_of_cell? W _ k1, k1⟩
end Go.Proofs.YtfeppbiodbhpcaaGreatDoor
