/- Rows of eight numbers (lemmas; nothing is claimed here). -/
import Derived.Test.YtfeppbiodbhpcaaDoorCmp
namespace Go.Proofs.YtfeppbiodbhpcaaDoor
open Go.RowKit Go.Vf Go.Maps

/-- A row of eight numbers. -/
structure R8 where
  a0 : Int
  a1 : Int
  a2 : Int
  a3 : Int
  a4 : Int
  a5 : Int
  a6 : Int
  a7 : Int
deriving DecidableEq, Inhabited
def R8.l (r : R8) : List Int := [r.a0, r.a1, r.a2, r.a3, r.a4, r.a5, r.a6, r.a7]
def R8.of (l : List Int) : R8 := ⟨l.getD 0 0, l.getD 1 0, l.getD 2 0, l.getD 3 0, l.getD 4 0, l.getD 5 0, l.getD 6 0, l.getD 7 0⟩
theorem R8.of_l (r : R8) : R8.of r.l = r := rfl
theorem R8.l_of {l : List Int} (h : l.length = 8) : (R8.of l).l = l := by
  obtain ⟨a, b, c, d, e, f, g, i, rfl⟩ := eight h
  rfl
theorem R8.l_inj {r s : R8} (h : r.l = s.l) : r = s := by rw [← R8.of_l r, h, R8.of_l]
def enc8 (r : R8) : List Value := r.l.map (Value.int .i64)
theorem enc8_len (r : R8) : (enc8 r).length = 8 := rfl
theorem enc8_one (r : R8) : ∀ v ∈ enc8 r, v.oneCell' = true := by
  intro v hv
  obtain ⟨x, _, rfl⟩ := List.mem_map.1 hv
  rfl
def cmp8 (r s : R8) : Int := aheadL r.l s.l
end Go.Proofs.YtfeppbiodbhpcaaDoor
