/- What dovetaillaw03.owned does, its first loops (contracts; nothing is claimed here). -/
import Derived.Test.YtjlgmoakdaeinaaDoorOwn
namespace Go.Proofs.YtjlgmoakdaeinaaDoor
open Go.RowKit Go.Vf

/-- The lists that came out: values, in a list of lists of the call's own, in blocks apart. -/
structure Many (w : World) (base : Nat) (T : Value) (vs : List Value) (C : Nat → List Int) : Prop where
  row : LOwn w base T vs
  each : ∀ j (h : j < vs.length), IOwn w base vs[j] (C j)
  apart : ∀ i j (hi : i < vs.length) (hj : j < vs.length), i ≠ j → ∀ b, vs[i].ownBlock = some b → vs[j].ownBlock ≠ some b

theorem Many.set {w : World} {base : Nat} {T : Value} {vs : List Value} {C : Nat → List Int} (m : Many w base T vs C) (i : Nat) (hi : i < vs.length) {g len cap : Nat} (hv : vs[i] = .slice (some ⟨g, 0, none⟩) len cap) (k : Nat) (x : Int) :
    Many (w.setCell ⟨g, k, none⟩ (.int .i64 x)) base T vs (fun j => if j = i then (C i).set k x else C j) := by
  have hb : vs[i].ownBlock = some g := by rw [hv]; rfl
  refine ⟨?_, fun j hj => ?_, m.apart⟩
  · exact ownsRow_setCell_other m.row (a := ⟨g, k, none⟩) (own_ne (m.each i hi) m.row (by decide) hb) _
  · by_cases e : j = i
    · subst e
      rw [if_pos rfl, hv]
      have := m.each j hi
      rw [hv] at this
      exact this.set k x
    · rw [if_neg e]
      exact (m.each j hj).other (m.apart i j hi hj (fun h => e h.symm) g hb) _

end Go.Proofs.YtjlgmoakdaeinaaDoor
