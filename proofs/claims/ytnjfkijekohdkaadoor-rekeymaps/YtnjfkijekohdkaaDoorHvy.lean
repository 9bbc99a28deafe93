/- What dovetaillaw09.heavy and weight do (contracts; nothing is claimed here). -/
import Derived.Test.YtnjfkijekohdkaaDoorVMem
namespace Go.Proofs.YtnjfkijekohdkaaDoor
open Go.RowKit Go.Vf

/-- Strings and lists that a machine bears. -/
inductive Fits : Prt → Prop where
  | mk {p : Prt} : 0 ≤ p.kind → p.raw.size ≤ 281474976710656 → p.mag.size ≤ 281474976710656 → p.items.length ≤ 281474976710656 → (∀ x ∈ p.items, Fits x) → Fits p
theorem Fits.pos {p : Prt} (h : Fits p) : 0 ≤ p.kind := by cases h; assumption
theorem Fits.raw {p : Prt} (h : Fits p) : p.raw.size ≤ 281474976710656 := by cases h; assumption
theorem Fits.mag {p : Prt} (h : Fits p) : p.mag.size ≤ 281474976710656 := by cases h; assumption
theorem Fits.len {p : Prt} (h : Fits p) : p.items.length ≤ 281474976710656 := by cases h; assumption
theorem Fits.mem {p x : Prt} (h : Fits p) (hx : x ∈ p.items) : Fits x := by cases h; rename_i h1; exact h1 x hx

end Go.Proofs.YtnjfkijekohdkaaDoor
