/- Contracts and lemmas (nothing is claimed here). -/
namespace Go.Vf
def flipL (l : List UInt8) : List UInt8 := l.map (255 - ·)
def cmpL : List UInt8 → List UInt8 → Int
  | [], [] => 0
  | [], _ :: _ => -1
  | _ :: _, [] => 1
  | a :: x, b :: y => if a < b then -1 else if b < a then 1 else cmpL x y
theorem cmpL_three (a b : List UInt8) : cmpL a b = -1 ∨ cmpL a b = 0 ∨ cmpL a b = 1 := by
  fun_induction cmpL a b <;> simp_all
theorem cmpL_neg (a b : List UInt8) : cmpL b a = - cmpL a b := by
  fun_induction cmpL a b <;> simp_all [cmpL]
  · rename_i h; exact UInt8.le_of_lt h
  · rename_i h1 h2 ih
    rw [if_neg (by simpa using h2), if_neg (by simpa using h1)]
def beginsL (a b : List UInt8) : Bool := b.isPrefixOf a
theorem beginsL_take (a b : List UInt8) (_h : b.length ≤ a.length) : (a.take b.length == b) = beginsL a b := by
  rw [Bool.eq_iff_iff, beq_iff_eq, beginsL, List.isPrefixOf_iff_prefix, List.prefix_iff_eq_take]
  exact ⟨fun h => h.symm, fun h => h.symm⟩
theorem beginsL_short (a b : List UInt8) (h : ¬ b.length ≤ a.length) : beginsL a b = false := by
  rw [beginsL, Bool.eq_false_iff]
  intro hp
  rw [List.isPrefixOf_iff_prefix] at hp
  exact h hp.length_le
end Go.Vf
namespace Go.Vf
def Parts (A B : List UInt8) (c : Int) : Prop := ∃ pre u v ra rb, A = pre ++ u :: ra ∧ B = pre ++ v :: rb ∧ u ≠ v ∧ c = (if u < v then -1 else 1)
end Go.Vf
