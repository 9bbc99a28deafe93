/- The order of magnitudes is the order of their numbers; ints (lemmas of the verifier's own). -/
import Derived.Test.YtdmdnhlmfailaaaCmp
import Derived.Test.YtdmdnhlmfailaaaPrint
import Derived.Test.YtdmdnhlmfailaaaSmall
namespace Go.Proofs.Ytdmdnhlmfailaaa
open Go.RowKit Go.Vf

theorem hvl_lt (l : List UInt8) : hvl l < 256 ^ l.length := hval_lt l
theorem hvl_ge {l : List UInt8} (h : l.head? ≠ some 0) (h0 : l ≠ []) : 256 ^ (l.length - 1) ≤ hvl l := by
  have := lval_ge (l := l.reverse) (by rw [List.getLast?_reverse]; exact h) (by simpa using h0)
  rwa [List.length_reverse] at this

theorem sgn_eq {a b : Int} : sgn a b = 0 ↔ a = b := by unfold sgn; split <;> (try split) <;> omega
theorem sgn_lt {a b : Int} (h : a < b) : sgn a b = -1 := by unfold sgn; rw [if_pos h]
theorem sgn_gt {a b : Int} (h : b < a) : sgn a b = 1 := by unfold sgn; rw [if_neg (by omega), if_pos h]

theorem cmpL_val : ∀ (a b : List UInt8), a.length = b.length → cmpL a b = sgn (hvl a : Int) (hvl b : Int)
  | [], [], _ => rfl
  | x :: a, y :: b, h => by
    have hl : a.length = b.length := by simpa using h
    have ih := cmpL_val a b hl
    have ha := hvl_lt a
    have hb := hvl_lt b
    rw [hl] at ha
    rw [cmpL, hvl_cons, hvl_cons, hl, ih]
    by_cases h1 : x < y
    · rw [if_pos h1, sgn_lt]
      have : x.toNat + 1 ≤ y.toNat := h1
      have := Nat.mul_le_mul_right (256 ^ b.length) this
      rw [Nat.add_mul] at this
      omega
    · rw [if_neg h1]
      by_cases h2 : y < x
      · rw [if_pos h2, sgn_gt]
        have : y.toNat + 1 ≤ x.toNat := h2
        have := Nat.mul_le_mul_right (256 ^ b.length) this
        rw [Nat.add_mul] at this
        omega
      · rw [if_neg h2]
        have : x.toNat = y.toNat := by
          have h3 : ¬ x.toNat < y.toNat := h1
          have h4 : ¬ y.toNat < x.toNat := h2
          omega
        rw [this]
        unfold sgn
        congr 1
        · simp
        · congr 1
          simp
theorem hvl_short {a b : List UInt8} (h : a.length < b.length) (hb : b.head? ≠ some 0) : hvl a < hvl b := by
  have h1 := hvl_lt a
  have h2 := hvl_ge hb (fun h0 => by rw [h0] at h; simp at h)
  have h3 : 256 ^ a.length ≤ 256 ^ (b.length - 1) := Nat.pow_le_pow_right (by decide) (by omega)
  omega
theorem magC_val {a b : List UInt8} (ha : a.head? ≠ some 0) (hb : b.head? ≠ some 0) : magC a b = sgn (hvl a : Int) (hvl b : Int) := by
  unfold magC
  by_cases h0 : a.length = b.length
  · rw [if_pos (sgn_eq.2 (by omega)), cmpL_val a b h0]
  · rw [if_neg (fun h => h0 (by have := sgn_eq.1 h; omega))]
    rcases Nat.lt_or_gt_of_ne h0 with h | h
    · have := hvl_short h hb
      rw [sgn_lt (by omega), sgn_lt (by omega)]
    · have := hvl_short h ha
      rw [sgn_gt (by omega), sgn_gt (by omega)]

/-- A number's magnitude. -/
def magOf (n : Nat) : List UInt8 := (lowD n).reverse
theorem magOf_head (n : Nat) : (magOf n).head? ≠ some 0 := by rw [magOf, List.head?_reverse]; exact lowD_last n
theorem magOf_val (n : Nat) : hvl (magOf n) = n := by rw [hvl, magOf, List.reverse_reverse, lval_lowD]
theorem magOf_nil {n : Nat} : magOf n = [] ↔ n = 0 := by rw [magOf, List.reverse_eq_nil_iff, lowD_nil]
theorem magOf_hvl {m : List UInt8} (h : m.head? ≠ some 0) : magOf (hvl m) = m := by
  rw [magOf, hvl, lowD_lval (by rw [List.getLast?_reverse]; exact h), List.reverse_reverse]
theorem magOf_length (n : Nat) : (magOf n).length = (lowD n).length := List.length_reverse

theorem chk_ok {b : Bool} {m : List UInt8} (h1 : m.length ≤ 255) (h2 : m.head? ≠ some 0) (h3 : m = [] → b = false) : chk b m = 0 := by
  unfold chk
  rw [if_neg (by omega), if_neg]
  simp
  exact ⟨fun h => h3 h, h2⟩

theorem chk_of {i : Int} (hi : -9223372036854775808 ≤ i) (hi2 : i ≤ 9223372036854775807) : chk (decide (i < 0)) (magOf i.natAbs) = 0 := by
  refine chk_ok ?_ (magOf_head _) ?_
  · rw [magOf_length]
    have : (lowD i.natAbs).length ≤ 8 := lowD_length_le.2 (by rw [show (256 : Nat) ^ 8 = 18446744073709551616 by decide]; omega)
    omega
  · intro h
    have := magOf_nil.1 h
    simp
    omega
theorem small_of {i : Int} (hi : -9223372036854775808 ≤ i) (hi2 : i ≤ 9223372036854775807) : smallOf (decide (i < 0)) (magOf i.natAbs) = some i := by
  have h8 : (lowD i.natAbs).length ≤ 8 := lowD_length_le.2 (by rw [show (256 : Nat) ^ 8 = 18446744073709551616 by decide]; omega)
  have hv : hval (magOf i.natAbs) = i.natAbs := magOf_val _
  unfold smallOf
  rw [chk_of hi hi2, hv, magOf_length, if_neg (by simp; omega)]
  by_cases h : i < 0
  · simp only [h, decide_true, if_true]
    rw [if_pos (by omega)]
    congr 1
    omega
  · simp only [h, decide_false, Bool.false_eq_true, if_false]
    rw [if_pos (by omega)]
    congr 1
    omega
theorem cmpN_of (i k : Int) : cmpN (decide (i < 0)) (magOf i.natAbs) (decide (k < 0)) (magOf k.natAbs) = sgn i k := by
  unfold cmpN
  rw [magC_val (magOf_head _) (magOf_head _), magC_val (magOf_head _) (magOf_head _), magOf_val, magOf_val]
  unfold sgn
  by_cases h1 : i < 0 <;> by_cases h2 : k < 0 <;> simp only [h1, h2, decide_true, decide_false, Bool.and_self, Bool.and_true, Bool.and_false, if_true, Bool.false_eq_true, if_false] <;> (repeat' split) <;> omega
end Go.Proofs.Ytdmdnhlmfailaaa
