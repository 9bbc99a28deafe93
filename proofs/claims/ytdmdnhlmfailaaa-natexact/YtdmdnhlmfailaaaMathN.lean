/- Lists that are turned in their place, from the front on; numbers to the base 256 (lemmas of the verifier's own; no program). -/
import Derived.Test.YtdmdnhlmfailaaaMathB
namespace Go.Vf

theorem mix_length {a l : List UInt8} (hal : a.length = l.length) (k : Nat) (hk : k ≤ l.length) : (a.take k ++ l.drop k).length = l.length := by simp; omega
theorem mix_get {a l : List UInt8} (hal : a.length = l.length) (k : Nat) (hk : k < l.length) (h : k < (a.take k ++ l.drop k).length) : (a.take k ++ l.drop k)[k] = l[k] := by
  have h1 : (a.take k).length = k := by simp; omega
  rw [List.getElem_append_right (by omega)]
  simp [h1]
theorem mix_set {a l : List UInt8} (hal : a.length = l.length) (k : Nat) (hk : k < l.length) : (a.take k ++ l.drop k).set k (a[k]'(by omega)) = a.take (k + 1) ++ l.drop (k + 1) := by
  have h1 : (a.take k).length = k := by simp; omega
  rw [List.set_append_right _ _ (by omega), h1, Nat.sub_self, List.drop_eq_getElem_cons hk, List.set_cons_zero]
  have e : a.take (k + 1) = a.take k ++ [a[k]'(by omega)] := by
    rw [List.take_add_one, List.getElem?_eq_getElem (show k < a.length by omega)]
    rfl
  rw [e, List.append_assoc]
  rfl

/-- Digits to the base 256, the lowest first: their number. -/
def lval : List UInt8 → Nat
  | [] => 0
  | x :: r => x.toNat + 256 * lval r
/-- A number's digits to the base 256, the lowest first, no nought behind. -/
def lowD (n : Nat) : List UInt8 := if n = 0 then [] else UInt8.ofNat (n % 256) :: lowD (n / 256)
termination_by n
decreasing_by omega

theorem ofNat_mod (n : Nat) : (UInt8.ofNat (n % 256)).toNat = n % 256 := by
  rw [UInt8.toNat_ofNat_of_lt' (Nat.mod_lt _ (by decide))]
theorem lowD_zero : lowD 0 = [] := by rw [lowD, if_pos rfl]
theorem lowD_pos {n : Nat} (h : n ≠ 0) : lowD n = UInt8.ofNat (n % 256) :: lowD (n / 256) := by rw [lowD, if_neg h]
theorem lval_lowD (n : Nat) : lval (lowD n) = n := by
  induction n using Nat.strongRecOn with
  | ind n ih =>
    by_cases h : n = 0
    · subst h; rw [lowD_zero]; rfl
    · rw [lowD_pos h, lval, ih _ (by omega), ofNat_mod]
      omega
theorem lowD_nil {n : Nat} : lowD n = [] ↔ n = 0 := by
  constructor
  · intro h
    have := lval_lowD n
    rw [h] at this
    exact this.symm
  · rintro rfl; exact lowD_zero
theorem lval_pos {l : List UInt8} (h : l.getLast? ≠ some 0) (h0 : l ≠ []) : lval l ≠ 0 := by
  induction l with
  | nil => exact absurd rfl h0
  | cons x r ih =>
    rw [lval]
    by_cases hr : r = []
    · subst hr
      simp only [List.getLast?_singleton, ne_eq, Option.some.injEq] at h
      intro h1
      exact h (UInt8.toNat_inj.1 (by show x.toNat = 0; omega))
    · have h2 : r.getLast? ≠ some 0 := by
        intro h3
        apply h
        rw [List.getLast?_cons, h3]
        rfl
      have := ih h2 hr
      omega
theorem lowD_lval {l : List UInt8} (h : l.getLast? ≠ some 0) : lowD (lval l) = l := by
  induction l with
  | nil => exact lowD_zero
  | cons x r ih =>
    rw [lowD_pos (lval_pos h (by simp)), lval]
    have hx := x.toNat_lt
    have e1 : (x.toNat + 256 * lval r) % 256 = x.toNat := by omega
    have e2 : (x.toNat + 256 * lval r) / 256 = lval r := by omega
    rw [e1, e2]
    have h2 : r.getLast? ≠ some 0 := by
      intro h3
      apply h
      rw [List.getLast?_cons, h3]
      rfl
    rw [ih h2]
    simp
theorem lowD_last (n : Nat) : (lowD n).getLast? ≠ some 0 := by
  induction n using Nat.strongRecOn with
  | ind n ih =>
    by_cases h : n = 0
    · subst h; rw [lowD_zero]; simp
    · rw [lowD_pos h]
      by_cases h2 : n / 256 = 0
      · rw [h2, lowD_zero]
        simp only [List.getLast?_singleton, ne_eq, Option.some.injEq]
        intro h3
        have := ofNat_mod n
        rw [h3] at this
        have : n % 256 = 0 := this.symm
        omega
      · have h3 := ih (n / 256) (by omega)
        rw [List.getLast?_cons]
        cases h4 : (lowD (n / 256)).getLast? with
        | none => exact absurd (lowD_nil.1 (List.getLast?_eq_none_iff.1 h4)) h2
        | some y => rw [h4] at h3; exact h3
theorem lval_lt (l : List UInt8) : lval l < 256 ^ l.length := by
  induction l with
  | nil => simp [lval]
  | cons x r ih =>
    have := x.toNat_lt
    rw [lval, List.length_cons, Nat.pow_succ]
    omega
theorem lval_ge {l : List UInt8} (h : l.getLast? ≠ some 0) (h0 : l ≠ []) : 256 ^ (l.length - 1) ≤ lval l := by
  induction l with
  | nil => exact absurd rfl h0
  | cons x r ih =>
    rw [lval]
    by_cases hr : r = []
    · subst hr
      have := lval_pos h (by simp)
      rw [lval] at this
      simp [lval] at this ⊢
      omega
    · have h2 : r.getLast? ≠ some 0 := by
        intro h3
        apply h
        rw [List.getLast?_cons, h3]
        rfl
      have := ih h2 hr
      have hl : 0 < r.length := List.length_pos_iff.2 hr
      have e : (x :: r).length - 1 = (r.length - 1) + 1 := by simp; omega
      rw [e, Nat.pow_succ]
      omega
theorem lowD_length_le {n k : Nat} : (lowD n).length ≤ k ↔ n < 256 ^ k := by
  constructor
  · intro h
    have h1 := lval_lt (lowD n)
    rw [lval_lowD] at h1
    exact Nat.lt_of_lt_of_le h1 (Nat.pow_le_pow_right (by decide) h)
  · intro h
    by_cases h0 : n = 0
    · subst h0; rw [lowD_zero]; simp
    · have h1 := lval_ge (lowD_last n) (fun h2 => h0 (lowD_nil.1 h2))
      rw [lval_lowD] at h1
      rcases Nat.lt_or_ge k (lowD n).length with h2 | h2
      · have h3 : 256 ^ k ≤ 256 ^ ((lowD n).length - 1) := Nat.pow_le_pow_right (by decide) (by omega)
        omega
      · exact h2
theorem lowD_length_mono {n m : Nat} (h : n ≤ m) : (lowD n).length ≤ (lowD m).length :=
  lowD_length_le.2 (Nat.lt_of_le_of_lt h (lowD_length_le.1 (Nat.le_refl _)))
theorem lval_append (a b : List UInt8) : lval (a ++ b) = lval a + 256 ^ a.length * lval b := by
  induction a with
  | nil => simp [lval]
  | cons x r ih =>
    rw [List.cons_append, lval, lval, ih, List.length_cons, Nat.pow_succ, Nat.mul_add, ← Nat.mul_assoc, Nat.add_assoc, Nat.mul_comm 256 (256 ^ r.length)]
end Go.Vf
