/- Contracts and lemmas (nothing is claimed here). -/
import Derived.Test.YtcbjnifoojjipaaGreatDoorJ3
namespace Go.Vf
theorem mix_length {a l : List UInt8} (hal : a.length = l.length) (k : Nat) (hk : k ≤ l.length) : (a.take k ++ l.drop k).length = l.length := by simp; omega
theorem mix_get {a l : List UInt8} (hal : a.length = l.length) (k : Nat) (hk : k < l.length) (h : k < (a.take k ++ l.drop k).length) : (a.take k ++ l.drop k)[k] = l[k] := by
  have h1 : (a.take k).length = k := by simp; omega
  rw [List.getElem_append_right (by omega)]
  simp [h1]
theorem mix_set {a l : List UInt8} (hal : a.length = l.length) (k : Nat) (hk : k < l.length) : (a.take k ++ l.drop k).set k (a[k]'(by omega)) = a.take (k + 1) ++ l.drop (k + 1) := by
  have h1 : (a.take k).length = k := by simp; omega
  rw [List.set_append_right _ _ (by omega), h1, Nat.sub_self, List.drop_eq_getElem_cons hk, List.set_cons_zero]
  have e : a.take (k + 1) = a.take k ++ [a[k]'(by omega)] := by
    rw [List.take_add_one, List.getElem?_eq_getElem (show k < a.length by omega)]
    rfl
  rw [e, List.append_assoc]
  rfl
def lval : List UInt8 → Nat
  | [] => 0
  | x :: r => x.toNat + 256 * lval r
def lowD (n : Nat) : List UInt8 := if n = 0 then [] else UInt8.ofNat (n % 256) :: lowD (n / 256)
termination_by n
decreasing_by omega
theorem ofNat_mod (n : Nat) : (UInt8.ofNat (n % 256)).toNat = n % 256 := by
  rw [UInt8.toNat_ofNat_of_lt' (Nat.mod_lt _ (by decide))]
theorem lowD_zero : lowD 0 = [] := by rw [lowD, if_pos rfl]
theorem lowD_pos {n : Nat} (h : n ≠ 0) : lowD n = UInt8.ofNat (n % 256) :: lowD (n / 256) := by rw [lowD, if_neg h]
theorem lval_lowD (n : Nat) : lval (lowD n) = n := by
  induction n using Nat.strongRecOn with
  | ind n ih =>
    by_cases h : n = 0
    · subst h; rw [lowD_zero]; rfl
    · rw [lowD_pos h, lval, ih _ (by omega), ofNat_mod]
      omega
theorem lowD_nil {n : Nat} : lowD n = [] ↔ n = 0 := by
  constructor
  · intro h
    have := lval_lowD n
    rw [h] at this
    exact this.symm
  · rintro rfl; exact lowD_zero
theorem lval_pos {l : List UInt8} (h : l.getLast? ≠ some 0) (h0 : l ≠ []) : lval l ≠ 0 := by
  induction l with
  | nil => exact absurd rfl h0
  | cons x r ih =>
    rw [lval]
    by_cases hr : r = []
    · subst hr
      simp only [List.getLast?_singleton, ne_eq, Option.some.injEq] at h
      intro h1
      exact h (UInt8.toNat_inj.1 (by show x.toNat = 0; omega))
    · have h2 : r.getLast? ≠ some 0 := by
        intro h3
        apply h
        rw [List.getLast?_cons, h3]
        rfl
      have := ih h2 hr
      omega
theorem lowD_lval {l : List UInt8} (h : l.getLast? ≠ some 0) : lowD (lval l) = l := by
  induction l with
  | nil => exact lowD_zero
  | cons x r ih =>
    rw [lowD_pos (lval_pos h (by simp)), lval]
    have hx := x.toNat_lt
    have e1 : (x.toNat + 256 * lval r) % 256 = x.toNat := by omega
    have e2 : (x.toNat + 256 * lval r) / 256 = lval r := by omega
    rw [e1, e2]
    have h2 : r.getLast? ≠ some 0 := by
      intro h3
      apply h
      rw [List.getLast?_cons, h3]
      rfl
    rw [ih h2]
    simp
theorem lowD_last (n : Nat) : (lowD n).getLast? ≠ some 0 := by
  induction n using Nat.strongRecOn with
  | ind n ih =>
    by_cases h : n = 0
    · subst h; rw [lowD_zero]; simp
    · rw [lowD_pos h]
      by_cases h2 : n / 256 = 0
      · rw [h2, lowD_zero]
        simp only [List.getLast?_singleton, ne_eq, Option.some.injEq]
        intro h3
        have := ofNat_mod n
        rw [h3] at this
        have : n % 256 = 0 := this.symm
        omega
      · have h3 := ih (n / 256) (by omega)
        rw [List.getLast?_cons]
        cases h4 : (lowD (n / 256)).getLast? with
        | none => exact absurd (lowD_nil.1 (List.getLast?_eq_none_iff.1 h4)) h2
        | some y => rw [h4] at h3; exact h3
theorem lval_lt (l : List UInt8) : lval l < 256 ^ l.length := by
  induction l with
  | nil => simp [lval]
  | cons x r ih =>
    have := x.toNat_lt
    rw [lval, List.length_cons, Nat.pow_succ]
    omega
theorem lval_ge {l : List UInt8} (h : l.getLast? ≠ some 0) (h0 : l ≠ []) : 256 ^ (l.length - 1) ≤ lval l := by
  induction l with
  | nil => exact absurd rfl h0
  | cons x r ih =>
    rw [lval]
    by_cases hr : r = []
    · subst hr
      have := lval_pos h (by simp)
      rw [lval] at this
      simp [lval] at this ⊢
      omega
    · have h2 : r.getLast? ≠ some 0 := by
        intro h3
        apply h
        rw [List.getLast?_cons, h3]
        rfl
      have := ih h2 hr
      have hl : 0 < r.length := List.length_pos_iff.2 hr
      have e : (x :: r).length - 1 = (r.length - 1) + 1 := by simp; omega
      rw [e, Nat.pow_succ]
      omega
theorem lowD_length_le {n k : Nat} : (lowD n).length ≤ k ↔ n < 256 ^ k := by
  constructor
  · intro h
    have h1 := lval_lt (lowD n)
    rw [lval_lowD] at h1
    exact Nat.lt_of_lt_of_le h1 (Nat.pow_le_pow_right (by decide) h)
  · intro h
    by_cases h0 : n = 0
    · subst h0; rw [lowD_zero]; simp
    · have h1 := lval_ge (lowD_last n) (fun h2 => h0 (lowD_nil.1 h2))
      rw [lval_lowD] at h1
      rcases Nat.lt_or_ge k (lowD n).length with h2 | h2
      · have h3 : 256 ^ k ≤ 256 ^ ((lowD n).length - 1) := Nat.pow_le_pow_right (by decide) (by omega)
        omega
      · exact h2
theorem lowD_length_mono {n m : Nat} (h : n ≤ m) : (lowD n).length ≤ (lowD m).length :=
  lowD_length_le.2 (Nat.lt_of_le_of_lt h (lowD_length_le.1 (Nat.le_refl _)))
theorem lval_append (a b : List UInt8) : lval (a ++ b) = lval a + 256 ^ a.length * lval b := by
  induction a with
  | nil => simp [lval]
  | cons x r ih =>
    rw [List.cons_append, lval, lval, ih, List.length_cons, Nat.pow_succ, Nat.mul_add, ← Nat.mul_assoc, Nat.add_assoc, Nat.mul_comm 256 (256 ^ r.length)]
end Go.Vf
namespace Go.Vf
def tval : List UInt8 → Nat
  | [] => 0
  | x :: r => (x.toNat - 48) + 10 * tval r
def dval (l : List UInt8) : Nat := tval l.reverse
def isDig (x : UInt8) : Bool := decide (48 ≤ x.toNat) && decide (x.toNat ≤ 57)
theorem tval_append (a b : List UInt8) : tval (a ++ b) = tval a + 10 ^ a.length * tval b := by
  induction a with
  | nil => simp [tval]
  | cons x r ih =>
    rw [List.cons_append, tval, tval, ih, List.length_cons, Nat.pow_succ, Nat.mul_add, ← Nat.mul_assoc, Nat.add_assoc, Nat.mul_comm 10 (10 ^ r.length)]
theorem dval_snoc (l : List UInt8) (x : UInt8) : dval (l ++ [x]) = 10 * dval l + (x.toNat - 48) := by
  simp [dval, tval]; omega
theorem dval_append (a b : List UInt8) : dval (a ++ b) = dval a * 10 ^ b.length + dval b := by
  simp only [dval, List.reverse_append, tval_append, List.length_reverse]
  rw [Nat.add_comm, Nat.mul_comm]
theorem tval_lt {l : List UInt8} (h : ∀ x ∈ l, isDig x = true) : tval l < 10 ^ l.length := by
  induction l with
  | nil => simp [tval]
  | cons x r ih =>
    have h1 := h x (by simp)
    have h2 := ih (fun y hy => h y (by simp [hy]))
    simp [isDig] at h1
    rw [tval, List.length_cons, Nat.pow_succ]
    omega
theorem dval_lt {l : List UInt8} (h : ∀ x ∈ l, isDig x = true) : dval l < 10 ^ l.length := by
  have := tval_lt (l := l.reverse) (fun x hx => h x (by simpa using hx))
  rwa [List.length_reverse] at this
def decD (n : Nat) : List UInt8 := if n = 0 then [] else UInt8.ofNat (48 + n % 10) :: decD (n / 10)
termination_by n
decreasing_by omega
theorem ofNat_dig (n : Nat) : (UInt8.ofNat (48 + n % 10)).toNat = 48 + n % 10 := by
  rw [UInt8.toNat_ofNat_of_lt' (by have := Nat.mod_lt n (show 0 < 10 by decide); show 48 + n % 10 < 256; omega)]
theorem decD_zero : decD 0 = [] := by rw [decD, if_pos rfl]
theorem decD_pos {n : Nat} (h : n ≠ 0) : decD n = UInt8.ofNat (48 + n % 10) :: decD (n / 10) := by rw [decD, if_neg h]
theorem tval_decD (n : Nat) : tval (decD n) = n := by
  induction n using Nat.strongRecOn with
  | ind n ih =>
    by_cases h : n = 0
    · subst h; rw [decD_zero]; rfl
    · rw [decD_pos h, tval, ih _ (by omega), ofNat_dig]
      omega
theorem decD_nil {n : Nat} : decD n = [] ↔ n = 0 := by
  constructor
  · intro h
    have := tval_decD n
    rw [h] at this
    exact this.symm
  · rintro rfl; exact decD_zero
theorem decD_digs (n : Nat) : ∀ x ∈ decD n, isDig x = true := by
  induction n using Nat.strongRecOn with
  | ind n ih =>
    by_cases h : n = 0
    · subst h; rw [decD_zero]; simp
    · rw [decD_pos h]
      intro x hx
      rcases List.mem_cons.1 hx with rfl | hx
      · have := ofNat_dig n
        simp only [isDig, this, Bool.and_eq_true, decide_eq_true_eq]
        omega
      · exact ih _ (by omega) x hx
theorem tval_pos {l : List UInt8} (hd : ∀ x ∈ l, isDig x = true) (h : l.getLast? ≠ some 48) (h0 : l ≠ []) : tval l ≠ 0 := by
  induction l with
  | nil => exact absurd rfl h0
  | cons x r ih =>
    rw [tval]
    by_cases hr : r = []
    · subst hr
      have h1 := hd x (by simp)
      simp [isDig] at h1
      simp only [List.getLast?_singleton, ne_eq, Option.some.injEq] at h
      intro h2
      exact h (UInt8.toNat_inj.1 (by show x.toNat = 48; omega))
    · have h2 : r.getLast? ≠ some 48 := by
        intro h3
        apply h
        rw [List.getLast?_cons, h3]
        rfl
      have := ih (fun y hy => hd y (by simp [hy])) h2 hr
      omega
theorem decD_tval {l : List UInt8} (hd : ∀ x ∈ l, isDig x = true) (h : l.getLast? ≠ some 48) : decD (tval l) = l := by
  induction l with
  | nil => exact decD_zero
  | cons x r ih =>
    rw [decD_pos (tval_pos hd h (by simp)), tval]
    have h1 := hd x (by simp)
    simp [isDig] at h1
    have e1 : (x.toNat - 48 + 10 * tval r) % 10 = x.toNat - 48 := by omega
    have e2 : (x.toNat - 48 + 10 * tval r) / 10 = tval r := by omega
    rw [e1, e2, show 48 + (x.toNat - 48) = x.toNat by omega]
    have h2 : r.getLast? ≠ some 48 := by
      intro h3
      apply h
      rw [List.getLast?_cons, h3]
      rfl
    rw [ih (fun y hy => hd y (by simp [hy])) h2]
    simp
theorem decD_last (n : Nat) : (decD n).getLast? ≠ some 48 := by
  induction n using Nat.strongRecOn with
  | ind n ih =>
    by_cases h : n = 0
    · subst h; rw [decD_zero]; simp
    · rw [decD_pos h]
      by_cases h2 : n / 10 = 0
      · rw [h2, decD_zero]
        simp only [List.getLast?_singleton, ne_eq, Option.some.injEq]
        intro h3
        have := ofNat_dig n
        rw [h3] at this
        have : (48 : UInt8).toNat = 48 := rfl
        omega
      · have h3 := ih (n / 10) (by omega)
        rw [List.getLast?_cons]
        cases h4 : (decD (n / 10)).getLast? with
        | none => exact absurd (decD_nil.1 (List.getLast?_eq_none_iff.1 h4)) h2
        | some y => rw [h4] at h3; exact h3
def mulL (sc : Nat) : Nat → List UInt8 → List UInt8 × Nat
  | c, [] => ([], c)
  | c, x :: r => (UInt8.ofNat ((c + x.toNat * sc) % 256) :: (mulL sc ((c + x.toNat * sc) / 256) r).1, (mulL sc ((c + x.toNat * sc) / 256) r).2)
theorem mulL_length (sc : Nat) : ∀ (l : List UInt8) (c : Nat), (mulL sc c l).1.length = l.length
  | [], _ => rfl
  | _ :: r, _ => by simp [mulL, mulL_length sc r]
theorem mulL_val (sc : Nat) : ∀ (l : List UInt8) (c : Nat), lval (mulL sc c l).1 + 256 ^ l.length * (mulL sc c l).2 = lval l * sc + c
  | [], c => by simp [mulL, lval]
  | x :: r, c => by
    have ih := mulL_val sc r ((c + x.toNat * sc) / 256)
    rw [mulL, lval, lval, ofNat_mod, List.length_cons, Nat.pow_succ]
    simp only
    have e : 256 ^ r.length * 256 * (mulL sc ((c + x.toNat * sc) / 256) r).2 = 256 * (256 ^ r.length * (mulL sc ((c + x.toNat * sc) / 256) r).2) := by
      rw [Nat.mul_comm (256 ^ r.length) 256, Nat.mul_assoc]
    rw [e, Nat.add_mul, Nat.mul_assoc]
    omega
theorem mulL_carry {sc : Nat} (l : List UInt8) : ∀ (c : Nat), c ≤ sc → (mulL sc c l).2 ≤ sc := by
  induction l with
  | nil => intro c h; exact h
  | cons x r ih =>
    intro c h
    refine ih _ ?_
    have hx := x.toNat_lt
    have : x.toNat * sc ≤ 255 * sc := Nat.mul_le_mul_right _ (by omega)
    omega
theorem last_of_ge {l : List UInt8} (h : 256 ^ (l.length - 1) ≤ lval l) (h0 : l ≠ []) : l.getLast? ≠ some 0 := by
  intro hl
  obtain ⟨r, rfl⟩ : ∃ r, l = r ++ [0] := by
    rw [List.getLast?_eq_some_iff] at hl
    exact hl
  rw [lval_append] at h
  have := lval_lt r
  simp [lval] at h
  omega
theorem mul_low {l : List UInt8} (hl : l.getLast? ≠ some 0) {sc c : Nat} (hs : 1 ≤ sc) : (mulL sc c l).1 ++ lowD (mulL sc c l).2 = lowD (lval l * sc + c) := by
  have hv := mulL_val sc l c
  have hval : lval ((mulL sc c l).1 ++ lowD (mulL sc c l).2) = lval l * sc + c := by rw [lval_append, mulL_length, lval_lowD, hv]
  rw [← hval, lowD_lval]
  by_cases h2 : (mulL sc c l).2 = 0
  · rw [h2, lowD_zero, List.append_nil]
    by_cases h0 : l = []
    · subst h0; simp [mulL]
    · have h3 := lval_ge hl h0
      have h4 : lval l ≤ lval l * sc := Nat.le_mul_of_pos_right _ (by omega)
      rw [h2, Nat.mul_zero, Nat.add_zero] at hv
      refine last_of_ge ?_ ?_
      · rw [mulL_length]; omega
      · intro h5
        have := mulL_length sc l c
        rw [h5] at this
        exact h0 (List.eq_nil_of_length_eq_zero this.symm)
  · rw [List.getLast?_append]
    cases h5 : (lowD (mulL sc c l).2).getLast? with
    | none => exact absurd (lowD_nil.1 (List.getLast?_eq_none_iff.1 h5)) h2
    | some y => have := lowD_last (mulL sc c l).2; rw [h5] at this; simpa using this
def divL (G : Nat) : Nat → List UInt8 → List UInt8 × Nat
  | r, [] => ([], r)
  | r, x :: t => (UInt8.ofNat ((r * 256 + x.toNat) / G) :: (divL G ((r * 256 + x.toNat) % G) t).1, (divL G ((r * 256 + x.toNat) % G) t).2)
theorem divL_length (G : Nat) : ∀ (l : List UInt8) (r : Nat), (divL G r l).1.length = l.length
  | [], _ => rfl
  | _ :: t, _ => by simp [divL, divL_length G t]
def hvl (l : List UInt8) : Nat := lval l.reverse
theorem hvl_cons (x : UInt8) (t : List UInt8) : hvl (x :: t) = x.toNat * 256 ^ t.length + hvl t := by
  simp [hvl, lval_append, lval]
  rw [Nat.add_comm, Nat.mul_comm]
theorem divL_val {G : Nat} (hG : 0 < G) : ∀ (l : List UInt8) (r : Nat), r < G → G * hvl (divL G r l).1 + (divL G r l).2 = r * 256 ^ l.length + hvl l ∧ (divL G r l).2 < G
  | [], r, h => by simp [divL, hvl, lval, h]
  | x :: t, r, h => by
    obtain ⟨ih1, ih2⟩ := divL_val hG t ((r * 256 + x.toNat) % G) (Nat.mod_lt _ hG)
    refine ⟨?_, ih2⟩
    have hx := x.toNat_lt
    have hq : (r * 256 + x.toNat) / G < 256 := by
      refine Nat.div_lt_of_lt_mul ?_
      omega
    rw [divL]
    simp only
    rw [hvl_cons, hvl_cons, divL_length, UInt8.toNat_ofNat_of_lt' (by simpa using hq), List.length_cons, Nat.pow_succ, Nat.mul_add, Nat.add_assoc, ih1]
    have hdm := Nat.div_add_mod (r * 256 + x.toNat) G
    generalize (r * 256 + x.toNat) / G = q at *
    generalize (r * 256 + x.toNat) % G = s at *
    have e1 : G * (q * 256 ^ t.length) + (s * 256 ^ t.length + hvl t) = (G * q + s) * 256 ^ t.length + hvl t := by
      rw [Nat.add_mul, Nat.mul_assoc, Nat.add_assoc]
    rw [e1, hdm, Nat.add_mul, Nat.mul_assoc, Nat.mul_comm 256 (256 ^ t.length), Nat.add_assoc]
theorem divL_head {G : Nat} (hG : 256 ≤ G) (x : UInt8) (t : List UInt8) : ∃ q, (divL G 0 (x :: t)).1 = 0 :: q := by
  have hx := x.toNat_lt
  refine ⟨(divL G (x.toNat % G) t).1, ?_⟩
  rw [divL, Nat.zero_mul, Nat.zero_add, Nat.div_eq_of_lt (by omega)]
  rfl
end Go.Vf
