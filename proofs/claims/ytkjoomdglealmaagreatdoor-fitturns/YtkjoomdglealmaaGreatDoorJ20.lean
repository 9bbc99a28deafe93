/- Contracts and lemmas (nothing is claimed here). -/
import Derived.Test.YtkjoomdglealmaaGreatDoorJ6
namespace Go.Vf

/-- ASCII digits, the lowest first: their number. -/
def tval : List UInt8 → Nat
  | [] => 0
  | x :: r => (x.toNat - 48) + 10 * tval r
def dval (l : List UInt8) : Nat := tval l.reverse
def isDig (x : UInt8) : Bool := decide (48 ≤ x.toNat) && decide (x.toNat ≤ 57)

theorem tval_append (a b : List UInt8) : tval (a ++ b) = tval a + 10 ^ a.length * tval b := by
  induction a with
  | nil => simp [tval]
  | cons x r ih =>
    rw [List.cons_append, tval, tval, ih, List.length_cons, Nat.pow_succ, Nat.mul_add, ← Nat.mul_assoc, Nat.add_assoc, Nat.mul_comm 10 (10 ^ r.length)]
theorem dval_snoc (l : List UInt8) (x : UInt8) : dval (l ++ [x]) = 10 * dval l + (x.toNat - 48) := by
  simp [dval, tval]; omega
theorem dval_append (a b : List UInt8) : dval (a ++ b) = dval a * 10 ^ b.length + dval b := by
  simp only [dval, List.reverse_append, tval_append, List.length_reverse]
  rw [Nat.add_comm, Nat.mul_comm]
theorem tval_lt {l : List UInt8} (h : ∀ x ∈ l, isDig x = true) : tval l < 10 ^ l.length := by
  induction l with
  | nil => simp [tval]
  | cons x r ih =>
    have h1 := h x (by simp)
    have h2 := ih (fun y hy => h y (by simp [hy]))
    simp [isDig] at h1
    rw [tval, List.length_cons, Nat.pow_succ]
    omega
theorem dval_lt {l : List UInt8} (h : ∀ x ∈ l, isDig x = true) : dval l < 10 ^ l.length := by
  have := tval_lt (l := l.reverse) (fun x hx => h x (by simpa using hx))
  rwa [List.length_reverse] at this

/-- A number's decimal digits, the lowest first, no nought behind. -/
def decD (n : Nat) : List UInt8 := if n = 0 then [] else UInt8.ofNat (48 + n % 10) :: decD (n / 10)
termination_by n
decreasing_by omega
theorem ofNat_dig (n : Nat) : (UInt8.ofNat (48 + n % 10)).toNat = 48 + n % 10 := by
  rw [UInt8.toNat_ofNat_of_lt' (by have := Nat.mod_lt n (show 0 < 10 by decide); show 48 + n % 10 < 256; omega)]
theorem decD_zero : decD 0 = [] := by rw [decD, if_pos rfl]
theorem decD_pos {n : Nat} (h : n ≠ 0) : decD n = UInt8.ofNat (48 + n % 10) :: decD (n / 10) := by rw [decD, if_neg h]
theorem tval_decD (n : Nat) : tval (decD n) = n := by
  induction n using Nat.strongRecOn with
  | ind n ih =>
    by_cases h : n = 0
    · subst h; rw [decD_zero]; rfl
    · rw [decD_pos h, tval, ih _ (by omega), ofNat_dig]
      omega
theorem decD_nil {n : Nat} : decD n = [] ↔ n = 0 := by
  constructor
  · intro h
    have := tval_decD n
    rw [h] at this
    exact this.symm
  · rintro rfl; exact decD_zero
theorem decD_digs (n : Nat) : ∀ x ∈ decD n, isDig x = true := by
  induction n using Nat.strongRecOn with
  | ind n ih =>
    by_cases h : n = 0
    · subst h; rw [decD_zero]; simp
    · rw [decD_pos h]
      intro x hx
      rcases List.mem_cons.1 hx with rfl | hx
      · have := ofNat_dig n
        simp only [isDig, this, Bool.and_eq_true, decide_eq_true_eq]
        omega
      · exact ih _ (by omega) x hx
theorem tval_pos {l : List UInt8} (hd : ∀ x ∈ l, isDig x = true) (h : l.getLast? ≠ some 48) (h0 : l ≠ []) : tval l ≠ 0 := by
  induction l with
  | nil => exact absurd rfl h0
  | cons x r ih =>
    rw [tval]
    by_cases hr : r = []
    · subst hr
      have h1 := hd x (by simp)
      simp [isDig] at h1
      simp only [List.getLast?_singleton, ne_eq, Option.some.injEq] at h
      intro h2
      exact h (UInt8.toNat_inj.1 (by show x.toNat = 48; omega))
    · have h2 : r.getLast? ≠ some 48 := by
        intro h3
        apply h
        rw [List.getLast?_cons, h3]
        rfl
      have := ih (fun y hy => hd y (by simp [hy])) h2 hr
      omega
theorem decD_tval {l : List UInt8} (hd : ∀ x ∈ l, isDig x = true) (h : l.getLast? ≠ some 48) : decD (tval l) = l := by
  induction l with
  | nil => exact decD_zero
  | cons x r ih =>
    rw [decD_pos (tval_pos hd h (by simp)), tval]
    have h1 := hd x (by simp)
    simp [isDig] at h1
    have e1 : (x.toNat - 48 + 10 * tval r) % 10 = x.toNat - 48 := by omega
    have e2 : (x.toNat - 48 + 10 * tval r) / 10 = tval r := by omega
    rw [e1, e2, show 48 + (x.toNat - 48) = x.toNat by omega]
    have h2 : r.getLast? ≠ some 48 := by
      intro h3
      apply h
      rw [List.getLast?_cons, h3]
      rfl
    rw [ih (fun y hy => hd y (by simp [hy])) h2]
    simp
theorem decD_last (n : Nat) : (decD n).getLast? ≠ some 48 := by
  induction n using Nat.strongRecOn with
  | ind n ih =>
    by_cases h : n = 0
    · subst h; rw [decD_zero]; simp
    · rw [decD_pos h]
      by_cases h2 : n / 10 = 0
      · rw [h2, decD_zero]
        simp only [List.getLast?_singleton, ne_eq, Option.some.injEq]
        intro h3
        have := ofNat_dig n
        rw [h3] at this
        have : (48 : UInt8).toNat = 48 := rfl
        omega
      · have h3 := ih (n / 10) (by omega)
        rw [List.getLast?_cons]
        cases h4 : (decD (n / 10)).getLast? with
        | none => exact absurd (decD_nil.1 (List.getLast?_eq_none_iff.1 h4)) h2
        | some y => rw [h4] at h3; exact h3

/-- Digits to the base 256, the lowest first, times a scale, and a carry: the digits, and the carry behind them. -/
def mulL (sc : Nat) : Nat → List UInt8 → List UInt8 × Nat
  | c, [] => ([], c)
  | c, x :: r => (UInt8.ofNat ((c + x.toNat * sc) % 256) :: (mulL sc ((c + x.toNat * sc) / 256) r).1, (mulL sc ((c + x.toNat * sc) / 256) r).2)
theorem mulL_length (sc : Nat) : ∀ (l : List UInt8) (c : Nat), (mulL sc c l).1.length = l.length
  | [], _ => rfl
  | _ :: r, _ => by simp [mulL, mulL_length sc r]
theorem mulL_val (sc : Nat) : ∀ (l : List UInt8) (c : Nat), lval (mulL sc c l).1 + 256 ^ l.length * (mulL sc c l).2 = lval l * sc + c
  | [], c => by simp [mulL, lval]
  | x :: r, c => by
    have ih := mulL_val sc r ((c + x.toNat * sc) / 256)
    rw [mulL, lval, lval, ofNat_mod, List.length_cons, Nat.pow_succ]
    simp only
    have e : 256 ^ r.length * 256 * (mulL sc ((c + x.toNat * sc) / 256) r).2 = 256 * (256 ^ r.length * (mulL sc ((c + x.toNat * sc) / 256) r).2) := by
      rw [Nat.mul_comm (256 ^ r.length) 256, Nat.mul_assoc]
    rw [e, Nat.add_mul, Nat.mul_assoc]
    omega
theorem mulL_carry {sc : Nat} (l : List UInt8) : ∀ (c : Nat), c ≤ sc → (mulL sc c l).2 ≤ sc := by
  induction l with
  | nil => intro c h; exact h
  | cons x r ih =>
    intro c h
    refine ih _ ?_
    have hx := x.toNat_lt
    have : x.toNat * sc ≤ 255 * sc := Nat.mul_le_mul_right _ (by omega)
    omega
theorem last_of_ge {l : List UInt8} (h : 256 ^ (l.length - 1) ≤ lval l) (h0 : l ≠ []) : l.getLast? ≠ some 0 := by
  intro hl
  obtain ⟨r, rfl⟩ : ∃ r, l = r ++ [0] := by
    rw [List.getLast?_eq_some_iff] at hl
    exact hl
  rw [lval_append] at h
  have := lval_lt r
  simp [lval] at h
  omega
theorem mul_low {l : List UInt8} (hl : l.getLast? ≠ some 0) {sc c : Nat} (hs : 1 ≤ sc) : (mulL sc c l).1 ++ lowD (mulL sc c l).2 = lowD (lval l * sc + c) := by
  have hv := mulL_val sc l c
  have hval : lval ((mulL sc c l).1 ++ lowD (mulL sc c l).2) = lval l * sc + c := by rw [lval_append, mulL_length, lval_lowD, hv]
  rw [← hval, lowD_lval]
  by_cases h2 : (mulL sc c l).2 = 0
  · rw [h2, lowD_zero, List.append_nil]
    by_cases h0 : l = []
    · subst h0; simp [mulL]
    · have h3 := lval_ge hl h0
      have h4 : lval l ≤ lval l * sc := Nat.le_mul_of_pos_right _ (by omega)
      rw [h2, Nat.mul_zero, Nat.add_zero] at hv
      refine last_of_ge ?_ ?_
      · rw [mulL_length]; omega
      · intro h5
        have := mulL_length sc l c
        rw [h5] at this
        exact h0 (List.eq_nil_of_length_eq_zero this.symm)
  · rw [List.getLast?_append]
    cases h5 : (lowD (mulL sc c l).2).getLast? with
    | none => exact absurd (lowD_nil.1 (List.getLast?_eq_none_iff.1 h5)) h2
    | some y => have := lowD_last (mulL sc c l).2; rw [h5] at this; simpa using this

/-- Digits to the base 256, the highest first, over a group, what was left ahead of them: the quotient's digits, and what is left. -/
def divL (G : Nat) : Nat → List UInt8 → List UInt8 × Nat
  | r, [] => ([], r)
  | r, x :: t => (UInt8.ofNat ((r * 256 + x.toNat) / G) :: (divL G ((r * 256 + x.toNat) % G) t).1, (divL G ((r * 256 + x.toNat) % G) t).2)
theorem divL_length (G : Nat) : ∀ (l : List UInt8) (r : Nat), (divL G r l).1.length = l.length
  | [], _ => rfl
  | _ :: t, _ => by simp [divL, divL_length G t]
def hvl (l : List UInt8) : Nat := lval l.reverse
theorem hvl_cons (x : UInt8) (t : List UInt8) : hvl (x :: t) = x.toNat * 256 ^ t.length + hvl t := by
  simp [hvl, lval_append, lval]
  rw [Nat.add_comm, Nat.mul_comm]
theorem divL_val {G : Nat} (hG : 0 < G) : ∀ (l : List UInt8) (r : Nat), r < G → G * hvl (divL G r l).1 + (divL G r l).2 = r * 256 ^ l.length + hvl l ∧ (divL G r l).2 < G
  | [], r, h => by simp [divL, hvl, lval, h]
  | x :: t, r, h => by
    obtain ⟨ih1, ih2⟩ := divL_val hG t ((r * 256 + x.toNat) % G) (Nat.mod_lt _ hG)
    refine ⟨?_, ih2⟩
    have hx := x.toNat_lt
    have hq : (r * 256 + x.toNat) / G < 256 := by
      refine Nat.div_lt_of_lt_mul ?_
      omega
    rw [divL]
    simp only
    rw [hvl_cons, hvl_cons, divL_length, UInt8.toNat_ofNat_of_lt' (by simpa using hq), List.length_cons, Nat.pow_succ, Nat.mul_add, Nat.add_assoc, ih1]
    have hdm := Nat.div_add_mod (r * 256 + x.toNat) G
    generalize (r * 256 + x.toNat) / G = q at *
    generalize (r * 256 + x.toNat) % G = s at *
    have e1 : G * (q * 256 ^ t.length) + (s * 256 ^ t.length + hvl t) = (G * q + s) * 256 ^ t.length + hvl t := by
      rw [Nat.add_mul, Nat.mul_assoc, Nat.add_assoc]
    rw [e1, hdm, Nat.add_mul, Nat.mul_assoc, Nat.mul_comm 256 (256 ^ t.length), Nat.add_assoc]
theorem divL_head {G : Nat} (hG : 256 ≤ G) (x : UInt8) (t : List UInt8) : ∃ q, (divL G 0 (x :: t)).1 = 0 :: q := by
  have hx := x.toNat_lt
  refine ⟨(divL G (x.toNat % G) t).1, ?_⟩
  rw [divL, Nat.zero_mul, Nat.zero_add, Nat.div_eq_of_lt (by omega)]
  rfl
end Go.Vf

namespace Go.Proofs.YtkjoomdglealmaaGreatDoor
open Go.RowKit Go.Vf

/-- r is l, turned round from both ends, k bytes each. -/
def RevIn (l r : List UInt8) (k : Nat) : Prop :=
  ∃ h : r.length = l.length, ∀ i (hi : i < l.length), r[i]'(by omega) = if i < k ∨ l.length ≤ i + k then l[l.length - 1 - i]'(by omega) else l[i]

theorem RevIn.zero (l : List UInt8) : RevIn l l 0 := ⟨rfl, fun i hi => by simp; omega⟩
theorem RevIn.step {l r : List UInt8} {k : Nat} (h : RevIn l r k) (hk : k + k + 1 < l.length) :
    RevIn l ((r.set k (l[l.length - 1 - k]'(by omega))).set (l.length - 1 - k) (l[k]'(by omega))) (k + 1) := by
  obtain ⟨hlen, hr⟩ := h
  refine ⟨by simpa using hlen, fun i hi => ?_⟩
  rw [List.getElem_set, List.getElem_set]
  by_cases h1 : l.length - 1 - k = i
  · subst h1
    simp only [if_true]
    rw [if_pos (by omega)]
    congr 1
    omega
  · rw [if_neg h1]
    by_cases h2 : k = i
    · subst h2
      simp
    · rw [if_neg h2, hr i hi]
      by_cases h3 : i < k ∨ l.length ≤ i + k
      · rw [if_pos h3, if_pos (by omega)]
      · rw [if_neg h3, if_neg (by omega)]
theorem RevIn.get_lo {l r : List UInt8} {k : Nat} (h : RevIn l r k) (hk : k + k + 1 < l.length) (h' : k < r.length) : r[k] = l[k]'(by omega) := by
  rw [h.2 k (by omega), if_neg (by omega)]
theorem RevIn.get_hi {l r : List UInt8} {k : Nat} (h : RevIn l r k) (hk : k + k + 1 < l.length) (h' : l.length - 1 - k < r.length) : r[l.length - 1 - k] = l[l.length - 1 - k]'(by omega) := by
  rw [h.2 _ (by omega), if_neg (by omega)]
theorem RevIn.swap {l r : List UInt8} {k j : Nat} (h : RevIn l r k) (hj : j + k + 1 = l.length) (hkj : k < j) :
    ∃ x y, (∃ h : k < r.length, r[k] = x) ∧ (∃ h : j < r.length, r[j] = y) ∧ RevIn l ((r.set k y).set j x) (k + 1) := by
  obtain rfl : j = l.length - 1 - k := by omega
  have hl := h.1
  exact ⟨_, _, ⟨by omega, h.get_lo (by omega) (by omega)⟩, ⟨by omega, h.get_hi (by omega) (by omega)⟩, h.step (by omega)⟩
theorem RevIn.done {l r : List UInt8} {k : Nat} (h : RevIn l r k) (hk : l.length ≤ k + k + 1) : r = l.reverse := by
  obtain ⟨hlen, hr⟩ := h
  refine List.ext_getElem (by simpa using hlen) fun i h1 h2 => ?_
  rw [hr i (by omega), List.getElem_reverse]
  by_cases h3 : i < k ∨ l.length ≤ i + k
  · rw [if_pos h3]
  · rw [if_neg h3]
    congr 1
    omega

set_option maxHeartbeats 1000000 in
theorem reverse_any (g n cap : Nat) (l : List UInt8) (hl : l.length = n) (hn : n ≤ 1099511627776) (w : World) (hr : BRow w g l) :
    Calls Tryz.prog 291 #[.slice (some ⟨g, 0, none⟩) n cap] w fun e w' => e = .returned (.tuple #[]) ∧ BRow w' g l.reverse ∧ Below g w w' := by
  subst hl
  go_enter Tryz.func291, Tryz.ntmps291
  go_wp2
  go_loopw [2, 3] (fun i j wr => ∃ (k : Nat) (r : List UInt8), k ≤ l.length ∧ i = .int .i64 k ∧ j = .int .i64 ((l.length : Int) - 1 - (k : Int)) ∧ RevIn l r k ∧ BRow wr g r ∧ Below g w wr) (fun i _ _ => l.length - (intOf i).toNat)
  case atStart => exact ⟨0, l, Nat.zero_le _, rfl, by go_num, RevIn.zero l, hr, Below.refl _ _⟩
  case round =>
    obtain ⟨k, r, hk, rfl, rfl, hrev, hrow, hbel⟩ := hrel
    have hrl : r.length = l.length := hrev.1
    by_cases hlt : k + k + 1 < l.length
    · obtain ⟨j, hj⟩ : ∃ j, j + k + 1 = l.length := ⟨l.length - 1 - k, by omega⟩
      have ej : ((l.length : Int) - 1 - (k : Int)) = (j : Int) := by omega
      obtain ⟨x, y, ⟨hk1, hx⟩, ⟨hj1, hy⟩, hst⟩ := hrev.swap hj (by omega)
      have c1 := hrow.cell k hk1
      have c2 := hrow.cell j hj1
      rw [hx] at c1
      rw [hy] at c2
      have f1 := hrow.free k hk1
      have f2 := hrow.free j hj1
      have hrow2 := (hrow.set k y).set j x
      have hbel2 := (hbel.setCell (p := ⟨g, k, none⟩) (Nat.le_refl _) (.int .u8 (y.toNat : Int))).setCell (p := ⟨g, j, none⟩) (Nat.le_refl _) (.int .u8 (x.toNat : Int))
      rw [ej]
      have hkj : k < j := by omega
      have hjl : j < l.length := by omega
      clear hrow ej hx hy hrev
      go_wp2
      go_region
      go_wp2
      go_roundw
      case rel => exact ⟨k + 1, _, by omega, by go_num, by go_num, hst, hrow2.drew, hbel2.drew⟩
      case measure => simp [intOf]; omega
    · go_wp2
      go_end0
      have := hrev.done (by omega)
      subst this
      exact ⟨rfl, hrow, hbel⟩

theorem reverse_nil (w : World) : Calls Tryz.prog 291 #[.slice none 0 0] w fun e w' => e = .returned (.tuple #[]) ∧ w = w' := by
  go_enter Tryz.func291, Tryz.ntmps291
  go_wp2
  go_loopw [2, 3] (fun i j wr => i = .int .i64 0 ∧ j = .int .i64 (-1) ∧ w = wr) (fun i _ _ => 0)
  case atStart => exact ⟨rfl, by go_num, rfl⟩
  case round =>
    obtain ⟨rfl, rfl, rfl⟩ := hrel
    go_wp2
    go_end0
    exact ⟨rfl, rfl⟩

set_option maxHeartbeats 400000 in
theorem turnedRound_row (g n cap : Nat) (l : List UInt8) (hl : l.length = n) (hn : n ≤ 1099511627776) (w : World) (hr : BRow w g l) :
    Calls Tryz.prog 279 #[.slice (some ⟨g, 0, none⟩) n cap] w fun e w' => e = .returned (.string (bs l.reverse)) ∧ Below g w w' := by
  subst hl
  go_enter Tryz.func279, Tryz.ntmps279
  go_wp2_with fail
  refine (reverse_any g l.length cap l rfl hn _ hr).mono ?_
  rintro e w1 ⟨rfl, hrow, hb⟩
  have hcv := run_string_row (P := Tryz.prog) w1 232 9 5 Tryz.underlying232 Tryz.underlying5 Tryz.underlying9 g l.length cap _ (by simp) hrow
  rw [List.take_of_length_le (by simp)] at hcv
  go_wp2
  go_ret
  exact ⟨rfl, hb⟩

theorem turnedRound_nil (w : World) : Calls Tryz.prog 279 #[.slice none 0 0] w fun e w' => e = .returned (.string (bs [])) ∧ w = w' := by
  have hcv := run_convert_bytes_nil (P := Tryz.prog) w 232 5 Tryz.underlying232 Tryz.underlying5 0 0 9 Tryz.underlying9
  go_enter Tryz.func279, Tryz.ntmps279
  go_wp2_with fail
  refine (reverse_nil _).mono ?_
  rintro e w1 ⟨rfl, rfl⟩
  go_wp2
  go_ret
  exact ⟨rfl, rfl⟩

theorem turnedRound_own (base : Nat) (v : Value) (acc : List UInt8) (ha : acc.length ≤ 1099511627776) (w : World) (h : BOwn 5 w base v acc) :
    Calls Tryz.prog 279 #[v] w fun e w' => e = .returned (.string (bs acc.reverse)) ∧ Below base w w' := by
  rcases h.form with ⟨rfl, rfl⟩ | ⟨g, cap, rfl, hb, _, _, hr⟩
  · refine (turnedRound_nil w).mono ?_
    rintro e w' ⟨rfl, rfl⟩
    exact ⟨rfl, Below.refl _ _⟩
  · refine (turnedRound_row g _ cap acc rfl ha w hr).mono ?_
    rintro e w' ⟨rfl, hb'⟩
    exact ⟨rfl, hb'.mono hb⟩
end Go.Proofs.YtkjoomdglealmaaGreatDoor

namespace Go.Proofs.YtkjoomdglealmaaGreatDoor
open Go.RowKit Go.Vf

theorem u64_wrap (x : Int) : IntKind.u64.wrap x = x % 18446744073709551616 := by simp [IntKind.wrap, IntKind.signed, IntKind.bits]

def ofE (i : Int) : Ending := .returned (numV (decide (i < 0)) (bs (lowD i.natAbs).reverse))

end Go.Proofs.YtkjoomdglealmaaGreatDoor

namespace Go.Proofs.YtkjoomdglealmaaGreatDoor
open Go.RowKit Go.Vf

/-- Nothing has turned but the block g. -/
structure OnlyAt (g : Nat) (w w' : World) : Prop where
  os : w'.os = w.os
  tape : w'.tape = w.tape
  output : w'.output = w.output
  size : w'.heap.size = w.heap.size
  block : ∀ k, k ≠ g → w'.heap[k]? = w.heap[k]?
theorem OnlyAt.refl (g : Nat) (w : World) : OnlyAt g w w := ⟨rfl, rfl, rfl, rfl, fun _ _ => rfl⟩
theorem OnlyAt.setCell {g : Nat} {a w : World} (h : OnlyAt g a w) (o : Nat) (v : Value) : OnlyAt g a (w.setCell ⟨g, o, none⟩ v) :=
  ⟨h.os, h.tape, h.output, by simp [h.size], fun k hk => (Below.heap_setCell w ⟨g, o, none⟩ v k hk).trans (h.block k hk)⟩
theorem OnlyAt.below {g : Nat} {w w' : World} (h : OnlyAt g w w') : Below g w w' := ⟨h.os, h.tape, h.output, Nat.le_of_eq h.size.symm, fun k hk => h.block k (by omega)⟩
theorem OnlyAt.own {g : Nat} {w w' : World} (h : OnlyAt g w w') {e : TypeId} {base : Nat} {v : Value} {acc : List UInt8} (ho : BOwn e w base v acc) (hb : g < base) : BOwn e w' base v acc := by
  obtain ⟨h1, h2⟩ := ho
  refine ⟨h1, ?_⟩
  rcases h2 with h2 | ⟨k, cap, cur, h3, h4, h5, h6⟩
  · exact .inl h2
  · exact .inr ⟨k, cap, cur, h3, h4, by rw [h.block k (by omega)]; exact h5, h6⟩

set_option maxHeartbeats 1000000 in
theorem split_any (g off n cap : Nat) (pre l : List UInt8) (hp : pre.length = off) (hl : l.length = n) (hn : n ≤ 1000000) (_ho : off ≤ 1000000) (w : World) (hr : BRow w g (pre ++ l)) :
    Calls Tryz.prog 278 #[.slice (some ⟨g, off, none⟩) n cap] w fun e w' => e = .returned (.int .u64 ((divL 1000000000 0 l).2 : Int)) ∧ BRow w' g (pre ++ (divL 1000000000 0 l).1) ∧ OnlyAt g w w' := by
  obtain ⟨⟨q, C⟩, hqC⟩ : ∃ z, divL 1000000000 0 l = z := ⟨_, rfl⟩
  have hqn := divL_length 1000000000 l 0
  rw [hqC] at hqn ⊢
  simp only at hqn ⊢
  go_enter Tryz.func278, Tryz.ntmps278
  go_wp2
  go_loopw [3, 8] (fun x i wr => ∃ k c : Nat, k ≤ n ∧ i = .int .i64 k ∧ x = .int .u64 c ∧ c < 1000000000 ∧ Hid (divL 1000000000 c (l.drop k) = (q.drop k, C)) ∧ BRow wr g (pre ++ (q.take k ++ l.drop k)) ∧ OnlyAt g w wr) (fun _ i _ => n - (intOf i).toNat)
  case atStart => exact ⟨0, 0, Nat.zero_le _, rfl, rfl, by omega, by simpa [Hid] using hqC, by simpa using hr, OnlyAt.refl _ _⟩
  case round =>
    obtain ⟨k, c, hk, rfl, rfl, hc, HQ, hrow, honly⟩ := hrel
    by_cases hlt : k < n
    · obtain ⟨x, hx, hkl⟩ : ∃ x, l[k]'(by omega) = x ∧ l.drop k = x :: l.drop (k + 1) := ⟨_, rfl, List.drop_eq_getElem_cons (by omega)⟩
      have hx255 := x.toNat_lt
      have hq := HQ.out
      rw [hkl, divL, Prod.mk.injEq, List.drop_eq_getElem_cons (show k < q.length by omega), List.cons.injEq] at hq
      obtain ⟨⟨hq1, hq2⟩, hq3⟩ := hq
      have HQ2 : Hid (divL 1000000000 ((c * 256 + x.toNat) % 1000000000) (l.drop (k + 1)) = (q.drop (k + 1), C)) := Prod.ext hq2 hq3
      have hmix := mix_length (a := q) (l := l) hqn k (by omega)
      have hg := mix_get hqn k (by omega) (by omega)
      rw [hx] at hg
      have hcell := hrow.cell (off + k) (by rw [List.length_append]; omega)
      rw [List.getElem_append_right (by omega)] at hcell
      simp only [hp, Nat.add_sub_cancel_left] at hcell
      rw [hg] at hcell
      have hfr := hrow.free (off + k) (by rw [List.length_append]; omega)
      have hst := hrow.set (off + k) (q[k]'(by omega))
      rw [List.set_append_right _ _ (by omega), hp, Nat.add_sub_cancel_left, mix_set hqn k (by omega), ← hq1, UInt8.toNat_ofNat_of_lt' (show (c * 256 + x.toNat) / 1000000000 < 256 by omega)] at hst
      have hon := honly.setCell (off + k) (.int .u8 (((c * 256 + x.toNat) / 1000000000 : Nat) : Int))
      clear hrow hmix hg hq1 hq2 hq3 hkl HQ hqC
      go_wp2
      go_roundw
      case rel => exact ⟨k + 1, (c * 256 + x.toNat) % 1000000000, by omega, by go_num, by go_num, by omega, HQ2, hst, hon⟩
      case measure => simp [intOf]; omega
    · obtain rfl : k = n := by omega
      have hq := HQ.out
      rw [List.drop_of_length_le (by omega), divL] at hq
      obtain rfl : c = C := (Prod.mk.injEq .. ▸ hq).2
      rw [List.take_of_length_le (by omega), List.drop_of_length_le (by omega), List.append_nil] at hrow
      clear HQ hq hqC
      go_wp2
      go_ret
      exact ⟨rfl, hrow, honly⟩
end Go.Proofs.YtkjoomdglealmaaGreatDoor
