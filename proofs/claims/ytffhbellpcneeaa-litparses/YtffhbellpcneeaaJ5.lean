/- What nat.Small does (a contract; nothing is claimed here). · What nat.Compare and what it calls do (contracts; nothing is claimed here). · The order of magnitudes is the order of their numbers; ints (lemmas of the verifier's own). · The bytes of two numbers stand as the numbers do (lemmas of the verifier's own). · There and back, by bytes and by digits (lemmas of the verifier's own). -/
import Derived.Test.YtffhbellpcneeaaJ3
import Derived.Test.YtffhbellpcneeaaJ2
import Derived.Lib.Bytealg
import Derived.Test.YtffhbellpcneeaaNatPrint
import Derived.Test.YtffhbellpcneeaaNatParse
namespace Go.Proofs.Ytffhbellpcneeaa
open Go.RowKit Go.Vf

def hval (l : List UInt8) : Nat := lval l.reverse
def smallOf (b : Bool) (m : List UInt8) : Option Int :=
  if chk b m ≠ 0 ∨ 8 < m.length then none
  else if b then (if hval m ≤ 9223372036854775808 then some (-(hval m : Int)) else none) else if hval m ≤ 9223372036854775807 then some (hval m : Int) else none
def smallE : Option Int → Ending
  | none => .returned (.tuple #[.int .i64 0, .bool false])
  | some i => .returned (.tuple #[.int .i64 i, .bool true])

theorem hval_snoc (l : List UInt8) (x : UInt8) : hval (l ++ [x]) = 256 * hval l + x.toNat := by
  simp [hval, lval]; omega
theorem hval_lt (l : List UInt8) : hval l < 256 ^ l.length := by
  have := lval_lt l.reverse
  rwa [List.length_reverse] at this

theorem chk_pos {m : List UInt8} (h : chk true m = 0) : 0 < hval m := by
  unfold chk at h
  split at h
  · exact absurd h (by decide)
  · split at h
    · exact absurd h (by decide)
    · rename_i h1
      simp at h1
      refine Nat.pos_of_ne_zero (lval_pos ?_ ?_)
      · rw [List.getLast?_reverse]; exact h1.2
      · simpa using h1.1

theorem small_step (m : ByteArray) (k : Nat) (hk : k < m.size) (h8 : m.size ≤ 8) : hval (m.data.toList.take k) < 72057594037927936 ∧ Hid (hval (m.data.toList.take (k + 1)) = 256 * hval (m.data.toList.take k) + m[k].toNat) := by
  have hl : m.data.toList.length = m.size := (Lib.size_eq m).symm
  constructor
  · have h1 := hval_lt (m.data.toList.take k)
    have h2 : 256 ^ (m.data.toList.take k).length ≤ 256 ^ 7 := Nat.pow_le_pow_right (by decide) (by simp; omega)
    rw [show (256 : Nat) ^ 7 = 72057594037927936 by decide] at h2
    omega
  · show _ = _
    rw [List.take_succ_eq_append_getElem (by omega), hval_snoc]
    rfl

end Go.Proofs.Ytffhbellpcneeaa

namespace Go.Proofs.Ytffhbellpcneeaa
open Go.RowKit Go.Vf

def sgn (a b : Int) : Int := if a < b then -1 else if b < a then 1 else 0

theorem compareBytes_eq : ∀ (a b : List UInt8), Lib.compareBytes a b = cmpL a b
  | [], [] => rfl
  | [], _ :: _ => rfl
  | _ :: _, [] => rfl
  | x :: a, y :: b => by
    have ih := compareBytes_eq a b
    simp only [Lib.compareBytes, cmpL, ih]

/-- The order of two magnitudes. -/
def magC (a b : List UInt8) : Int := if sgn a.length b.length = 0 then cmpL a b else sgn a.length b.length

/-- The order of two numbers that may be. -/
def cmpN (ba : Bool) (a : List UInt8) (bb : Bool) (b : List UInt8) : Int := if ba && bb then magC b a else if ba then -1 else if bb then 1 else magC a b
def compE (ba : Bool) (a : List UInt8) (bb : Bool) (b : List UInt8) : Ending :=
  if chk ba a ≠ 0 then .returned (.tuple #[.int .i64 0, .int .i64 (chk ba a)]) else if chk bb b ≠ 0 then .returned (.tuple #[.int .i64 0, .int .i64 (chk bb b)]) else .returned (.tuple #[.int .i64 (cmpN ba a bb b), .int .i64 0])

end Go.Proofs.Ytffhbellpcneeaa

namespace Go.Proofs.Ytffhbellpcneeaa
open Go.RowKit Go.Vf

theorem hvl_lt (l : List UInt8) : hvl l < 256 ^ l.length := hval_lt l
theorem hvl_ge {l : List UInt8} (h : l.head? ≠ some 0) (h0 : l ≠ []) : 256 ^ (l.length - 1) ≤ hvl l := by
  have := lval_ge (l := l.reverse) (by rw [List.getLast?_reverse]; exact h) (by simpa using h0)
  rwa [List.length_reverse] at this

theorem sgn_eq {a b : Int} : sgn a b = 0 ↔ a = b := by unfold sgn; split <;> (try split) <;> omega
theorem sgn_lt {a b : Int} (h : a < b) : sgn a b = -1 := by unfold sgn; rw [if_pos h]
theorem sgn_gt {a b : Int} (h : b < a) : sgn a b = 1 := by unfold sgn; rw [if_neg (by omega), if_pos h]

theorem cmpL_val : ∀ (a b : List UInt8), a.length = b.length → cmpL a b = sgn (hvl a : Int) (hvl b : Int)
  | [], [], _ => rfl
  | x :: a, y :: b, h => by
    have hl : a.length = b.length := by simpa using h
    have ih := cmpL_val a b hl
    have ha := hvl_lt a
    have hb := hvl_lt b
    rw [hl] at ha
    rw [cmpL, hvl_cons, hvl_cons, hl, ih]
    by_cases h1 : x < y
    · rw [if_pos h1, sgn_lt]
      have : x.toNat + 1 ≤ y.toNat := h1
      have := Nat.mul_le_mul_right (256 ^ b.length) this
      rw [Nat.add_mul] at this
      omega
    · rw [if_neg h1]
      by_cases h2 : y < x
      · rw [if_pos h2, sgn_gt]
        have : y.toNat + 1 ≤ x.toNat := h2
        have := Nat.mul_le_mul_right (256 ^ b.length) this
        rw [Nat.add_mul] at this
        omega
      · rw [if_neg h2]
        have : x.toNat = y.toNat := by
          have h3 : ¬ x.toNat < y.toNat := h1
          have h4 : ¬ y.toNat < x.toNat := h2
          omega
        rw [this]
        unfold sgn
        congr 1
        · simp
        · congr 1
          simp
theorem hvl_short {a b : List UInt8} (h : a.length < b.length) (hb : b.head? ≠ some 0) : hvl a < hvl b := by
  have h1 := hvl_lt a
  have h2 := hvl_ge hb (fun h0 => by rw [h0] at h; simp at h)
  have h3 : 256 ^ a.length ≤ 256 ^ (b.length - 1) := Nat.pow_le_pow_right (by decide) (by omega)
  omega
theorem magC_val {a b : List UInt8} (ha : a.head? ≠ some 0) (hb : b.head? ≠ some 0) : magC a b = sgn (hvl a : Int) (hvl b : Int) := by
  unfold magC
  by_cases h0 : a.length = b.length
  · rw [if_pos (sgn_eq.2 (by omega)), cmpL_val a b h0]
  · rw [if_neg (fun h => h0 (by have := sgn_eq.1 h; omega))]
    rcases Nat.lt_or_gt_of_ne h0 with h | h
    · have := hvl_short h hb
      rw [sgn_lt (by omega), sgn_lt (by omega)]
    · have := hvl_short h ha
      rw [sgn_gt (by omega), sgn_gt (by omega)]

/-- A number's magnitude. -/
def magOf (n : Nat) : List UInt8 := (lowD n).reverse
theorem magOf_head (n : Nat) : (magOf n).head? ≠ some 0 := by rw [magOf, List.head?_reverse]; exact lowD_last n
theorem magOf_val (n : Nat) : hvl (magOf n) = n := by rw [hvl, magOf, List.reverse_reverse, lval_lowD]
theorem magOf_nil {n : Nat} : magOf n = [] ↔ n = 0 := by rw [magOf, List.reverse_eq_nil_iff, lowD_nil]
theorem magOf_hvl {m : List UInt8} (h : m.head? ≠ some 0) : magOf (hvl m) = m := by
  rw [magOf, hvl, lowD_lval (by rw [List.getLast?_reverse]; exact h), List.reverse_reverse]
theorem magOf_length (n : Nat) : (magOf n).length = (lowD n).length := List.length_reverse

theorem chk_ok {b : Bool} {m : List UInt8} (h1 : m.length ≤ 255) (h2 : m.head? ≠ some 0) (h3 : m = [] → b = false) : chk b m = 0 := by
  unfold chk
  rw [if_neg (by omega), if_neg]
  simp
  exact ⟨fun h => h3 h, h2⟩

theorem chk_of {i : Int} (hi : -9223372036854775808 ≤ i) (hi2 : i ≤ 9223372036854775807) : chk (decide (i < 0)) (magOf i.natAbs) = 0 := by
  refine chk_ok ?_ (magOf_head _) ?_
  · rw [magOf_length]
    have : (lowD i.natAbs).length ≤ 8 := lowD_length_le.2 (by rw [show (256 : Nat) ^ 8 = 18446744073709551616 by decide]; omega)
    omega
  · intro h
    have := magOf_nil.1 h
    simp
    omega
theorem small_of {i : Int} (hi : -9223372036854775808 ≤ i) (hi2 : i ≤ 9223372036854775807) : smallOf (decide (i < 0)) (magOf i.natAbs) = some i := by
  have h8 : (lowD i.natAbs).length ≤ 8 := lowD_length_le.2 (by rw [show (256 : Nat) ^ 8 = 18446744073709551616 by decide]; omega)
  have hv : hval (magOf i.natAbs) = i.natAbs := magOf_val _
  unfold smallOf
  rw [chk_of hi hi2, hv, magOf_length, if_neg (by simp; omega)]
  by_cases h : i < 0
  · simp only [h, decide_true, if_true]
    rw [if_pos (by omega)]
    congr 1
    omega
  · simp only [h, decide_false, Bool.false_eq_true, if_false]
    rw [if_pos (by omega)]
    congr 1
    omega
theorem cmpN_of (i k : Int) : cmpN (decide (i < 0)) (magOf i.natAbs) (decide (k < 0)) (magOf k.natAbs) = sgn i k := by
  unfold cmpN
  rw [magC_val (magOf_head _) (magOf_head _), magC_val (magOf_head _) (magOf_head _), magOf_val, magOf_val]
  unfold sgn
  by_cases h1 : i < 0 <;> by_cases h2 : k < 0 <;> simp only [h1, h2, decide_true, decide_false, Bool.and_self, Bool.and_true, Bool.and_false, if_true, Bool.false_eq_true, if_false] <;> (repeat' split) <;> omega
end Go.Proofs.Ytffhbellpcneeaa

namespace Go.Proofs.Ytffhbellpcneeaa
open Go.RowKit Go.Vf

theorem cmpL_lt {x y : UInt8} (h : x.toNat < y.toNat) (a b : List UInt8) : cmpL (x :: a) (y :: b) = -1 := by
  rw [cmpL, if_pos (UInt8.lt_iff_toNat_lt.2 h)]
theorem cmpL_cons (x : UInt8) (a b : List UInt8) : cmpL (x :: a) (x :: b) = cmpL a b := cmpL_append [x] a b
theorem cmpL_long : ∀ {a b : List UInt8} (x y : List UInt8), a.length = b.length → a ≠ b → cmpL (a ++ x) (b ++ y) = cmpL a b
  | [], [], _, _, _, h => absurd rfl h
  | u :: a, v :: b, x, y, hl, h => by
    rw [List.cons_append, List.cons_append, cmpL, cmpL]
    by_cases h1 : u < v
    · rw [if_pos h1, if_pos h1]
    · rw [if_neg h1, if_neg h1]
      by_cases h2 : v < u
      · rw [if_pos h2, if_pos h2]
      · rw [if_neg h2, if_neg h2]
        have huv : u = v := by
          have h3 : ¬ u.toNat < v.toNat := h1
          have h4 : ¬ v.toNat < u.toNat := h2
          exact UInt8.toNat_inj.1 (by omega)
        exact cmpL_long x y (by simpa using hl) (fun h5 => h (by rw [huv, h5]))
theorem ofNat_nat {n : Nat} (h : n < 256) : (UInt8.ofNat n).toNat = n := by rw [UInt8.toNat_ofNat_of_lt' (by simpa using h)]

theorem head_up {n m : Nat} (h : n < m) (hm : m ≤ 255) (x y : List UInt8) : cmpL (headL false n ++ x) (headL false m ++ y) = -1 := by
  unfold headL
  simp only [Bool.false_eq_true, if_false]
  by_cases h1 : 126 < m
  · rw [if_pos h1]
    by_cases h2 : 126 < n
    · rw [if_pos h2]
      show cmpL (255 :: (UInt8.ofNat n :: x)) (255 :: (UInt8.ofNat m :: y)) = -1
      rw [cmpL_cons]
      exact cmpL_lt (by rw [ofNat_nat (by omega), ofNat_nat (by omega)]; exact h) _ _
    · rw [if_neg h2]
      exact cmpL_lt (by rw [ofNat_nat (by omega)]; show 128 + n < 255; omega) _ _
  · rw [if_neg h1, if_neg (by omega)]
    exact cmpL_lt (by rw [ofNat_nat (by omega), ofNat_nat (by omega)]; omega) _ _
theorem head_down {n m : Nat} (h : n < m) (hm : m ≤ 255) (x y : List UInt8) : cmpL (headL true m ++ x) (headL true n ++ y) = -1 := by
  unfold headL
  simp only [if_true]
  by_cases h1 : 126 < m
  · rw [if_pos h1]
    by_cases h2 : 126 < n
    · rw [if_pos h2]
      show cmpL (1 :: (UInt8.ofNat (255 - m) :: x)) (1 :: (UInt8.ofNat (255 - n) :: y)) = -1
      rw [cmpL_cons]
      exact cmpL_lt (by rw [ofNat_nat (by omega), ofNat_nat (by omega)]; omega) _ _
    · rw [if_neg h2]
      exact cmpL_lt (by rw [ofNat_nat (by omega)]; show 1 < 128 - n; omega) _ _
  · rw [if_neg h1, if_neg (by omega)]
    exact cmpL_lt (by rw [ofNat_nat (by omega), ofNat_nat (by omega)]; omega) _ _
theorem head_apart {n m : Nat} (hn : 0 < n) (x y : List UInt8) (hm : m ≤ 255) : cmpL (headL true n ++ x) (headL false m ++ y) = -1 := by
  unfold headL
  simp only [if_true, Bool.false_eq_true, if_false]
  by_cases h1 : 126 < n
  · rw [if_pos h1]
    by_cases h2 : 126 < m
    · rw [if_pos h2]
      exact cmpL_lt (by decide) _ _
    · rw [if_neg h2]
      exact cmpL_lt (by rw [ofNat_nat (by omega)]; show 1 < 128 + m; omega) _ _
  · rw [if_neg h1]
    by_cases h2 : 126 < m
    · rw [if_pos h2]
      exact cmpL_lt (by rw [ofNat_nat (by omega)]; show 128 - n < 255; omega) _ _
    · rw [if_neg h2]
      exact cmpL_lt (by rw [ofNat_nat (by omega), ofNat_nat (by omega)]; omega) _ _

theorem sgn_neg (a b : Int) : sgn b a = - sgn a b := by unfold sgn; repeat' split <;> omega
theorem magC_neg (a b : List UInt8) : magC b a = - magC a b := by
  unfold magC
  have := sgn_neg a.length b.length
  by_cases h : sgn (a.length : Int) (b.length : Int) = 0
  · rw [if_pos h, if_pos (by omega), cmpL_neg]
  · rw [if_neg h, if_neg (by omega), this]
theorem magC_zero {a b : List UInt8} : magC a b = 0 ↔ a = b := by
  unfold magC
  constructor
  · intro h
    split at h
    · exact cmpL_eq.1 h
    · exact absurd h ‹_›
  · rintro rfl
    rw [if_pos (sgn_eq.2 rfl), cmpL_same]
theorem flip_cmp : ∀ (a b : List UInt8), a.length = b.length → cmpL (flipL a) (flipL b) = cmpL b a
  | [], [], _ => rfl
  | x :: a, y :: b, h => by
    have ih := flip_cmp a b (by simpa using h)
    have hx := flip_toNat x
    have hy := flip_toNat y
    have hx' := x.toNat_lt
    have hy' := y.toNat_lt
    show cmpL ((255 - x) :: flipL a) ((255 - y) :: flipL b) = _
    rw [cmpL, cmpL, ih]
    simp only [UInt8.lt_iff_toNat_lt]
    congr 1
    · simp only [eq_iff_iff]; omega
    · congr 1
      simp only [eq_iff_iff]; omega
theorem flip_inj {a b : List UInt8} (h : flipL a = flipL b) : a = b := by
  have hl : a.length = b.length := by have := congrArg List.length h; simpa [flipL_length] using this
  have := flip_cmp a b hl
  rw [h, cmpL_same] at this
  exact (cmpL_eq.1 this.symm).symm

theorem cmpN_neg (p : Bool) (a : List UInt8) (q : Bool) (b : List UInt8) : cmpN q b p a = - cmpN p a q b := by
  unfold cmpN
  have := magC_neg a b
  cases p <;> cases q <;> simp <;> omega
theorem cmpN_zero {p : Bool} {a : List UInt8} {q : Bool} {b : List UInt8} : cmpN p a q b = 0 ↔ p = q ∧ a = b := by
  unfold cmpN
  cases p <;> cases q
  · show magC a b = 0 ↔ _
    simp [magC_zero]
  · simp
  · simp
  · show magC b a = 0 ↔ _
    rw [magC_zero]
    exact ⟨fun h => ⟨rfl, h.symm⟩, fun h => h.2.symm⟩

/-- P2.8 -/
theorem order_put {p : Bool} {a : List UInt8} {q : Bool} {b : List UInt8} (hp : chk p a = 0) (hq : chk q b = 0) (h : ¬ (p = q ∧ a = b)) (x y : List UInt8) :
    cmpL (putL p a ++ x) (putL q b ++ y) = cmpN p a q b := by
  obtain ⟨ha1, ha2, ha3⟩ := chk_zero hp
  obtain ⟨hb1, hb2, hb3⟩ := chk_zero hq
  unfold putL
  rw [List.append_assoc, List.append_assoc]
  cases p <;> cases q
  · have hab : a ≠ b := fun e => h ⟨rfl, e⟩
    show _ = magC a b
    unfold magC
    by_cases hl : a.length = b.length
    · rw [if_pos (sgn_eq.2 (by omega)), hl, cmpL_append]
      exact cmpL_long x y hl hab
    · rw [if_neg (fun e => hl (by have := sgn_eq.1 e; omega))]
      rcases Nat.lt_or_gt_of_ne hl with h1 | h1
      · rw [head_up h1 hb1, sgn_lt (by omega)]
      · rw [cmpL_neg, head_up h1 ha1, sgn_gt (by omega)]; rfl
  · show _ = (1 : Int)
    have : 0 < b.length := List.length_pos_iff.2 (fun e => absurd (hb3 e) (by decide))
    rw [cmpL_neg, head_apart this _ _ ha1]; rfl
  · show _ = (-1 : Int)
    have : 0 < a.length := List.length_pos_iff.2 (fun e => absurd (ha3 e) (by decide))
    rw [head_apart this _ _ hb1]
  · have hab : a ≠ b := fun e => h ⟨rfl, e⟩
    show cmpL (headL true a.length ++ (flipL a ++ x)) (headL true b.length ++ (flipL b ++ y)) = magC b a
    unfold magC
    by_cases hl : a.length = b.length
    · rw [if_pos (sgn_eq.2 (by omega)), hl, cmpL_append, cmpL_long x y (by rw [flipL_length, flipL_length, hl]) (fun e => hab (flip_inj e)), flip_cmp a b hl]
    · rw [if_neg (fun e => hl (by have := sgn_eq.1 e; omega))]
      rcases Nat.lt_or_gt_of_ne hl with h1 | h1
      · rw [cmpL_neg, head_down h1 hb1, sgn_gt (by omega)]; rfl
      · rw [head_down h1 ha1, sgn_lt (by omega)]
theorem put_order {p : Bool} {a : List UInt8} {q : Bool} {b : List UInt8} (hp : chk p a = 0) (hq : chk q b = 0) (h : ¬ (p = q ∧ a = b)) : cmpL (putL p a) (putL q b) = cmpN p a q b := by
  have := order_put hp hq h [] []
  rwa [List.append_nil, List.append_nil] at this
theorem put_inj {p : Bool} {a : List UInt8} {q : Bool} {b : List UInt8} (hp : chk p a = 0) (hq : chk q b = 0) : putL p a = putL q b ↔ p = q ∧ a = b := by
  constructor
  · intro h
    refine Classical.byContradiction fun h1 => ?_
    have := put_order hp hq h1
    rw [h, cmpL_same] at this
    exact h1 (cmpN_zero.1 this.symm)
  · rintro ⟨rfl, rfl⟩; rfl
end Go.Proofs.Ytffhbellpcneeaa

namespace Go.Proofs.Ytffhbellpcneeaa
open Go.RowKit Go.Vf

theorem flip_flip (l : List UInt8) : flipL (flipL l) = l := by
  have h : ∀ x : UInt8, 255 - (255 - x) = x := fun x => by
    refine UInt8.toNat_inj.1 ?_
    have h1 := flip_toNat x
    have h2 := flip_toNat (255 - x)
    omega
  induction l with
  | nil => rfl
  | cons x r ih =>
    show (255 - (255 - x)) :: flipL (flipL r) = x :: r
    rw [h, ih]
theorem turn_turn (b : Bool) (l : List UInt8) : turnB b (turnB b l) = l := by unfold turnB; cases b <;> simp [flip_flip]
theorem turn_length (b : Bool) (l : List UInt8) : (turnB b l).length = l.length := by unfold turnB; cases b <;> simp [flipL_length]
theorem turn_append (b : Bool) (l r : List UInt8) : turnB b (l ++ r) = turnB b l ++ turnB b r := by unfold turnB; cases b <;> simp [flipL]
theorem ofNat_toNat (x : UInt8) : UInt8.ofNat x.toNat = x := by simp

theorem tkMag_turn {m : List UInt8} (hh : m.head? ≠ some 0) (h0 : m ≠ []) (b : Bool) (y : List UInt8) : tkMag (turnB b m ++ y) m.length b = .ok m := by
  obtain ⟨x, r, rfl⟩ : ∃ x r, m = x :: r := by
    cases m with
    | nil => exact absurd rfl h0
    | cons x r => exact ⟨x, r, rfl⟩
  have hx : x.toNat ≠ 0 := fun h => hh (by rw [show x = 0 from UInt8.toNat_inj.1 h]; rfl)
  obtain ⟨u, t, hu, hut⟩ : ∃ u t, turnB b (x :: r) = u :: t ∧ u.toNat ≠ (if b then 255 else 0) := by
    cases b
    · exact ⟨x, r, rfl, by simpa using hx⟩
    · refine ⟨255 - x, flipL r, rfl, ?_⟩
      have := flip_toNat x
      simp only [if_true]
      omega
  have hlen := turn_length b (x :: r)
  have htake : (turnB b (x :: r) ++ y).take (x :: r).length = turnB b (x :: r) := by rw [← hlen]; simp
  have hge : (x :: r).length ≤ (turnB b (x :: r) ++ y).length := by rw [List.length_append, hlen]; omega
  rw [hu, List.cons_append] at htake hge ⊢
  simp only [tkMag, hut, if_false, hge, if_true, htake]
  rw [← hu, turn_turn]

theorem tkHead_head {b : Bool} {k : Nat} (hk : k ≤ 255) (hb : b = true → 0 < k) (r : List UInt8) : tkHead (headL b k ++ r) = .ok (b, k, (headL b k).length) := by
  unfold headL
  by_cases h : 126 < k
  · rw [if_pos h]
    cases b
    · simp only [Bool.false_eq_true, if_false, List.cons_append, List.nil_append, tkHead]
      rw [if_pos (by decide), ofNat_nat (by omega), if_pos h]
      rfl
    · simp only [if_true, List.cons_append, List.nil_append, tkHead]
      rw [if_neg (by decide), if_pos (by decide), ofNat_nat (by omega), if_pos (by omega), show 255 - (255 - k) = k by omega]
      rfl
  · rw [if_neg h]
    cases b
    · simp only [Bool.false_eq_true, if_false, List.cons_append, List.nil_append, tkHead]
      rw [ofNat_nat (by omega), if_neg (by omega), if_neg (by omega), if_pos (by omega), if_neg (by omega), show 128 + k - 128 = k by omega]
      rfl
    · have := hb rfl
      simp only [if_true, List.cons_append, List.nil_append, tkHead]
      rw [ofNat_nat (by omega), if_neg (by omega), if_neg (by omega), if_pos (by omega), if_pos (by omega), show 128 - (128 - k) = k by omega]
      rfl

/-- P2.7: bytes. -/
theorem tk_put {p : Bool} {a : List UInt8} (hp : chk p a = 0) (y : List UInt8) : tk (putL p a ++ y) = ((putL p a).length, some (p, a)) := by
  obtain ⟨h1, h2, h3⟩ := chk_zero hp
  unfold tk putL
  rw [List.append_assoc, tkHead_head h1 (fun hb => List.length_pos_iff.2 (fun e => by rw [h3 e] at hb; cases hb))]
  simp only
  by_cases h0 : a = []
  · rw [h3 h0, h0]
    rfl
  · have : ¬ a.length = 0 := fun e => h0 (List.eq_nil_of_length_eq_zero e)
    rw [if_neg this, List.drop_left, tkMag_turn h2 h0]
    simp only [List.length_append, turn_length]

theorem tkHead_inv {l : List UInt8} {b : Bool} {k h : Nat} (hh : tkHead l = .ok (b, k, h)) : ∃ r, l = headL b k ++ r ∧ h = (headL b k).length ∧ k ≤ 255 ∧ (b = true → 0 < k) := by
  unfold tkHead at hh
  split at hh
  · cases hh
  · rename_i x r
    have hx := x.toNat_lt
    split at hh
    · rename_i hF
      split at hh
      · cases hh
      · rename_i y r'
        have hy := y.toNat_lt
        split at hh
        · rename_i hgt
          simp only [Except.ok.injEq, Prod.mk.injEq] at hh
          obtain ⟨rfl, rfl, rfl⟩ := hh
          refine ⟨r', ?_, ?_, by omega, by simp⟩
          · rw [headL, if_pos hgt, ofNat_toNat, show x = 255 from UInt8.toNat_inj.1 hF]; rfl
          · rw [headL, if_pos hgt]; rfl
        · cases hh
    · split at hh
      · rename_i hF hO
        split at hh
        · cases hh
        · rename_i y r'
          have hy := y.toNat_lt
          split at hh
          · rename_i hlt
            simp only [Except.ok.injEq, Prod.mk.injEq] at hh
            obtain ⟨rfl, rfl, rfl⟩ := hh
            refine ⟨r', ?_, ?_, by omega, by omega⟩
            · rw [headL, if_pos (by omega), show 255 - (255 - y.toNat) = y.toNat by omega, ofNat_toNat, show x = 1 from UInt8.toNat_inj.1 hO]; rfl
            · rw [headL, if_pos (by omega)]; rfl
          · cases hh
      · split at hh
        · split at hh
          · rename_i hF hO h1 hlt
            simp only [Except.ok.injEq, Prod.mk.injEq] at hh
            obtain ⟨rfl, rfl, rfl⟩ := hh
            refine ⟨r, ?_, ?_, by omega, by omega⟩
            · rw [headL, if_neg (by omega), show 128 - (128 - x.toNat) = x.toNat by omega, ofNat_toNat]; rfl
            · rw [headL, if_neg (by omega)]; rfl
          · rename_i hF hO h1 hlt
            simp only [Except.ok.injEq, Prod.mk.injEq] at hh
            obtain ⟨rfl, rfl, rfl⟩ := hh
            refine ⟨r, ?_, ?_, by omega, by simp⟩
            · rw [headL, if_neg (by omega), show 128 + (x.toNat - 128) = x.toNat by omega, ofNat_toNat]; rfl
            · rw [headL, if_neg (by omega)]; rfl
        · cases hh
theorem tkMag_inv {l m : List UInt8} {k : Nat} {b : Bool} (hk : 0 < k) (h : tkMag l k b = .ok m) : ∃ r, l = turnB b m ++ r ∧ m.length = k ∧ m.head? ≠ some 0 := by
  cases l with
  | nil => cases h
  | cons x t =>
    simp only [tkMag] at h
    by_cases hne : x.toNat = (if b then 255 else 0)
    · rw [if_pos hne] at h; cases h
    · rw [if_neg hne] at h
      by_cases hle : k ≤ (x :: t).length
      · rw [if_pos hle] at h
        simp only [Except.ok.injEq] at h
        subst h
        refine ⟨(x :: t).drop k, by rw [turn_turn, List.take_append_drop], by rw [turn_length, List.length_take]; omega, ?_⟩
        obtain ⟨j, rfl⟩ : ∃ j, k = j + 1 := ⟨k - 1, by omega⟩
        rw [List.take_succ_cons]
        cases b
        · intro h1
          have : x = 0 := by simpa [turnB] using h1
          exact hne (by rw [this]; rfl)
        · intro h1
          have h2 : (255 - x) = 0 := by simpa [turnB, flipL] using h1
          have := flip_toNat x
          rw [h2] at this
          exact hne (by simp only [if_true]; have : (0 : UInt8).toNat = 0 := rfl; omega)
      · rw [if_neg hle] at h; cases h
theorem tk_inv {l : List UInt8} {n : Nat} {b : Bool} {m : List UInt8} (h : tk l = (n, some (b, m))) : chk b m = 0 ∧ ∃ r, l = putL b m ++ r ∧ n = (putL b m).length := by
  unfold tk at h
  split at h
  · simp at h
  · rename_i b' k hd hh
    obtain ⟨r, hl, hd', hk, hb⟩ := tkHead_inv hh
    split at h
    · rename_i h0
      subst h0
      simp only [Prod.mk.injEq, Option.some.injEq] at h
      obtain ⟨rfl, rfl, rfl⟩ := h
      have : b' = false := by
        cases b'
        · rfl
        · exact absurd (hb rfl) (by decide)
      subst this
      exact ⟨by decide, r, by rw [hl]; rfl, by rw [hd']; rfl⟩
    · rename_i h0
      split at h
      · simp at h
      · rename_i m' hm
        simp only [Prod.mk.injEq, Option.some.injEq] at h
        obtain ⟨rfl, rfl, rfl⟩ := h
        obtain ⟨r2, hr2, hml, hmh⟩ := tkMag_inv (by omega) hm
        rw [hl, hd', List.drop_left] at hr2
        refine ⟨chk_ok (by omega) hmh (fun e => by rw [e] at hml; exact absurd hml.symm h0), r2, ?_, ?_⟩
        · rw [putL, hml, hl, hr2, List.append_assoc]
        · rw [putL, hml, List.length_append, turn_length, hml, hd']
theorem tkHead_err {l : List UInt8} {n : Nat} (h : tkHead l = .error n) : n ≤ l.length := by
  unfold tkHead at h
  split at h
  · simp only [Except.error.injEq] at h; omega
  · repeat' (first | (simp only [Except.error.injEq] at h; simp only [List.length_cons]; omega) | cases h | split at h)
theorem tk_le (l : List UInt8) : (tk l).1 ≤ l.length := by
  obtain ⟨⟨n, o⟩, h⟩ : ∃ z, tk l = z := ⟨_, rfl⟩
  rw [h]
  show n ≤ l.length
  cases o with
  | some z =>
    obtain ⟨b, m⟩ := z
    obtain ⟨_, r, hl, hn⟩ := tk_inv h
    rw [hl, hn, List.length_append]; omega
  | none =>
    unfold tk at h
    split at h
    · rename_i k hh
      have := tkHead_err hh
      simp only [Prod.mk.injEq] at h
      omega
    · rename_i b k hd hh
      obtain ⟨hh1, _, _⟩ := tkHead_ok hh
      split at h
      · simp at h
      · split at h
        · rename_i k' hm
          simp only [Prod.mk.injEq] at h
          have : k' ≤ (l.drop hd).length := by
            unfold tkMag at hm
            split at hm
            · simp only [Except.error.injEq] at hm; omega
            · rename_i x t hx
              by_cases hne : x.toNat = (if b then 255 else 0)
              · rw [if_pos hne] at hm
                simp only [Except.error.injEq] at hm; omega
              · rw [if_neg hne] at hm
                by_cases hle : k ≤ (x :: t).length
                · rw [if_pos hle] at hm; cases hm
                · rw [if_neg hle] at hm
                  simp only [Except.error.injEq] at hm; rw [hx]; omega
          rw [List.length_drop] at this
          omega
        · simp at h

/-- P2.7: digits. -/
theorem digit_not_minus {x : UInt8} (h : isDig x = true) : x ≠ 45 := by
  rintro rfl
  exact absurd h (by decide)
theorem parse_digits {D : List UInt8} (b : Bool) (hD : D.head? ≠ some 45) : parseB (if b then 45 :: D else D) = b ∧ parseD (if b then 45 :: D else D) = D := by
  cases b
  · have : parseB D = false := by
      cases D with
      | nil => rfl
      | cons x r =>
        have : x ≠ 45 := fun h => hD (by rw [h]; rfl)
        have e : ((45 : UInt8) == x) = false := by simpa using Ne.symm this
        simp only [parseB, List.isPrefixOf, e, Bool.false_and]
    simp only [Bool.false_eq_true, if_false]
    exact ⟨this, by rw [parseD, this]; rfl⟩
  · have : parseB (45 :: D) = true := by simp [parseB]
    simp only [if_true]
    exact ⟨this, by rw [parseD, this]; rfl⟩
theorem head_rev_digs {n : Nat} (b : Bool) (h : n ≠ 0) : digOK (decD n).reverse b = true ∧ (decD n).reverse.head? ≠ some 45 := by
  have h1 := decD_digs n
  have h2 := decD_last n
  have h3 : decD n ≠ [] := fun e => h (decD_nil.1 e)
  constructor
  · unfold digOK
    rw [List.head?_reverse]
    have e1 : ((decD n).getLast? == some 48) = false := by simpa using h2
    rw [e1]
    simp only [Bool.false_and, Bool.not_false, Bool.and_true, Bool.and_eq_true, List.all_eq_true]
    refine ⟨by simpa using h3, fun x hx => h1 x (by simpa using hx)⟩
  · rw [List.head?_reverse]
    intro h4
    have := List.mem_of_getLast? h4
    exact digit_not_minus (h1 _ this) rfl
theorem parse_print {p : Bool} {a : List UInt8} (hp : chk p a = 0) : parseR (printL p a) = .ok (p, a) := by
  obtain ⟨h1, h2, h3⟩ := chk_zero hp
  by_cases h0 : a = []
  · rw [h3 h0, h0]
    have e1 : digOK (parseD [48]) (parseB [48]) = true := by decide
    have e2 : dval (parseD [48]) = 0 := by decide
    have e3 : parseB [48] = false := by decide
    show parseR [48] = _
    rw [parseR, e1, e2, lowD_zero, e3]
    rfl
  · have hM := hvl_pos h2 h0
    obtain ⟨hok, h45⟩ := head_rev_digs p hM
    have hpr : printL p a = if p then 45 :: (decD (hvl a)).reverse else (decD (hvl a)).reverse := by
      rw [printL, if_neg (by simpa using h0)]
    obtain ⟨hB, hD⟩ := parse_digits p h45
    have hdv : dval (decD (hvl a)).reverse = hvl a := by rw [dval, List.reverse_reverse, tval_decD]
    have hmag := magOf_hvl h2
    unfold magOf at hmag
    rw [hpr, parseR, hB, hD, if_pos hok, hdv, if_pos (by rw [← List.length_reverse, hmag]; exact h1), hmag]
theorem print_parse {l : List UInt8} {b : Bool} {m : List UInt8} (h : parseR l = .ok (b, m)) : chk b m = 0 ∧ printL b m = l := by
  unfold parseR at h
  by_cases hok : digOK (parseD l) (parseB l) = true
  · rw [if_pos hok] at h
    by_cases hlen : (lowD (dval (parseD l))).length ≤ 255
    · rw [if_pos hlen] at h
      simp only [Except.ok.injEq, Prod.mk.injEq] at h
      obtain ⟨hb, hm⟩ := h
      have hl : l = if parseB l then 45 :: parseD l else parseD l := by
        by_cases h1 : parseB l = true
        · rw [if_pos h1, parseD, if_pos h1]
          unfold parseB at h1
          cases l with
          | nil => cases h1
          | cons x r =>
            simp only [List.isPrefixOf, Bool.and_true] at h1
            rw [← beq_iff_eq.1 h1]; rfl
        · rw [if_neg h1, parseD, if_neg h1]
      rw [hb] at hl hok
      generalize parseD l = D at hl hok hm hlen
      have hm' : m = magOf (dval D) := hm.symm
      unfold digOK at hok
      simp only [Bool.and_eq_true, Bool.not_eq_true', List.all_eq_true] at hok
      obtain ⟨⟨hne, hhd⟩, hdig⟩ := hok
      have hne' : D ≠ [] := by simpa using hne
      have hlast : D.head? ≠ some 48 → dval D ≠ 0 ∧ decD (dval D) = D.reverse := by
        intro h48
        have h1 : D.reverse.getLast? ≠ some 48 := by rw [List.getLast?_reverse]; exact h48
        exact ⟨tval_pos (fun x hx => hdig x (by simpa using hx)) h1 (by simpa using hne'), decD_tval (fun x hx => hdig x (by simpa using hx)) h1⟩
      have hval : hvl m = dval D := by rw [hm', magOf_val]
      by_cases h48 : D.head? = some 48
      · rw [h48] at hhd
        simp at hhd
        obtain ⟨hbf, hD1⟩ := hhd
        obtain rfl : D = [48] := by
          cases D with
          | nil => exact absurd rfl hne'
          | cons x r =>
            have : r = [] := List.eq_nil_of_length_eq_zero (by simp only [List.length_cons] at hD1; omega)
            rw [this] at h48 ⊢
            have : x = 48 := by simpa using h48
            rw [this]
        have hm0 : m = [] := by rw [hm', magOf_nil]; decide
        subst hbf
        rw [hm0]
        exact ⟨by decide, by rw [hl]; rfl⟩
      · obtain ⟨hpos, hdec⟩ := hlast h48
        have hm0 : m ≠ [] := fun e => hpos (magOf_nil.1 (by rw [← hm', e]))
        refine ⟨chk_ok (by rw [hm', magOf_length]; exact hlen) (by rw [hm']; exact magOf_head _) (fun e => absurd e hm0), ?_⟩
        rw [printL, if_neg (by simpa using hm0), hval, hdec, List.reverse_reverse, hl]
    · rw [if_neg hlen] at h; cases h
  · rw [if_neg hok] at h; cases h
theorem parse_err {l : List UInt8} {e : Int} (h : parseR l = .error e) : e = 20 ∨ e = 21 := by
  unfold parseR at h
  split at h
  · split at h
    · cases h
    · simp only [Except.error.injEq] at h; exact .inr h.symm
  · simp only [Except.error.injEq] at h; exact .inl h.symm
end Go.Proofs.Ytffhbellpcneeaa
