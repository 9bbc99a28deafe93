/- The bytes of two numbers stand as the numbers do (lemmas of the verifier's own). -/
import Derived.Test.YtdmdnhlmfailaaaMathO
namespace Go.Proofs.Ytdmdnhlmfailaaa
open Go.RowKit Go.Vf

theorem cmpL_lt {x y : UInt8} (h : x.toNat < y.toNat) (a b : List UInt8) : cmpL (x :: a) (y :: b) = -1 := by
  rw [cmpL, if_pos (UInt8.lt_iff_toNat_lt.2 h)]
theorem cmpL_cons (x : UInt8) (a b : List UInt8) : cmpL (x :: a) (x :: b) = cmpL a b := cmpL_append [x] a b
theorem cmpL_long : ∀ {a b : List UInt8} (x y : List UInt8), a.length = b.length → a ≠ b → cmpL (a ++ x) (b ++ y) = cmpL a b
  | [], [], _, _, _, h => absurd rfl h
  | u :: a, v :: b, x, y, hl, h => by
    rw [List.cons_append, List.cons_append, cmpL, cmpL]
    by_cases h1 : u < v
    · rw [if_pos h1, if_pos h1]
    · rw [if_neg h1, if_neg h1]
      by_cases h2 : v < u
      · rw [if_pos h2, if_pos h2]
      · rw [if_neg h2, if_neg h2]
        have huv : u = v := by
          have h3 : ¬ u.toNat < v.toNat := h1
          have h4 : ¬ v.toNat < u.toNat := h2
          exact UInt8.toNat_inj.1 (by omega)
        exact cmpL_long x y (by simpa using hl) (fun h5 => h (by rw [huv, h5]))
theorem ofNat_nat {n : Nat} (h : n < 256) : (UInt8.ofNat n).toNat = n := by rw [UInt8.toNat_ofNat_of_lt' (by simpa using h)]

theorem head_up {n m : Nat} (h : n < m) (hm : m ≤ 255) (x y : List UInt8) : cmpL (headL false n ++ x) (headL false m ++ y) = -1 := by
  unfold headL
  simp only [Bool.false_eq_true, if_false]
  by_cases h1 : 126 < m
  · rw [if_pos h1]
    by_cases h2 : 126 < n
    · rw [if_pos h2]
      show cmpL (255 :: (UInt8.ofNat n :: x)) (255 :: (UInt8.ofNat m :: y)) = -1
      rw [cmpL_cons]
      exact cmpL_lt (by rw [ofNat_nat (by omega), ofNat_nat (by omega)]; exact h) _ _
    · rw [if_neg h2]
      exact cmpL_lt (by rw [ofNat_nat (by omega)]; show 128 + n < 255; omega) _ _
  · rw [if_neg h1, if_neg (by omega)]
    exact cmpL_lt (by rw [ofNat_nat (by omega), ofNat_nat (by omega)]; omega) _ _
theorem head_down {n m : Nat} (h : n < m) (hm : m ≤ 255) (x y : List UInt8) : cmpL (headL true m ++ x) (headL true n ++ y) = -1 := by
  unfold headL
  simp only [if_true]
  by_cases h1 : 126 < m
  · rw [if_pos h1]
    by_cases h2 : 126 < n
    · rw [if_pos h2]
      show cmpL (1 :: (UInt8.ofNat (255 - m) :: x)) (1 :: (UInt8.ofNat (255 - n) :: y)) = -1
      rw [cmpL_cons]
      exact cmpL_lt (by rw [ofNat_nat (by omega), ofNat_nat (by omega)]; omega) _ _
    · rw [if_neg h2]
      exact cmpL_lt (by rw [ofNat_nat (by omega)]; show 1 < 128 - n; omega) _ _
  · rw [if_neg h1, if_neg (by omega)]
    exact cmpL_lt (by rw [ofNat_nat (by omega), ofNat_nat (by omega)]; omega) _ _
theorem head_apart {n m : Nat} (hn : 0 < n) (x y : List UInt8) (hm : m ≤ 255) : cmpL (headL true n ++ x) (headL false m ++ y) = -1 := by
  unfold headL
  simp only [if_true, Bool.false_eq_true, if_false]
  by_cases h1 : 126 < n
  · rw [if_pos h1]
    by_cases h2 : 126 < m
    · rw [if_pos h2]
      exact cmpL_lt (by decide) _ _
    · rw [if_neg h2]
      exact cmpL_lt (by rw [ofNat_nat (by omega)]; show 1 < 128 + m; omega) _ _
  · rw [if_neg h1]
    by_cases h2 : 126 < m
    · rw [if_pos h2]
      exact cmpL_lt (by rw [ofNat_nat (by omega)]; show 128 - n < 255; omega) _ _
    · rw [if_neg h2]
      exact cmpL_lt (by rw [ofNat_nat (by omega), ofNat_nat (by omega)]; omega) _ _

theorem sgn_neg (a b : Int) : sgn b a = - sgn a b := by unfold sgn; repeat' split <;> omega
theorem magC_neg (a b : List UInt8) : magC b a = - magC a b := by
  unfold magC
  have := sgn_neg a.length b.length
  by_cases h : sgn (a.length : Int) (b.length : Int) = 0
  · rw [if_pos h, if_pos (by omega), cmpL_neg]
  · rw [if_neg h, if_neg (by omega), this]
theorem magC_zero {a b : List UInt8} : magC a b = 0 ↔ a = b := by
  unfold magC
  constructor
  · intro h
    split at h
    · exact cmpL_eq.1 h
    · exact absurd h ‹_›
  · rintro rfl
    rw [if_pos (sgn_eq.2 rfl), cmpL_same]
theorem flip_cmp : ∀ (a b : List UInt8), a.length = b.length → cmpL (flipL a) (flipL b) = cmpL b a
  | [], [], _ => rfl
  | x :: a, y :: b, h => by
    have ih := flip_cmp a b (by simpa using h)
    have hx := flip_toNat x
    have hy := flip_toNat y
    have hx' := x.toNat_lt
    have hy' := y.toNat_lt
    show cmpL ((255 - x) :: flipL a) ((255 - y) :: flipL b) = _
    rw [cmpL, cmpL, ih]
    simp only [UInt8.lt_iff_toNat_lt]
    congr 1
    · simp only [eq_iff_iff]; omega
    · congr 1
      simp only [eq_iff_iff]; omega
theorem flip_inj {a b : List UInt8} (h : flipL a = flipL b) : a = b := by
  have hl : a.length = b.length := by have := congrArg List.length h; simpa [flipL_length] using this
  have := flip_cmp a b hl
  rw [h, cmpL_same] at this
  exact (cmpL_eq.1 this.symm).symm

theorem cmpN_neg (p : Bool) (a : List UInt8) (q : Bool) (b : List UInt8) : cmpN q b p a = - cmpN p a q b := by
  unfold cmpN
  have := magC_neg a b
  cases p <;> cases q <;> simp <;> omega
theorem cmpN_zero {p : Bool} {a : List UInt8} {q : Bool} {b : List UInt8} : cmpN p a q b = 0 ↔ p = q ∧ a = b := by
  unfold cmpN
  cases p <;> cases q
  · show magC a b = 0 ↔ _
    simp [magC_zero]
  · simp
  · simp
  · show magC b a = 0 ↔ _
    rw [magC_zero]
    exact ⟨fun h => ⟨rfl, h.symm⟩, fun h => h.2.symm⟩

/-- P2.8 -/
theorem order_put {p : Bool} {a : List UInt8} {q : Bool} {b : List UInt8} (hp : chk p a = 0) (hq : chk q b = 0) (h : ¬ (p = q ∧ a = b)) (x y : List UInt8) :
    cmpL (putL p a ++ x) (putL q b ++ y) = cmpN p a q b := by
  obtain ⟨ha1, ha2, ha3⟩ := chk_zero hp
  obtain ⟨hb1, hb2, hb3⟩ := chk_zero hq
  unfold putL
  rw [List.append_assoc, List.append_assoc]
  cases p <;> cases q
  · have hab : a ≠ b := fun e => h ⟨rfl, e⟩
    show _ = magC a b
    unfold magC
    by_cases hl : a.length = b.length
    · rw [if_pos (sgn_eq.2 (by omega)), hl, cmpL_append]
      exact cmpL_long x y hl hab
    · rw [if_neg (fun e => hl (by have := sgn_eq.1 e; omega))]
      rcases Nat.lt_or_gt_of_ne hl with h1 | h1
      · rw [head_up h1 hb1, sgn_lt (by omega)]
      · rw [cmpL_neg, head_up h1 ha1, sgn_gt (by omega)]; rfl
  · show _ = (1 : Int)
    have : 0 < b.length := List.length_pos_iff.2 (fun e => absurd (hb3 e) (by decide))
    rw [cmpL_neg, head_apart this _ _ ha1]; rfl
  · show _ = (-1 : Int)
    have : 0 < a.length := List.length_pos_iff.2 (fun e => absurd (ha3 e) (by decide))
    rw [head_apart this _ _ hb1]
  · have hab : a ≠ b := fun e => h ⟨rfl, e⟩
    show cmpL (headL true a.length ++ (flipL a ++ x)) (headL true b.length ++ (flipL b ++ y)) = magC b a
    unfold magC
    by_cases hl : a.length = b.length
    · rw [if_pos (sgn_eq.2 (by omega)), hl, cmpL_append, cmpL_long x y (by rw [flipL_length, flipL_length, hl]) (fun e => hab (flip_inj e)), flip_cmp a b hl]
    · rw [if_neg (fun e => hl (by have := sgn_eq.1 e; omega))]
      rcases Nat.lt_or_gt_of_ne hl with h1 | h1
      · rw [cmpL_neg, head_down h1 hb1, sgn_gt (by omega)]; rfl
      · rw [head_down h1 ha1, sgn_lt (by omega)]
theorem put_order {p : Bool} {a : List UInt8} {q : Bool} {b : List UInt8} (hp : chk p a = 0) (hq : chk q b = 0) (h : ¬ (p = q ∧ a = b)) : cmpL (putL p a) (putL q b) = cmpN p a q b := by
  have := order_put hp hq h [] []
  rwa [List.append_nil, List.append_nil] at this
theorem put_inj {p : Bool} {a : List UInt8} {q : Bool} {b : List UInt8} (hp : chk p a = 0) (hq : chk q b = 0) : putL p a = putL q b ↔ p = q ∧ a = b := by
  constructor
  · intro h
    refine Classical.byContradiction fun h1 => ?_
    have := put_order hp hq h1
    rw [h, cmpL_same] at this
    exact h1 (cmpN_zero.1 this.symm)
  · rintro ⟨rfl, rfl⟩; rfl
end Go.Proofs.Ytdmdnhlmfailaaa
