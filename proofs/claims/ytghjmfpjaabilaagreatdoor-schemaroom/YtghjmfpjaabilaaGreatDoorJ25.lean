/- Contracts and lemmas (nothing is claimed here). -/
import Derived.Test.YtghjmfpjaabilaaGreatDoorJ6
import Derived.Test.YtghjmfpjaabilaaGreatDoorJ9
import Derived.Test.YtghjmfpjaabilaaGreatDoorJ7
import Derived.Test.YtghjmfpjaabilaaGreatDoorJ1
import Derived.WalkKit
import Derived.LaidEql
import Derived.Stop.Asserts
import Derived.RowKitTokens
namespace Go.Proofs.YtghjmfpjaabilaaGreatDoor
open Go.RowKit Go.Vf

def hval (l : List UInt8) : Nat := lval l.reverse
def smallOf (b : Bool) (m : List UInt8) : Option Int :=
  if chk b m ≠ 0 ∨ 8 < m.length then none
  else if b then (if hval m ≤ 9223372036854775808 then some (-(hval m : Int)) else none) else if hval m ≤ 9223372036854775807 then some (hval m : Int) else none
def smallE : Option Int → Ending
  | none => .returned (.tuple #[.int .i64 0, .bool false])
  | some i => .returned (.tuple #[.int .i64 i, .bool true])

theorem hval_snoc (l : List UInt8) (x : UInt8) : hval (l ++ [x]) = 256 * hval l + x.toNat := by
  simp [hval, lval]; omega
theorem hval_lt (l : List UInt8) : hval l < 256 ^ l.length := by
  have := lval_lt l.reverse
  rwa [List.length_reverse] at this

theorem chk_pos {m : List UInt8} (h : chk true m = 0) : 0 < hval m := by
  unfold chk at h
  split at h
  · exact absurd h (by decide)
  · split at h
    · exact absurd h (by decide)
    · rename_i h1
      simp at h1
      refine Nat.pos_of_ne_zero (lval_pos ?_ ?_)
      · rw [List.getLast?_reverse]; exact h1.2
      · simpa using h1.1

theorem small_step (m : ByteArray) (k : Nat) (hk : k < m.size) (h8 : m.size ≤ 8) : hval (m.data.toList.take k) < 72057594037927936 ∧ Hid (hval (m.data.toList.take (k + 1)) = 256 * hval (m.data.toList.take k) + m[k].toNat) := by
  have hl : m.data.toList.length = m.size := (Lib.size_eq m).symm
  constructor
  · have h1 := hval_lt (m.data.toList.take k)
    have h2 : 256 ^ (m.data.toList.take k).length ≤ 256 ^ 7 := Nat.pow_le_pow_right (by decide) (by simp; omega)
    rw [show (256 : Nat) ^ 7 = 72057594037927936 by decide] at h2
    omega
  · show _ = _
    rw [List.take_succ_eq_append_getElem (by omega), hval_snoc]
    rfl

end Go.Proofs.YtghjmfpjaabilaaGreatDoor

namespace Go.Proofs.YtghjmfpjaabilaaGreatDoor
open Go.RowKit Go.Vf

theorem hvl_lt (l : List UInt8) : hvl l < 256 ^ l.length := hval_lt l
theorem hvl_ge {l : List UInt8} (h : l.head? ≠ some 0) (h0 : l ≠ []) : 256 ^ (l.length - 1) ≤ hvl l := by
  have := lval_ge (l := l.reverse) (by rw [List.getLast?_reverse]; exact h) (by simpa using h0)
  rwa [List.length_reverse] at this

theorem sgn_eq {a b : Int} : sgn a b = 0 ↔ a = b := by unfold sgn; split <;> (try split) <;> omega
theorem sgn_lt {a b : Int} (h : a < b) : sgn a b = -1 := by unfold sgn; rw [if_pos h]
theorem sgn_gt {a b : Int} (h : b < a) : sgn a b = 1 := by unfold sgn; rw [if_neg (by omega), if_pos h]

theorem cmpL_val : ∀ (a b : List UInt8), a.length = b.length → cmpL a b = sgn (hvl a : Int) (hvl b : Int)
  | [], [], _ => rfl
  | x :: a, y :: b, h => by
    have hl : a.length = b.length := by simpa using h
    have ih := cmpL_val a b hl
    have ha := hvl_lt a
    have hb := hvl_lt b
    rw [hl] at ha
    rw [cmpL, hvl_cons, hvl_cons, hl, ih]
    by_cases h1 : x < y
    · rw [if_pos h1, sgn_lt]
      have : x.toNat + 1 ≤ y.toNat := h1
      have := Nat.mul_le_mul_right (256 ^ b.length) this
      rw [Nat.add_mul] at this
      omega
    · rw [if_neg h1]
      by_cases h2 : y < x
      · rw [if_pos h2, sgn_gt]
        have : y.toNat + 1 ≤ x.toNat := h2
        have := Nat.mul_le_mul_right (256 ^ b.length) this
        rw [Nat.add_mul] at this
        omega
      · rw [if_neg h2]
        have : x.toNat = y.toNat := by
          have h3 : ¬ x.toNat < y.toNat := h1
          have h4 : ¬ y.toNat < x.toNat := h2
          omega
        rw [this]
        unfold sgn
        congr 1
        · simp
        · congr 1
          simp
theorem hvl_short {a b : List UInt8} (h : a.length < b.length) (hb : b.head? ≠ some 0) : hvl a < hvl b := by
  have h1 := hvl_lt a
  have h2 := hvl_ge hb (fun h0 => by rw [h0] at h; simp at h)
  have h3 : 256 ^ a.length ≤ 256 ^ (b.length - 1) := Nat.pow_le_pow_right (by decide) (by omega)
  omega
theorem magC_val {a b : List UInt8} (ha : a.head? ≠ some 0) (hb : b.head? ≠ some 0) : magC a b = sgn (hvl a : Int) (hvl b : Int) := by
  unfold magC
  by_cases h0 : a.length = b.length
  · rw [if_pos (sgn_eq.2 (by omega)), cmpL_val a b h0]
  · rw [if_neg (fun h => h0 (by have := sgn_eq.1 h; omega))]
    rcases Nat.lt_or_gt_of_ne h0 with h | h
    · have := hvl_short h hb
      rw [sgn_lt (by omega), sgn_lt (by omega)]
    · have := hvl_short h ha
      rw [sgn_gt (by omega), sgn_gt (by omega)]

/-- A number's magnitude. -/
def magOf (n : Nat) : List UInt8 := (lowD n).reverse
theorem magOf_head (n : Nat) : (magOf n).head? ≠ some 0 := by rw [magOf, List.head?_reverse]; exact lowD_last n
theorem magOf_val (n : Nat) : hvl (magOf n) = n := by rw [hvl, magOf, List.reverse_reverse, lval_lowD]
theorem magOf_nil {n : Nat} : magOf n = [] ↔ n = 0 := by rw [magOf, List.reverse_eq_nil_iff, lowD_nil]
theorem magOf_hvl {m : List UInt8} (h : m.head? ≠ some 0) : magOf (hvl m) = m := by
  rw [magOf, hvl, lowD_lval (by rw [List.getLast?_reverse]; exact h), List.reverse_reverse]
theorem magOf_length (n : Nat) : (magOf n).length = (lowD n).length := List.length_reverse

theorem chk_ok {b : Bool} {m : List UInt8} (h1 : m.length ≤ 255) (h2 : m.head? ≠ some 0) (h3 : m = [] → b = false) : chk b m = 0 := by
  unfold chk
  rw [if_neg (by omega), if_neg]
  simp
  exact ⟨fun h => h3 h, h2⟩

theorem chk_of {i : Int} (hi : -9223372036854775808 ≤ i) (hi2 : i ≤ 9223372036854775807) : chk (decide (i < 0)) (magOf i.natAbs) = 0 := by
  refine chk_ok ?_ (magOf_head _) ?_
  · rw [magOf_length]
    have : (lowD i.natAbs).length ≤ 8 := lowD_length_le.2 (by rw [show (256 : Nat) ^ 8 = 18446744073709551616 by decide]; omega)
    omega
  · intro h
    have := magOf_nil.1 h
    simp
    omega
theorem small_of {i : Int} (hi : -9223372036854775808 ≤ i) (hi2 : i ≤ 9223372036854775807) : smallOf (decide (i < 0)) (magOf i.natAbs) = some i := by
  have h8 : (lowD i.natAbs).length ≤ 8 := lowD_length_le.2 (by rw [show (256 : Nat) ^ 8 = 18446744073709551616 by decide]; omega)
  have hv : hval (magOf i.natAbs) = i.natAbs := magOf_val _
  unfold smallOf
  rw [chk_of hi hi2, hv, magOf_length, if_neg (by simp; omega)]
  by_cases h : i < 0
  · simp only [h, decide_true, if_true]
    rw [if_pos (by omega)]
    congr 1
    omega
  · simp only [h, decide_false, Bool.false_eq_true, if_false]
    rw [if_pos (by omega)]
    congr 1
    omega
theorem cmpN_of (i k : Int) : cmpN (decide (i < 0)) (magOf i.natAbs) (decide (k < 0)) (magOf k.natAbs) = sgn i k := by
  unfold cmpN
  rw [magC_val (magOf_head _) (magOf_head _), magC_val (magOf_head _) (magOf_head _), magOf_val, magOf_val]
  unfold sgn
  by_cases h1 : i < 0 <;> by_cases h2 : k < 0 <;> simp only [h1, h2, decide_true, decide_false, Bool.and_self, Bool.and_true, Bool.and_false, if_true, Bool.false_eq_true, if_false] <;> (repeat' split) <;> omega
end Go.Proofs.YtghjmfpjaabilaaGreatDoor

namespace Go.Proofs.YtghjmfpjaabilaaGreatDoor
open Go.RowKit Go.Vf

theorem cmpL_lt {x y : UInt8} (h : x.toNat < y.toNat) (a b : List UInt8) : cmpL (x :: a) (y :: b) = -1 := by
  rw [cmpL, if_pos (UInt8.lt_iff_toNat_lt.2 h)]
theorem cmpL_cons (x : UInt8) (a b : List UInt8) : cmpL (x :: a) (x :: b) = cmpL a b := cmpL_append [x] a b
theorem cmpL_long : ∀ {a b : List UInt8} (x y : List UInt8), a.length = b.length → a ≠ b → cmpL (a ++ x) (b ++ y) = cmpL a b
  | [], [], _, _, _, h => absurd rfl h
  | u :: a, v :: b, x, y, hl, h => by
    rw [List.cons_append, List.cons_append, cmpL, cmpL]
    by_cases h1 : u < v
    · rw [if_pos h1, if_pos h1]
    · rw [if_neg h1, if_neg h1]
      by_cases h2 : v < u
      · rw [if_pos h2, if_pos h2]
      · rw [if_neg h2, if_neg h2]
        have huv : u = v := by
          have h3 : ¬ u.toNat < v.toNat := h1
          have h4 : ¬ v.toNat < u.toNat := h2
          exact UInt8.toNat_inj.1 (by omega)
        exact cmpL_long x y (by simpa using hl) (fun h5 => h (by rw [huv, h5]))
theorem ofNat_nat {n : Nat} (h : n < 256) : (UInt8.ofNat n).toNat = n := by rw [UInt8.toNat_ofNat_of_lt' (by simpa using h)]

theorem head_up {n m : Nat} (h : n < m) (hm : m ≤ 255) (x y : List UInt8) : cmpL (headL false n ++ x) (headL false m ++ y) = -1 := by
  unfold headL
  simp only [Bool.false_eq_true, if_false]
  by_cases h1 : 126 < m
  · rw [if_pos h1]
    by_cases h2 : 126 < n
    · rw [if_pos h2]
      show cmpL (255 :: (UInt8.ofNat n :: x)) (255 :: (UInt8.ofNat m :: y)) = -1
      rw [cmpL_cons]
      exact cmpL_lt (by rw [ofNat_nat (by omega), ofNat_nat (by omega)]; exact h) _ _
    · rw [if_neg h2]
      exact cmpL_lt (by rw [ofNat_nat (by omega)]; show 128 + n < 255; omega) _ _
  · rw [if_neg h1, if_neg (by omega)]
    exact cmpL_lt (by rw [ofNat_nat (by omega), ofNat_nat (by omega)]; omega) _ _
theorem head_down {n m : Nat} (h : n < m) (hm : m ≤ 255) (x y : List UInt8) : cmpL (headL true m ++ x) (headL true n ++ y) = -1 := by
  unfold headL
  simp only [if_true]
  by_cases h1 : 126 < m
  · rw [if_pos h1]
    by_cases h2 : 126 < n
    · rw [if_pos h2]
      show cmpL (1 :: (UInt8.ofNat (255 - m) :: x)) (1 :: (UInt8.ofNat (255 - n) :: y)) = -1
      rw [cmpL_cons]
      exact cmpL_lt (by rw [ofNat_nat (by omega), ofNat_nat (by omega)]; omega) _ _
    · rw [if_neg h2]
      exact cmpL_lt (by rw [ofNat_nat (by omega)]; show 1 < 128 - n; omega) _ _
  · rw [if_neg h1, if_neg (by omega)]
    exact cmpL_lt (by rw [ofNat_nat (by omega), ofNat_nat (by omega)]; omega) _ _
theorem head_apart {n m : Nat} (hn : 0 < n) (x y : List UInt8) (hm : m ≤ 255) : cmpL (headL true n ++ x) (headL false m ++ y) = -1 := by
  unfold headL
  simp only [if_true, Bool.false_eq_true, if_false]
  by_cases h1 : 126 < n
  · rw [if_pos h1]
    by_cases h2 : 126 < m
    · rw [if_pos h2]
      exact cmpL_lt (by decide) _ _
    · rw [if_neg h2]
      exact cmpL_lt (by rw [ofNat_nat (by omega)]; show 1 < 128 + m; omega) _ _
  · rw [if_neg h1]
    by_cases h2 : 126 < m
    · rw [if_pos h2]
      exact cmpL_lt (by rw [ofNat_nat (by omega)]; show 128 - n < 255; omega) _ _
    · rw [if_neg h2]
      exact cmpL_lt (by rw [ofNat_nat (by omega), ofNat_nat (by omega)]; omega) _ _

theorem sgn_neg (a b : Int) : sgn b a = - sgn a b := by unfold sgn; repeat' split <;> omega
theorem magC_neg (a b : List UInt8) : magC b a = - magC a b := by
  unfold magC
  have := sgn_neg a.length b.length
  by_cases h : sgn (a.length : Int) (b.length : Int) = 0
  · rw [if_pos h, if_pos (by omega), cmpL_neg]
  · rw [if_neg h, if_neg (by omega), this]
theorem magC_zero {a b : List UInt8} : magC a b = 0 ↔ a = b := by
  unfold magC
  constructor
  · intro h
    split at h
    · exact cmpL_eq.1 h
    · exact absurd h ‹_›
  · rintro rfl
    rw [if_pos (sgn_eq.2 rfl), cmpL_same]
theorem flip_cmp : ∀ (a b : List UInt8), a.length = b.length → cmpL (flipL a) (flipL b) = cmpL b a
  | [], [], _ => rfl
  | x :: a, y :: b, h => by
    have ih := flip_cmp a b (by simpa using h)
    have hx := flip_toNat x
    have hy := flip_toNat y
    have hx' := x.toNat_lt
    have hy' := y.toNat_lt
    show cmpL ((255 - x) :: flipL a) ((255 - y) :: flipL b) = _
    rw [cmpL, cmpL, ih]
    simp only [UInt8.lt_iff_toNat_lt]
    congr 1
    · simp only [eq_iff_iff]; omega
    · congr 1
      simp only [eq_iff_iff]; omega
theorem flip_inj {a b : List UInt8} (h : flipL a = flipL b) : a = b := by
  have hl : a.length = b.length := by have := congrArg List.length h; simpa [flipL_length] using this
  have := flip_cmp a b hl
  rw [h, cmpL_same] at this
  exact (cmpL_eq.1 this.symm).symm

theorem cmpN_neg (p : Bool) (a : List UInt8) (q : Bool) (b : List UInt8) : cmpN q b p a = - cmpN p a q b := by
  unfold cmpN
  have := magC_neg a b
  cases p <;> cases q <;> simp <;> omega
theorem cmpN_zero {p : Bool} {a : List UInt8} {q : Bool} {b : List UInt8} : cmpN p a q b = 0 ↔ p = q ∧ a = b := by
  unfold cmpN
  cases p <;> cases q
  · show magC a b = 0 ↔ _
    simp [magC_zero]
  · simp
  · simp
  · show magC b a = 0 ↔ _
    rw [magC_zero]
    exact ⟨fun h => ⟨rfl, h.symm⟩, fun h => h.2.symm⟩

/-- P2.8 -/
theorem order_put {p : Bool} {a : List UInt8} {q : Bool} {b : List UInt8} (hp : chk p a = 0) (hq : chk q b = 0) (h : ¬ (p = q ∧ a = b)) (x y : List UInt8) :
    cmpL (putL p a ++ x) (putL q b ++ y) = cmpN p a q b := by
  obtain ⟨ha1, ha2, ha3⟩ := chk_zero hp
  obtain ⟨hb1, hb2, hb3⟩ := chk_zero hq
  unfold putL
  rw [List.append_assoc, List.append_assoc]
  cases p <;> cases q
  · have hab : a ≠ b := fun e => h ⟨rfl, e⟩
    show _ = magC a b
    unfold magC
    by_cases hl : a.length = b.length
    · rw [if_pos (sgn_eq.2 (by omega)), hl, cmpL_append]
      exact cmpL_long x y hl hab
    · rw [if_neg (fun e => hl (by have := sgn_eq.1 e; omega))]
      rcases Nat.lt_or_gt_of_ne hl with h1 | h1
      · rw [head_up h1 hb1, sgn_lt (by omega)]
      · rw [cmpL_neg, head_up h1 ha1, sgn_gt (by omega)]; rfl
  · show _ = (1 : Int)
    have : 0 < b.length := List.length_pos_iff.2 (fun e => absurd (hb3 e) (by decide))
    rw [cmpL_neg, head_apart this _ _ ha1]; rfl
  · show _ = (-1 : Int)
    have : 0 < a.length := List.length_pos_iff.2 (fun e => absurd (ha3 e) (by decide))
    rw [head_apart this _ _ hb1]
  · have hab : a ≠ b := fun e => h ⟨rfl, e⟩
    show cmpL (headL true a.length ++ (flipL a ++ x)) (headL true b.length ++ (flipL b ++ y)) = magC b a
    unfold magC
    by_cases hl : a.length = b.length
    · rw [if_pos (sgn_eq.2 (by omega)), hl, cmpL_append, cmpL_long x y (by rw [flipL_length, flipL_length, hl]) (fun e => hab (flip_inj e)), flip_cmp a b hl]
    · rw [if_neg (fun e => hl (by have := sgn_eq.1 e; omega))]
      rcases Nat.lt_or_gt_of_ne hl with h1 | h1
      · rw [cmpL_neg, head_down h1 hb1, sgn_gt (by omega)]; rfl
      · rw [head_down h1 ha1, sgn_lt (by omega)]
theorem put_order {p : Bool} {a : List UInt8} {q : Bool} {b : List UInt8} (hp : chk p a = 0) (hq : chk q b = 0) (h : ¬ (p = q ∧ a = b)) : cmpL (putL p a) (putL q b) = cmpN p a q b := by
  have := order_put hp hq h [] []
  rwa [List.append_nil, List.append_nil] at this
theorem put_inj {p : Bool} {a : List UInt8} {q : Bool} {b : List UInt8} (hp : chk p a = 0) (hq : chk q b = 0) : putL p a = putL q b ↔ p = q ∧ a = b := by
  constructor
  · intro h
    refine Classical.byContradiction fun h1 => ?_
    have := put_order hp hq h1
    rw [h, cmpL_same] at this
    exact h1 (cmpN_zero.1 this.symm)
  · rintro ⟨rfl, rfl⟩; rfl
end Go.Proofs.YtghjmfpjaabilaaGreatDoor

namespace Go.Proofs.YtghjmfpjaabilaaGreatDoor
open Go.RowKit Go.Extern.Stop Go.Stop Go.Extern Go.Vf

/-- The handle of a type, a Value of it, a Value that may be set. -/
abbrev hnd (t : Nat) : Value := .pointer (some ⟨5, t, none⟩)
abbrev valOf (t : Nat) (a : Addr) (f : Int) : Value := .agg #[hnd t, .pointer (some a), .int .u64 f]

theorem rl_valueOf70 (t : Addr) (w : World) : (ReflectliteValue.unpack (.iface 72 (.pointer (some t)))).run Tryz.prog w = .ok (valOf 72 ⟨w.heap.size, 0, none⟩ 150) (w.alloc (.cells #[.pointer (some t)] 72)) := by kernel_rfl
theorem rl_valueOf45 (e : Addr) (w : World) : (ReflectliteValue.unpack (.iface 53 (.pointer (some e)))).run Tryz.prog w = .ok (valOf 53 ⟨w.heap.size, 0, none⟩ 150) (w.alloc (.cells #[.pointer (some e)] 53)) := by kernel_rfl
theorem rl_type70 (a : Addr) (w : World) : (ReflectliteValue.methodAny (ReflectliteValue.valueError "reflectlite.Value.Type" 0) (fun t _ _ _ => ReflectliteType.toType t) #[valOf 72 a 150]).run Tryz.prog w = .ok (.iface 137 (.agg #[hnd 72])) w := by kernel_rfl
theorem rl_kind70 (w : World) : ((ReflectliteType.abiMethod fun t => (fun a : Nat => Value.int IntKind.u8 (a : Int)) <$> Rtype.kind t) #[hnd 72]).run Tryz.prog w = .ok (.int .u8 22) w := by kernel_rfl
theorem rl_kind45 (w : World) : ((ReflectliteType.abiMethod fun t => (fun a : Nat => Value.int IntKind.u8 (a : Int)) <$> Rtype.kind t) #[hnd 53]).run Tryz.prog w = .ok (.int .u8 22) w := by kernel_rfl
theorem rl_mKind (h : Value) (w : World) : (Go.method 327 137 (.agg #[h]) "Kind").run Tryz.prog w = .ok (155, h) w := by kernel_rfl
theorem rl_mElem (h : Value) (w : World) : (Go.method 327 137 (.agg #[h]) "Elem").run Tryz.prog w = .ok (168, .agg #[h]) w := by kernel_rfl
theorem rl_mImpl (h : Value) (w : World) : (Go.method 327 137 (.agg #[h]) "Implements").run Tryz.prog w = .ok (169, .agg #[h]) w := by kernel_rfl
theorem rl_mAsgn (h : Value) (w : World) : (Go.method 327 137 (.agg #[h]) "AssignableTo").run Tryz.prog w = .ok (166, .agg #[h]) w := by kernel_rfl
theorem rl_elem70 (w : World) : (ReflectliteType.method ReflectliteType.elem #[.agg #[hnd 72]]).run Tryz.prog w = .ok (.iface 137 (.agg #[hnd 53])) w := by kernel_rfl
theorem rl_impl45 (w : World) : (ReflectliteType.relation "Implements" ReflectliteType.implements_ #[.agg #[hnd 53], .iface 137 (.agg #[hnd 29])]).run Tryz.prog w = .ok (.bool true) w := by kernel_rfl
theorem rl_typeOf45 (v : Value) (w : World) : (ReflectliteType.typeOf #[.iface 53 v]).run Tryz.prog w = .ok (.iface 137 (.agg #[hnd 53])) w := by kernel_rfl
theorem rl_asgn45 (w : World) : (ReflectliteType.relation "AssignableTo" ReflectliteType.assignableTo #[.agg #[hnd 53], .iface 137 (.agg #[hnd 53])]).run Tryz.prog w = .ok (.bool true) w := by kernel_rfl
theorem rl_parts70 (a : Addr) (w : World) : (ReflectliteValue.parts (valOf 72 a 150)).run Tryz.prog w = .ok (some (72, a, 150)) w := by kernel_rfl
theorem rl_parts45 (a : Addr) (w : World) : (ReflectliteValue.parts (valOf 53 a 150)).run Tryz.prog w = .ok (some (53, a, 150)) w := by kernel_rfl
theorem rl_parts45s (a : Addr) (w : World) : (ReflectliteValue.parts (valOf 53 a 406)).run Tryz.prog w = .ok (some (53, a, 406)) w := by kernel_rfl
theorem rl_elemOf70 (w : World) : (Rtype.elem? 72).run Tryz.prog w = .ok (some 53) w := by kernel_rfl
theorem rl_mk45 (p : Addr) (w : World) : (ReflectliteValue.mk 53 p ReflectliteValue.flagAddr).run Tryz.prog w = .ok (valOf 53 p 406) w := by kernel_rfl
theorem rl_direct45 (w : World) : (Rtype.directlyAssignable 53 53).run Tryz.prog w = .ok true w := by kernel_rfl

theorem run_then {α β : Type} {m : Sem α} {g : α → Sem β} {P : Program} {w w₁ : World} {a : α} (h : m.run P w = .ok a w₁) : (m >>= g).run P w = (g a).run P w₁ := by
  rw [Sem.run_bind, h]; rfl

theorem rl_isNil70 (a p : Addr) (W : World) (ha : W.cell? a = some (.pointer (some p))) :
    (ReflectliteValue.method (ReflectliteValue.valueError "reflectlite.Value.IsNil" 0) ReflectliteValue.isNil #[valOf 72 a 150]).run Tryz.prog W = .ok (.bool false) W := by
  refine (run_then (rl_parts70 a W)).trans ?_
  simp [ReflectliteValue.isNil, loadVar, isAgg, underlying, Tryz.underlying72, ha, Result.andThen]

theorem rl_elemV70 (a p : Addr) (W : World) (ha : W.cell? a = some (.pointer (some p))) :
    (ReflectliteValue.method (ReflectliteValue.valueError "reflectlite.Value.Elem" 0) ReflectliteValue.elem #[valOf 72 a 150]).run Tryz.prog W = .ok (valOf 53 p 406) W := by
  refine (run_then (rl_parts70 a W)).trans ?_
  simp [ReflectliteValue.elem, loadVar, isAgg, underlying, Tryz.underlying72, ha, Result.andThen, rl_elemOf70, rl_mk45]

theorem rl_set45 (ta b e : Addr) (old : Value) (W : World) (hb : W.cell? b = some (.pointer (some e))) (ht : W.cell? ta = some old) (hf : W.frozen? ta = false) :
    (ReflectliteValue.set #[valOf 53 ta 406, valOf 53 b 150]).run Tryz.prog W = .ok (.tuple #[]) (W.setCell ta (.pointer (some e))) := by
  refine (run_then (rl_parts45s ta W)).trans ?_
  refine (run_then (rl_parts45 b W)).trans ?_
  simp [ReflectliteValue.flagAddr, loadVar, isAgg, underlying, Tryz.underlying53, hb, Result.andThen, rl_direct45, storeVar, Value.cells, storeCells, Addr.add]
  rw [run_store Tryz.prog W ta _ _ (by rfl)]
  simp [ht, hf]

/-- errors.As of no error. -/
theorem as_none (t : Value) (w : World) : Calls Tryz.prog 20 #[.nilIface, t] w fun e w' => e = .returned (.bool false) ∧ w' = w := by
  go_enter Tryz.func20, Tryz.ntmps20
  go_wp2
  go_ret
  exact ⟨rfl, rfl⟩

/-- The world that errors.As leaves behind, but for the target. -/
def asW (w : World) (t e : Addr) : World :=
  (((w.alloc (.cells #[.pointer (some t)] 72)).alloc (.cells #[hnd 72, .pointer (some ⟨w.heap.size, 0, none⟩), .int .u64 150] 99)).alloc (.cells #[hnd 72, .pointer (some ⟨w.heap.size, 0, none⟩), .int .u64 150] 99)).alloc (.cells #[.pointer (some e)] 53)
set_option maxHeartbeats 4000000 in
/-- errors.As of a Fault: the target holds it. -/
theorem as_fault (e t : Addr) (old : Value) (w : World) (hg : w.cell? ⟨0, 0, none⟩ = some (.iface 137 (.agg #[hnd 29]))) (ht0 : w.cell? t = some old) (hf0 : w.frozen? t = false) :
    Calls Tryz.prog 20 #[.iface 53 (.pointer (some e)), .iface 72 (.pointer (some t))] w fun ev w' => ev = .returned (.bool true) ∧ w' = (asW w t e).setCell t (.pointer (some e)) := by
  have c37 := @run_callFunc_extern Tryz.prog 39 _ (fun args => ReflectliteValue.unpack (args.getD 0 (.tuple #[]))) Tryz.func39 (by kernel_rfl) (by kernel_rfl) (by kernel_rfl) (by kernel_rfl)
  have c38 := @run_callFunc_extern Tryz.prog 40 _ (ReflectliteValue.methodAny (ReflectliteValue.valueError "reflectlite.Value.Type" 0) (fun t _ _ _ => ReflectliteType.toType t)) Tryz.func40 (by kernel_rfl) (by kernel_rfl) (by kernel_rfl) (by kernel_rfl)
  have c39 := @run_callFunc_extern Tryz.prog 41 _ (ReflectliteValue.method (ReflectliteValue.valueError "reflectlite.Value.IsNil" 0) ReflectliteValue.isNil) Tryz.func41 (by kernel_rfl) (by kernel_rfl) (by kernel_rfl) (by kernel_rfl)
  have c63 := @run_callFunc_extern Tryz.prog 155 _ (ReflectliteType.abiMethod fun t => do pure (.int .u8 (← Rtype.kind t))) Tryz.func155 (by kernel_rfl) (by kernel_rfl) (by kernel_rfl) (by kernel_rfl)
  have c90 := @run_callFunc_extern Tryz.prog 168 _ (ReflectliteType.method ReflectliteType.elem) Tryz.func168 (by kernel_rfl) (by kernel_rfl) (by kernel_rfl) (by kernel_rfl)
  have c91 := @run_callFunc_extern Tryz.prog 169 _ (ReflectliteType.relation "Implements" ReflectliteType.implements_) Tryz.func169 (by kernel_rfl) (by kernel_rfl) (by kernel_rfl) (by kernel_rfl)
  have c41 := @run_callFunc_extern Tryz.prog 43 _ ReflectliteType.typeOf Tryz.func43 (by kernel_rfl) (by kernel_rfl) (by kernel_rfl) (by kernel_rfl)
  have c88 := @run_callFunc_extern Tryz.prog 166 _ (ReflectliteType.relation "AssignableTo" ReflectliteType.assignableTo) Tryz.func166 (by kernel_rfl) (by kernel_rfl) (by kernel_rfl) (by kernel_rfl)
  have c47 := @run_callFunc_extern Tryz.prog 68 _ (ReflectliteValue.method (ReflectliteValue.valueError "reflectlite.Value.Elem" 0) ReflectliteValue.elem) Tryz.func68 (by kernel_rfl) (by kernel_rfl) (by kernel_rfl) (by kernel_rfl)
  have c48 := @run_callFunc_extern Tryz.prog 69 _ ReflectliteValue.set Tryz.func69 (by kernel_rfl) (by kernel_rfl) (by kernel_rfl) (by kernel_rfl)
  have f1 := rl_typeOf45
  have f2 := rl_mAsgn
  have f3 := rl_asgn45
  have f4 := rl_valueOf45
  have f5 := rl_valueOf70
  have f6 := rl_type70
  have f7 := rl_mKind
  have f8 := rl_mElem
  have f9 := rl_mImpl
  have g1 := rl_kind70
  have g2 := rl_kind45
  have g3 := rl_elem70
  have g4 := rl_impl45
  have hlt : 0 < w.heap.size := by
    rcases Nat.eq_zero_or_pos w.heap.size with h0 | h
    · simp [World.cell?, h0] at hg
    · exact h
  have htl : t.block < w.heap.size := by
    rcases Nat.lt_or_ge t.block w.heap.size with h | h
    · exact h
    · simp [World.cell?, Array.getElem?_eq_none h] at ht0
  have n1 := rl_isNil70 ⟨w.heap.size, 0, none⟩ t ((w.alloc (.cells #[.pointer (some t)] 72)).alloc (.cells #[hnd 72, .pointer (some ⟨w.heap.size, 0, none⟩), .int .u64 150] 99)) (by simp)
  have hg2 : ((w.alloc (.cells #[.pointer (some t)] 72)).alloc (.cells #[hnd 72, .pointer (some ⟨w.heap.size, 0, none⟩), .int .u64 150] 99)).cell? ⟨0, 0, none⟩ = some (.iface 137 (.agg #[hnd 29])) := by
    rw [World.cell?_alloc_lt _ _ ⟨0, 0, none⟩ (by simp), World.cell?_alloc_lt _ _ ⟨0, 0, none⟩ hlt]; exact hg
  have n2 := rl_elemV70 ⟨w.heap.size, 0, none⟩ t (((w.alloc (.cells #[.pointer (some t)] 72)).alloc (.cells #[hnd 72, .pointer (some ⟨w.heap.size, 0, none⟩), .int .u64 150] 99)).alloc (.cells #[hnd 72, .pointer (some ⟨w.heap.size, 0, none⟩), .int .u64 150] 99)) (by rw [World.cell?_alloc_lt _ _ ⟨w.heap.size, 0, none⟩ (by simp; omega)]; simp)
  have n3 := rl_set45 t ⟨w.heap.size + 1 + 1 + 1, 0, none⟩ e old (asW w t e)
    (by unfold asW; rw [World.cell?_alloc_at _ _ _ _ (by simp)]; rfl)
    (by unfold asW; rw [World.cell?_alloc_lt _ _ t (by simp; omega), World.cell?_alloc_lt _ _ t (by simp; omega), World.cell?_alloc_lt _ _ t (by simp; omega), World.cell?_alloc_lt _ _ t htl]; exact ht0)
    (by unfold asW; rw [World.frozen?_alloc_old _ _ t (by simp; omega), World.frozen?_alloc_old _ _ t (by simp; omega), World.frozen?_alloc_old _ _ t (by simp; omega), World.frozen?_alloc_old _ _ t (Nat.ne_of_lt htl)]; exact hf0)
  unfold asW at n3
  unfold hnd valOf at *
  go_enter Tryz.func20, Tryz.ntmps20
  go_wp2
  refine wp_loop_rounds 1 ?_
  rw [rounds_succ]
  go_wp2
  go_ret
  exact ⟨rfl, rfl⟩
end Go.Proofs.YtghjmfpjaabilaaGreatDoor

namespace Go.Proofs.YtghjmfpjaabilaaGreatDoor
open Go.RowKit Go.Extern.Stop Go.Stop Go.Extern Go.Vf

theorem rl_typeOf30 (v : Value) (w : World) : (ReflectliteType.typeOf #[.iface 36 v]).run Tryz.prog w = .ok (.iface 137 (.agg #[hnd 36])) w := by kernel_rfl
theorem rl_mComp (h : Value) (w : World) : (Go.method 327 137 (.agg #[h]) "Comparable").run Tryz.prog w = .ok (167, .agg #[h]) w := by kernel_rfl
theorem rl_mIs (v : Value) (w : World) : (Go.method 327 53 v "Is").run Tryz.prog w = .ok (160, v) w := by kernel_rfl
theorem ta_is (v : Value) (w : World) : (Instr.typeAssert (.iface 53 v) 29 149 true).run Tryz.prog w = .ok (.tuple #[.iface 53 v, .bool true]) w := run_typeAssert_hasB Tryz.underlying149 (by kernel_rfl) v 29 w
theorem ne_types (v x : Value) (w : World) : (binOp .eql 29 (.iface 53 v) (.iface 36 x)).run Tryz.prog w = .ok (.bool false) w := run_eql_iface_types 53 36 v x Tryz.underlying29 (by decide) w
theorem info30 : (Tryz.prog.info? 36).map (fun i => i.comparable) = some true := by kernel_rfl
theorem eq_code (c : Int) (w : World) : (binOp .eql 29 (.iface 36 (.int .i64 c)) (.iface 36 (.int .i64 c))).run Tryz.prog w = .ok (.bool true) w := by
  obtain ⟨i, hi, hc⟩ : ∃ i, Tryz.prog.info? 36 = some i ∧ i.comparable = true := by simpa using info30
  have h : ∀ d, (Op.equalIn (d + 1 + 1) 29 (.iface 36 (.int .i64 c)) (.iface 36 (.int .i64 c))).run Tryz.prog w = .ok true w := fun d => by
    simp [Op.equalIn, run_underlying Tryz.underlying29, run_underlying Tryz.underlying36, typeInfo, hi, hc]
  simp only [binOp]
  simp [Op.equal, Op.maxDepth, h 9998]

/-- (*api.Fault).Is at its own code. -/
theorem faultIs_hit (e : Addr) (c : Int) (w : World) (hc : w.cell? e = some (.int .i64 c)) : Calls Tryz.prog 160 #[.pointer (some e), .iface 36 (.int .i64 c)] w fun ev w' => ev = .returned (.bool true) ∧ w' = w := by
  have q := eq_code c
  go_enter Tryz.func160, Tryz.ntmps160
  go_wp2
  go_ret
  exact ⟨rfl, rfl⟩
theorem rl_comp30 (w : World) : (ReflectliteType.method (fun t => do Rtype.noPackHeld "Comparable" t; (fun a => Value.bool a.comparable) <$> typeInfo t) #[.agg #[hnd 36]]).run Tryz.prog w = .ok (.bool true) w := by kernel_rfl

set_option maxRecDepth 20000 in
set_option maxHeartbeats 4000000 in
/-- errors.Is of a Fault at its own code. -/
theorem is_fault (e : Addr) (c : Int) (w : World) (hc : w.cell? e = some (.int .i64 c)) : Calls Tryz.prog 22 #[.iface 53 (.pointer (some e)), .iface 36 (.int .i64 c)] w fun ev w' => ev = .returned (.bool true) ∧ w' = w := by
  have c41 := @run_callFunc_extern Tryz.prog 43 _ ReflectliteType.typeOf Tryz.func43 (by kernel_rfl) (by kernel_rfl) (by kernel_rfl) (by kernel_rfl)
  have c89 := @run_callFunc_extern Tryz.prog 167 _ (ReflectliteType.method (fun t => do Rtype.noPackHeld "Comparable" t; pure (.bool (← typeInfo t).comparable))) Tryz.func167 (by kernel_rfl) (by kernel_rfl) (by kernel_rfl) (by kernel_rfl)
  have f1 := rl_typeOf30
  have f2 := rl_mComp
  have f3 := rl_comp30
  have f4 := rl_mIs
  have f5 := ta_is
  have f6 := ne_types
  have f7 := eq_code c w
  unfold hnd at *
  go_enter Tryz.func22, Tryz.ntmps22
  go_wp2
  refine wp_loop_rounds 1 ?_
  rw [rounds_succ]
  go_wp2
  go_ret
  exact ⟨rfl, rfl⟩
end Go.Proofs.YtghjmfpjaabilaaGreatDoor
