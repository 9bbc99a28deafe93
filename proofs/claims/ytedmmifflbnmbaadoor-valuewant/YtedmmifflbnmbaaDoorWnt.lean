/- What value.Want and dovetailref09.Want do (contracts; nothing is claimed here). -/
import Derived.Test.YtedmmifflbnmbaaDoorLook
namespace Go.Proofs.YtedmmifflbnmbaaDoor
open Go.RowKit Go.Vf

/-- What is wrong where the kind k is wanted. -/
def wnt (k pk : Int) : Int := if 7 < k then 1 else if pk = k then 0 else 4

theorem kindOf_any (v : Value) (p : Prt) (lo n₀ : Nat) (w : World) (h : VIn w lo n₀ v p) : Calls Tryd.prog 21 #[v] w fun e w' => e = .returned (.int .u8 p.kind) ∧ Below w.heap.size w w' := by
  have m1 := mKind_81
  have m2 := mKind_83
  have m3 := mKind_85
  have m4 := mKind_74
  cases h
  case null =>
    go_enter Tryd.func21, Tryd.ntmps21
    go_wp2_with fail
    go_ret
    exact ⟨rfl, Below.refl _ _⟩
  case truth y =>
    have hk := kindTruth y w
    go_enter Tryd.func21, Tryd.ntmps21
    go_wp2_with fail
    refine hk.mono ?_
    rintro _ w2 ⟨rfl, hb⟩
    go_wp2_with fail
    go_ret
    exact ⟨rfl, hb⟩
  case num b m =>
    have hk := kindNum b m w
    go_enter Tryd.func21, Tryd.ntmps21
    go_wp2_with fail
    refine hk.mono ?_
    rintro _ w2 ⟨rfl, hb⟩
    go_wp2_with fail
    go_ret
    exact ⟨rfl, hb⟩
  case raw k r _ =>
    have hk := kindRaw k r w
    go_enter Tryd.func21, Tryd.ntmps21
    go_wp2_with fail
    refine hk.mono ?_
    rintro _ w2 ⟨rfl, hb⟩
    go_wp2_with fail
    go_ret
    exact ⟨rfl, hb⟩
  case tup =>
    rename_i l g c a V h1 h2 h3 h4 h5
    have hk := kindTup g w
    clear h3 h4 h5
    go_enter Tryd.func21, Tryd.ntmps21
    go_wp2_with fail
    refine hk.mono ?_
    rintro _ _ ⟨rfl, rfl⟩
    go_wp2_with fail
    go_ret
    exact ⟨rfl, Below.refl _ _⟩

/-- The answer of value.Want: the value, or nothing and a Fault. -/
def WantE (v : Value) (r : Int) (e : Ending) (w' : World) : Prop :=
  (r = 0 ∧ e = .returned (.tuple #[v, .nilIface])) ∨ (r ≠ 0 ∧ ∃ b, e = .returned (.tuple #[.nilIface, .iface 45 (.pointer (some ⟨b, 0, none⟩))]) ∧ Blk w' b 48 #[.int .i64 r, .int .i64 0, .slice none 0 0, .nilIface])

set_option maxHeartbeats 4000000 in
theorem want_any (v : Value) (p : Prt) (k : Int) (_hk0 : 0 ≤ k) (_hk1 : k < 256) (_hp0 : 0 ≤ p.kind) (lo n₀ : Nat) (w : World) (h : VIn w lo n₀ v p) : Calls Tryd.prog 8 #[v, .int .u8 k] w fun e w' => WantE v (wnt k p.kind) e w' ∧ Below w.heap.size w w' := by
  have hk := kindOf_any v p lo n₀ w h
  clear h
  unfold wnt
  by_cases h7 : 7 < k
  · have t : decide (7 < k) = true := decide_eq_true h7
    have hb := (Below.refl w.heap.size w).alloc (Nat.le_refl _) (.cells #[.int .i64 1, .int .i64 0, .slice none 0 0, .nilIface] 48)
    have hB := Blk.new w 48 #[.int .i64 1, .int .i64 0, .slice none 0 0, .nilIface]
    rw [if_pos h7]
    clear hk
    go_enter Tryd.func8, Tryd.ntmps8
    go_wp2_with fail
    go_ret2
    exact ⟨Or.inr ⟨by decide, _, rfl, hB⟩, hb⟩
  have t : decide (7 < k) = false := decide_eq_false h7
  rw [if_neg h7]
  generalize p.kind = K at *
  by_cases hK : K = k
  · have t2 : decide (K = k) = true := decide_eq_true hK
    have t3 : (K == k) = true := by simpa using hK
    rw [if_pos hK]
    go_enter Tryd.func8, Tryd.ntmps8
    go_wp2_with fail
    refine hk.mono ?_
    rintro _ w2 ⟨rfl, hb⟩
    go_wp2_with fail
    go_ret2
    exact ⟨Or.inl ⟨rfl, rfl⟩, hb⟩
  · have t2 : decide (K = k) = false := decide_eq_false hK
    have t3 : (K == k) = false := by simpa using hK
    rw [if_neg hK]
    go_enter Tryd.func8, Tryd.ntmps8
    go_wp2_with fail
    refine hk.mono ?_
    rintro _ w2 ⟨rfl, hb⟩
    have hb2 := hb.alloc hb.size (.cells #[.int .i64 4, .int .i64 0, .slice none 0 0, .nilIface] 48)
    have hB := Blk.new w2 48 #[.int .i64 4, .int .i64 0, .slice none 0 0, .nilIface]
    go_wp2_with fail
    go_ret2
    exact ⟨Or.inr ⟨by decide, _, rfl, hB⟩, hb2⟩

set_option maxHeartbeats 4000000 in
theorem rwant_any (p : Prt) (a : Option Addr) (c : Nat) (k : Int) (w : World) : Calls Tryd.prog 9 #[pV p a c, .int .u8 k] w fun e w' => e = .returned (.int .i64 (wnt k p.kind)) ∧ Below w.heap.size w w' := by
  have hb := (Below.refl w.heap.size w).alloc (Nat.le_refl _) (.cells #[.int .u8 p.kind, .bool p.yes, .bool p.neg, .string p.mag, .string p.raw, .slice a p.items.length c] 27)
  have hB := Blk.new w 27 #[.int .u8 p.kind, .bool p.yes, .bool p.neg, .string p.mag, .string p.raw, .slice a p.items.length c]
  obtain ⟨c0, c1, c2, c3, c4, c5⟩ := hB.c6
  unfold pV wnt
  generalize p.kind = K at *
  by_cases h7 : 7 < k
  · have t : decide (7 < k) = true := decide_eq_true h7
    rw [if_pos h7]
    go_enter Tryd.func9, Tryd.ntmps9
    go_wp2_with fail
    go_ret
    exact ⟨rfl, hb⟩
  have t : decide (7 < k) = false := decide_eq_false h7
  rw [if_neg h7]
  by_cases hK : K = k
  · rw [if_pos hK]
    subst hK
    go_enter Tryd.func9, Tryd.ntmps9
    go_wp2_with fail
    go_ret
    exact ⟨rfl, hb⟩
  · have t2 : decide (K = k) = false := decide_eq_false hK
    have t3 : (K == k) = false := by simpa using hK
    rw [if_neg hK]
    go_enter Tryd.func9, Tryd.ntmps9
    go_wp2_with fail
    go_ret
    exact ⟨rfl, hb⟩
end Go.Proofs.YtedmmifflbnmbaaDoor
