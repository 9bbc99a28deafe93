/- What value.Want does, and the methods of values (contracts; nothing is claimed here). -/
import Derived.Test.YtgefbgpfjbbeaaaGreatDoorJ2
namespace Go.Proofs.YtgefbgpfjbbeaaaGreatDoor
open Go.RowKit Go.Vf

theorem mKindT (y : Bool) (w : World) : (method 493 104 (.agg #[.bool y]) "Kind").run Tryz.prog w = .ok (304, .agg #[.bool y]) w := by kernel_rfl
theorem mKindN (b : Bool) (m : ByteArray) (w : World) : (method 493 106 (.agg #[.bool b, .string m]) "Kind").run Tryz.prog w = .ok (306, .agg #[.bool b, .string m]) w := by kernel_rfl
theorem mKindR (k : Int) (r : ByteArray) (w : World) : (method 493 111 (.agg #[.int .u8 k, .string r]) "Kind").run Tryz.prog w = .ok (315, .agg #[.int .u8 k, .string r]) w := by kernel_rfl
theorem mKindU (a : Addr) (w : World) : (method 493 108 (.pointer (some a)) "Kind").run Tryz.prog w = .ok (310, .pointer (some a)) w := by kernel_rfl
theorem mNumN (b : Bool) (m : ByteArray) (w : World) : (method 493 106 (.agg #[.bool b, .string m]) "Num").run Tryz.prog w = .ok (307, .agg #[.bool b, .string m]) w := by kernel_rfl
theorem mBytesR (k : Int) (r : ByteArray) (w : World) : (method 493 111 (.agg #[.int .u8 k, .string r]) "Bytes").run Tryz.prog w = .ok (314, .agg #[.int .u8 k, .string r]) w := by kernel_rfl
theorem mLenU (a : Addr) (w : World) : (method 493 108 (.pointer (some a)) "Len").run Tryz.prog w = .ok (311, .pointer (some a)) w := by kernel_rfl
theorem mAtU (a : Addr) (w : World) : (method 493 108 (.pointer (some a)) "At").run Tryz.prog w = .ok (309, .pointer (some a)) w := by kernel_rfl
theorem num_results {tmps : Array Value} {w : World} {h : Nat} {a b : Value} (hb : Blk w h 41 #[a, b]) (t2 : tmps[2]?.getD undef = .pointer (some ⟨h, 0, none⟩)) :
    (results Tryz.f307 tmps).run Tryz.prog w = .ok (.agg #[a, b]) w := by
  have c0 := hb.cell 0
  have c1 := hb.cell 1
  simp at c0 c1
  simp [results, Tryz.results307, go_sem, t2, c0, c1]
theorem numNum (b : Bool) (m : ByteArray) (w : World) : Calls Tryz.prog 307 #[.agg #[.bool b, .string m]] w fun e w' => e = .returned (.agg #[.bool b, .string m]) ∧ Below w.heap.size w w' := by
  have hb1 := (Below.refl w.heap.size w).alloc (Nat.le_refl _) (.cells #[.bool b, .string m] 106)
  have hb2 := hb1.alloc hb1.size (.cells #[.bool b, .string m] 41)
  have hB := Blk.new (w.alloc (.cells #[.bool b, .string m] 106)) 41 #[.bool b, .string m]
  rw [alloc_size] at hB
  go_enter Tryz.func307, Tryz.ntmps307
  go_wp2_with fail
  exact bodyPost_ret (num_results hB (by simp)) rfl ⟨rfl, hb2⟩
theorem atTup (g : Nat) (h off n c j : Nat) (v d : Value) (hj : j < n) (_hn : n ≤ 281474976710656) (w : World) (hB : Blk w g 147 #[.slice (some ⟨h, off, none⟩) n c, d]) (hv : w.cell? ⟨h, off + j, none⟩ = some v) : Calls Tryz.prog 309 #[.pointer (some ⟨g, 0, none⟩), .int .i64 (j : Int)] w fun e w' => e = .returned v ∧ w' = w := by
  have c0 := hB.cell 0
  have t1 : decide ((j : Int) < 0) = false := by simp
  have t2 : decide ((n : Int) ≤ (j : Int)) = false := by simp; omega
  have t3 : decide (n ≤ j) = false := by simp; omega
  go_enter Tryz.func309, Tryz.ntmps309
  go_wp2_with fail
  go_ret
  exact ⟨rfl, rfl⟩
theorem bytesRaw (k : Int) (r : ByteArray) (w : World) : Calls Tryz.prog 314 #[.agg #[.int .u8 k, .string r]] w fun e w' => e = .returned (.string r) ∧ Below w.heap.size w w' := by
  go_enter Tryz.func314, Tryz.ntmps314
  go_wp2_with fail
  go_ret
  exact ⟨rfl, (Below.refl _ _).alloc (Nat.le_refl _) _⟩
theorem lenTup (g : Nat) (a : Option Addr) (n c : Nat) (d : Value) (w : World) (h : Blk w g 147 #[.slice a n c, d]) : Calls Tryz.prog 311 #[.pointer (some ⟨g, 0, none⟩)] w fun e w' => e = .returned (.int .i64 (n : Int)) ∧ w' = w := by
  have c0 := h.cell 0
  go_enter Tryz.func311, Tryz.ntmps311
  go_wp2_with fail
  go_ret
  exact ⟨rfl, rfl⟩
theorem kindTup (g : Nat) (w : World) : Calls Tryz.prog 310 #[.pointer (some ⟨g, 0, none⟩)] w fun e w' => e = .returned (.int .u8 7) ∧ w' = w := by
  go_enter Tryz.func310, Tryz.ntmps310
  go_wp2_with fail
  go_ret
  exact ⟨rfl, rfl⟩
theorem kindTruth (y : Bool) (w : World) : Calls Tryz.prog 304 #[.agg #[.bool y]] w fun e w' => e = .returned (.int .u8 1) ∧ Below w.heap.size w w' := by
  go_enter Tryz.func304, Tryz.ntmps304
  go_wp2_with fail
  go_ret
  exact ⟨rfl, (Below.refl _ _).alloc (Nat.le_refl _) _⟩
theorem kindNum (b : Bool) (m : ByteArray) (w : World) : Calls Tryz.prog 306 #[.agg #[.bool b, .string m]] w fun e w' => e = .returned (.int .u8 2) ∧ Below w.heap.size w w' := by
  go_enter Tryz.func306, Tryz.ntmps306
  go_wp2_with fail
  go_ret
  exact ⟨rfl, (Below.refl _ _).alloc (Nat.le_refl _) _⟩
theorem kindRaw (k : Int) (r : ByteArray) (w : World) : Calls Tryz.prog 315 #[.agg #[.int .u8 k, .string r]] w fun e w' => e = .returned (.int .u8 k) ∧ Below w.heap.size w w' := by
  go_enter Tryz.func315, Tryz.ntmps315
  go_wp2_with fail
  go_ret
  exact ⟨rfl, (Below.refl _ _).alloc (Nat.le_refl _) _⟩
/-- What is wrong where the kind k is wanted. -/
def wnt (k pk : Int) : Int := if 7 < k then 1 else if pk = k then 0 else 4

theorem kindOf_any (v : Value) (p : Prt) (lo n₀ : Nat) (w : World) (h : VIn w lo n₀ v p) : Calls Tryz.prog 59 #[v] w fun e w' => e = .returned (.int .u8 p.kind) ∧ Below w.heap.size w w' := by
  have m1 := mKindT
  have m2 := mKindN
  have m3 := mKindR
  have m4 := mKindU
  cases h
  case null =>
    go_enter Tryz.func59, Tryz.ntmps59
    go_wp2_with fail
    go_ret
    exact ⟨rfl, Below.refl _ _⟩
  case truth y =>
    have hk := kindTruth y w
    go_enter Tryz.func59, Tryz.ntmps59
    go_wp2_with fail
    refine hk.mono ?_
    rintro _ w2 ⟨rfl, hb⟩
    go_wp2_with fail
    go_ret
    exact ⟨rfl, hb⟩
  case num b m =>
    have hk := kindNum b m w
    go_enter Tryz.func59, Tryz.ntmps59
    go_wp2_with fail
    refine hk.mono ?_
    rintro _ w2 ⟨rfl, hb⟩
    go_wp2_with fail
    go_ret
    exact ⟨rfl, hb⟩
  case raw k r _ =>
    have hk := kindRaw k r w
    go_enter Tryz.func59, Tryz.ntmps59
    go_wp2_with fail
    refine hk.mono ?_
    rintro _ w2 ⟨rfl, hb⟩
    go_wp2_with fail
    go_ret
    exact ⟨rfl, hb⟩
  case tup =>
    rename_i l g c a V h1 h2 h3 h4 h5
    have hk := kindTup g w
    clear h3 h4 h5
    go_enter Tryz.func59, Tryz.ntmps59
    go_wp2_with fail
    refine hk.mono ?_
    rintro _ _ ⟨rfl, rfl⟩
    go_wp2_with fail
    go_ret
    exact ⟨rfl, Below.refl _ _⟩

/-- The answer of value.Want: the value, or nothing and a Fault. -/
def WantE (v : Value) (r : Int) (e : Ending) (w' : World) : Prop :=
  (r = 0 ∧ e = .returned (.tuple #[v, .nilIface])) ∨ (r ≠ 0 ∧ ∃ b, e = .returned (.tuple #[.nilIface, .iface 79 (.pointer (some ⟨b, 0, none⟩))]) ∧ Blk w' b 82 #[.int .i64 r, .int .i64 0, .slice none 0 0, .nilIface])

set_option maxHeartbeats 4000000 in
theorem want_any (v : Value) (p : Prt) (k : Int) (_hk0 : 0 ≤ k) (_hk1 : k < 256) (_hp0 : 0 ≤ p.kind) (lo n₀ : Nat) (w : World) (h : VIn w lo n₀ v p) : Calls Tryz.prog 40 #[v, .int .u8 k] w fun e w' => WantE v (wnt k p.kind) e w' ∧ Below w.heap.size w w' := by
  have hk := kindOf_any v p lo n₀ w h
  clear h
  unfold wnt
  by_cases h7 : 7 < k
  · have t : decide (7 < k) = true := decide_eq_true h7
    have hb := (Below.refl w.heap.size w).alloc (Nat.le_refl _) (.cells #[.int .i64 1, .int .i64 0, .slice none 0 0, .nilIface] 82)
    have hB := Blk.new w 82 #[.int .i64 1, .int .i64 0, .slice none 0 0, .nilIface]
    rw [if_pos h7]
    clear hk
    go_enter Tryz.func40, Tryz.ntmps40
    go_wp2_with fail
    go_ret2
    exact ⟨Or.inr ⟨by decide, _, rfl, hB⟩, hb⟩
  have t : decide (7 < k) = false := decide_eq_false h7
  rw [if_neg h7]
  generalize p.kind = K at *
  by_cases hK : K = k
  · have t2 : decide (K = k) = true := decide_eq_true hK
    have t3 : (K == k) = true := by simpa using hK
    rw [if_pos hK]
    go_enter Tryz.func40, Tryz.ntmps40
    go_wp2_with fail
    refine hk.mono ?_
    rintro _ w2 ⟨rfl, hb⟩
    go_wp2_with fail
    go_ret2
    exact ⟨Or.inl ⟨rfl, rfl⟩, hb⟩
  · have t2 : decide (K = k) = false := decide_eq_false hK
    have t3 : (K == k) = false := by simpa using hK
    rw [if_neg hK]
    go_enter Tryz.func40, Tryz.ntmps40
    go_wp2_with fail
    refine hk.mono ?_
    rintro _ w2 ⟨rfl, hb⟩
    have hb2 := hb.alloc hb.size (.cells #[.int .i64 4, .int .i64 0, .slice none 0 0, .nilIface] 82)
    have hB := Blk.new w2 82 #[.int .i64 4, .int .i64 0, .slice none 0 0, .nilIface]
    go_wp2_with fail
    go_ret2
    exact ⟨Or.inr ⟨by decide, _, rfl, hB⟩, hb2⟩


end Go.Proofs.YtgefbgpfjbbeaaaGreatDoor
