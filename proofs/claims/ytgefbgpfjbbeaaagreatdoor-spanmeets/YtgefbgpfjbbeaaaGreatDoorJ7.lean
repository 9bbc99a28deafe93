/- Contracts and lemmas (nothing is claimed here). -/
import Derived.Test.YtgefbgpfjbbeaaaGreatDoorFWnt
import Derived.Test.YtgefbgpfjbbeaaaGreatDoorFGiv
namespace Go.Proofs.YtgefbgpfjbbeaaaGreatDoor
open Go.RowKit Go.Vf

/-- An error with no path: nothing, or a Fault. -/
def PlainPost (code at' : Int) (why : Value) (w : World) (e : Ending) (w' : World) : Prop :=
  Below w.heap.size w w' ∧ ((code = 0 ∧ e = .returned .nilIface) ∨ (code ≠ 0 ∧ ∃ v, e = .returned v ∧ FaultAt w' w.heap.size v code at' [] why))
theorem fault_new (w W : World) (hb : Below w.heap.size w W) (code at' : Int) (why : Value) : FaultAt (W.alloc (.cells #[.int .i64 code, .int .i64 at', .slice none 0 0, why] 82)) w.heap.size (.iface 79 (.pointer (some ⟨W.heap.size, 0, none⟩))) code at' [] why :=
  ⟨W.heap.size, none, 0, rfl, hb.size, Blk.new W 82 _, IOwn.nil _ _, by simp [Value.ownBlock]⟩
theorem unfitNull_any (o : Own) (a : Option Addr) (n c : Nat) (w : World) : Calls Tryz.prog 130 #[fV o a n c] w (PlainPost (if o.nulls = 0 then 121 else 0) 0 .nilIface w) := by
  have hb1 := (Below.refl w.heap.size w).alloc (Nat.le_refl _) (.cells (cellsF o a n c) 50)
  unfold fV
  by_cases h : o.nulls = 0
  · have t : (o.nulls == 0) = true := by simpa using h
    rw [if_pos h]
    have hF := fault_new w _ hb1 121 0 .nilIface
    rw [alloc_size] at hF
    have hb2 := hb1.alloc hb1.size (.cells #[.int .i64 121, .int .i64 0, .slice none 0 0, .nilIface] 82)
    simp only [cellsF] at hb1 hF hb2
    clear h
    go_enter Tryz.func130, Tryz.ntmps130
    go_wp2_with fail
    go_ret
    exact ⟨hb2, .inr ⟨by decide, _, rfl, hF⟩⟩
  · have t : (o.nulls == 0) = false := by simpa using h
    rw [if_neg h]
    simp only [cellsF] at hb1
    clear h
    go_enter Tryz.func130, Tryz.ntmps130
    go_wp2_with fail
    go_ret
    exact ⟨hb1, .inl ⟨rfl, rfl⟩⟩
theorem above_any (ba : Bool) (a : ByteArray) (bb : Bool) (b : ByteArray) (ha : a.size ≤ 17179869184) (hb : b.size ≤ 17179869184) (h1 : chk ba a.data.toList = 0) (h2 : chk bb b.data.toList = 0) (w : World) :
    Calls Tryz.prog 164 #[.agg #[.bool ba, .string a], .agg #[.bool bb, .string b]] w fun e w' => e = .returned (.bool (decide (0 < cmpN ba a.data.toList bb b.data.toList))) ∧ Below w.heap.size w w' := by
  have hcp : ∀ W, Calls Tryz.prog 192 #[.agg #[.bool ba, .string a], .agg #[.bool bb, .string b]] W fun e w' => e = compE ba a.data.toList bb b.data.toList ∧ Below W.heap.size W w' := fun W => compare_any ba a bb b ha hb W
  rw [compE_0 h1 h2] at hcp
  generalize cmpN ba a.data.toList bb b.data.toList = q at hcp ⊢
  have hb1 := ((Below.refl w.heap.size w).alloc (Nat.le_refl _) (.cells #[.bool ba, .string a] 41)).alloc (by simp) (.cells #[.bool bb, .string b] 41)
  go_enter Tryz.func164, Tryz.ntmps164
  go_wp2_with fail
  refine (hcp _).mono ?_
  rintro _ w2 ⟨rfl, hb2⟩
  have hb3 := hb1.trans (hb2.mono hb1.size)
  clear hcp hb1 hb2
  go_wp2_with fail
  go_ret
  exact ⟨rfl, hb3⟩
theorem hasMost_any (k : Int) (w : World) : Calls Tryz.prog 160 #[.int .u8 k] w fun e w' => e = .returned (.bool (k == 3 || k == 5)) ∧ w = w' := by
  cases h1 : (k == 3) with
  | true =>
    go_enter Tryz.func160, Tryz.ntmps160
    go_wp2
    go_ret
    exact ⟨rfl, rfl⟩
  | false =>
    cases h2 : (k == 5) with
    | true =>
      go_enter Tryz.func160, Tryz.ntmps160
      go_wp2
      go_ret
      exact ⟨rfl, rfl⟩
    | false =>
      go_enter Tryz.func160, Tryz.ntmps160
      go_wp2
      go_ret
      exact ⟨rfl, rfl⟩
theorem isSpelt_any (k : Int) (w : World) : Calls Tryz.prog 161 #[.int .u8 k] w fun e w' => e = .returned (.bool (k == 5 || k == 6)) ∧ w = w' := by
  cases h1 : (k == 5) with
  | true =>
    go_enter Tryz.func161, Tryz.ntmps161
    go_wp2
    go_ret
    exact ⟨rfl, rfl⟩
  | false =>
    cases h2 : (k == 6) with
    | true =>
      go_enter Tryz.func161, Tryz.ntmps161
      go_wp2
      go_ret
      exact ⟨rfl, rfl⟩
    | false =>
      go_enter Tryz.func161, Tryz.ntmps161
      go_wp2
      go_ret
      exact ⟨rfl, rfl⟩

end Go.Proofs.YtgefbgpfjbbeaaaGreatDoor

namespace Go.Proofs.YtgefbgpfjbbeaaaGreatDoor
open Go.RowKit Go.Vf

set_option maxHeartbeats 2000000 in
set_option maxRecDepth 20000 in
theorem unfitBytes_ok (o : Go.Vf.Own) (a : Option Addr) (n c : Nat) (r : ByteArray) (hk : o.kind = 3) (hm : (r.size : Int) ≤ o.most) (w : World) :
    Calls Tryz.prog 131 #[fV o a n c, .string r] w fun e w' => e = .returned .nilIface ∧ Below w.heap.size w w' := by
  have hb1 := (Below.refl w.heap.size w).alloc (Nat.le_refl _) (.cells (cellsF o a n c) 50)
  have hN1 := Blk.new w 50 (cellsF o a n c)
  obtain ⟨c0, c1, c2, c3, c4, c5, c6, c7, c8, c9, c10, c11, c12, c13⟩ := cells14 hN1
  unfold fV
  simp only [cellsF] at hb1 hN1 c1 c9
  clear c0 c2 c3 c4 c5 c6 c7 c8 c10 c11 c12 c13
  have hh := hasMost_any o.kind
  have hsp := isSpelt_any o.kind
  have hlg : decide (o.most < (r.size : Int)) = false := decide_eq_false (by omega)
  have h3 : (o.kind == 3 || o.kind == 5) = true := by rw [hk]; rfl
  have h5 : (o.kind == 5 || o.kind == 6) = false := by rw [hk]; rfl
  rw [h3] at hh
  rw [h5] at hsp
  clear hN1 hk hm
  go_enter Tryz.func131, Tryz.ntmps131
  go_upto_region 1 with fail
  generalize w.alloc (.cells #[.string o.name, .int .u8 o.kind, .bool o.down, .int .u8 o.nulls, .bool o.bnd, .bool o.ln, .string o.lm, .bool o.hn, .string o.hm, .int .i64 o.most, .int .i64 o.str, .bool o.shf, .bool o.bck, .slice a n c] 50) = w1 at hb1 c1 c9 ⊢
  have hm1 := hh w1
  have hsp1 := hsp w1
  clear hh hsp
  go_wp2_with fail
  refine hm1.mono ?_
  rintro _ _ ⟨rfl, rfl⟩
  go_wp2_with fail
  refine hsp1.mono ?_
  rintro _ _ ⟨rfl, rfl⟩
  go_wp2_with fail
  go_ret
  exact ⟨rfl, hb1⟩

end Go.Proofs.YtgefbgpfjbbeaaaGreatDoor
