/- What dovetailkeep.Deep and law18's vast answer (contracts; nothing is claimed here). -/
import Derived.Test.YtnjfkijekohdkaaDoorKDep
import Derived.Test.YtnjfkijekohdkaaDoorKTup
namespace Go.Proofs.YtnjfkijekohdkaaDoor
open Go.RowKit Go.Vf

set_option maxHeartbeats 4000000 in
set_option maxRecDepth 20000 in
theorem Deep_any (p : Prt) (hf : Fits p) (a : Option Addr) (c lo n₀ : Nat) (h : Int) (w : World) (hn₀ : n₀ ≤ w.heap.size) (hin : PIn w lo n₀ p a) :
    Calls Tryd.prog 21 #[.agg #[.int .u8 p.kind, .bool p.yes, .bool p.neg, .string p.mag, .string p.raw, .slice a p.items.length c], .int .i64 h] w (SomeI w) := by
  have hb1 := (Below.refl w.heap.size w).alloc (Nat.le_refl _) (.cells #[.int .u8 p.kind, .bool p.yes, .bool p.neg, .string p.mag, .string p.raw, .slice a p.items.length c] 29)
  have hB1 := Blk.new w 29 #[.int .u8 p.kind, .bool p.yes, .bool p.neg, .string p.mag, .string p.raw, .slice a p.items.length c]
  have hs1 : (w.alloc (.cells #[.int .u8 p.kind, .bool p.yes, .bool p.neg, .string p.mag, .string p.raw, .slice a p.items.length c] 29)).heap.size = w.heap.size + 1 := by simp
  obtain ⟨w1, hw1⟩ : ∃ w1, w.alloc (.cells #[.int .u8 p.kind, .bool p.yes, .bool p.neg, .string p.mag, .string p.raw, .slice a p.items.length c] 29) = w1 := ⟨_, rfl⟩
  rw [hw1] at hb1 hB1 hs1
  have hb2 := hb1.alloc hb1.size (.cells #[.int .i64 0] 3)
  have hl2 := Blk.new w1 3 #[.int .i64 0]
  have hB2 := hB1.old ((Below.refl w1.heap.size w1).alloc (Nat.le_refl _) (.cells #[.int .i64 0] 3))
  rw [hs1] at hl2
  go_enter Tryd.func21, Tryd.ntmps21
  go_upto_region 1 with fail
  (try rw [hw1])
  clear hw1
  generalize hw2 : w1.alloc (.cells #[.int .i64 0] 3) = w2 at *
  have HL2 : Hid (Blk w2 (w.heap.size + 1) 3 #[.int .i64 0]) := hl2
  have HB2 : Hid (Blk w2 w.heap.size 29 #[.int .u8 p.kind, .bool p.yes, .bool p.neg, .string p.mag, .string p.raw, .slice a p.items.length c]) := hB2
  have HW2 : Hid (Below w.heap.size w w2) := hb2
  have l0 : w2.cell? ⟨w.heap.size + 1, 0, none⟩ = some (.int .i64 0) := hl2.cell 0
  have l1 := hl2.frozen 0
  have HIN : Hid (PIn w lo n₀ p a) := hin
  have HF : Hid (Fits p) := hf
  clear hl2 hB2 hb2 hB1 hb1 hin hf
  go_upto_region 2 with fail
  have HL3 : Hid (Blk (w2.setCell ⟨w.heap.size + 1, 0, none⟩ (.int .i64 16777216)) (w.heap.size + 1) 3 #[.int .i64 16777216]) := HL2.out.set 0 _
  have HB3 : Hid (Blk (w2.setCell ⟨w.heap.size + 1, 0, none⟩ (.int .i64 16777216)) w.heap.size 29 _) := HB2.out.other (p := ⟨w.heap.size + 1, 0, none⟩) (Nat.ne_of_lt (Nat.lt_succ_self _)) _
  have HW3 : Hid (Below w.heap.size w (w2.setCell ⟨w.heap.size + 1, 0, none⟩ (.int .i64 16777216))) := HW2.out.setCell (p := ⟨w.heap.size + 1, 0, none⟩) (Nat.le_succ _) _
  generalize w2.setCell ⟨w.heap.size + 1, 0, none⟩ (.int .i64 16777216) = w3 at *
  clear l0 l1 HL2 HB2 HW2
  obtain ⟨c0, c1, c2, c3, c4, c5⟩ := HB3.out.c6
  have hc := deep_any p HF.out a c lo n₀ (w.heap.size + 1) h 16777216 w3 (by omega) HL3 (HIN.out.keep HW3.out hn₀)
  generalize p.items.length = ln at *
  go_wp2_with fail
  refine hc.mono ?_
  clear hc c0 c1 c2 c3 c4 c5
  rintro e w4 ⟨d, z4, rfl, -, ho⟩
  have hz := HL3.out.lt
  have HW4 : Hid (Below w.heap.size w w4) := HW3.out.trans ((ho.below (by omega)).mono (by omega))
  clear ho
  go_wp2_with fail
  go_ret
  exact ⟨d, rfl, HW4⟩
/-- Yes or no. -/
def SomeB (w : World) (e : Ending) (w' : World) : Prop := ∃ z, e = .returned (.bool z) ∧ Below w.heap.size w w'
set_option maxHeartbeats 4000000 in
set_option maxRecDepth 20000 in
theorem vast_any (l : List (Int × Prt)) (p : Prt) (hl : l.length ≤ 281474976710656) (hf : Fits p) (hfl : ∀ s ∈ l, Fits s.2) (al : Option Addr) (cl : Nat) (a : Option Addr) (c lo n₀ : Nat) (w : World) (hn₀ : n₀ ≤ w.heap.size) (hin : PIn w lo n₀ p a) (hsr : SrIn w lo n₀ al l) :
    Calls Tryd.prog 7 #[.slice al l.length cl, .agg #[.int .u8 p.kind, .bool p.yes, .bool p.neg, .string p.mag, .string p.raw, .slice a p.items.length c]] w (SomeB w) := by
  have hb1 := (Below.refl w.heap.size w).alloc (Nat.le_refl _) (.cells #[.int .u8 p.kind, .bool p.yes, .bool p.neg, .string p.mag, .string p.raw, .slice a p.items.length c] 29)
  have hB1 := Blk.new w 29 #[.int .u8 p.kind, .bool p.yes, .bool p.neg, .string p.mag, .string p.raw, .slice a p.items.length c]
  have hin1 := hin.keep hb1 hn₀
  have hsr1 := hsr.keep hb1 hn₀
  obtain ⟨w1, hw1⟩ : ∃ w1, w.alloc (.cells #[.int .u8 p.kind, .bool p.yes, .bool p.neg, .string p.mag, .string p.raw, .slice a p.items.length c] 29) = w1 := ⟨_, rfl⟩
  rw [hw1] at hb1 hB1 hin1 hsr1
  obtain ⟨ll, hll⟩ : ∃ ll, l.length = ll := ⟨_, rfl⟩
  have HLL : Hid (l.length = ll) := hll
  rw [hll] at hl ⊢
  have HIN : Hid (PIn w1 lo n₀ p a) := hin1
  have HSR : Hid (SrIn w1 lo n₀ al l) := hsr1
  have HF : Hid (Fits p) := hf
  have HFL : Hid (∀ s ∈ l, Fits s.2) := hfl
  have HB1 : Hid (Blk w1 w.heap.size 29 #[.int .u8 p.kind, .bool p.yes, .bool p.neg, .string p.mag, .string p.raw, .slice a p.items.length c]) := hB1
  have hz1 := hb1.size
  have HW1 : Hid (Below w.heap.size w w1) := hb1
  clear hin hin1 hsr hsr1 hll hB1 hf hfl hb1
  go_enter Tryd.func7, Tryd.ntmps7
  go_upto_region 1 with fail
  (try rw [hw1])
  clear hw1
  obtain ⟨c0, c1, c2, c3, c4, c5⟩ := HB1.out.c6
  have hc := Deep_any p HF.out a c lo n₀ 0 w1 (by omega) HIN.out
  have ht2 : ∀ w2, Below w1.heap.size w1 w2 → Calls Tryd.prog 20 #[.agg #[.int .u8 p.kind, .bool p.yes, .bool p.neg, .string p.mag, .string p.raw, .slice a p.items.length c]] w2 (SomeI w2) := fun w2 h2 => weight_any p HF.out a c lo n₀ w2 (Nat.le_trans (by omega) h2.size) (HIN.out.keep h2 (by omega))
  have HT : Hid (∀ w2, Below w1.heap.size w1 w2 → Calls Tryd.prog 20 #[.agg #[.int .u8 p.kind, .bool p.yes, .bool p.neg, .string p.mag, .string p.raw, .slice a p.items.length c]] w2 (SomeI w2)) := ht2
  clear ht2
  generalize p.items.length = ln at *
  go_wp2_with fail
  refine hc.mono ?_
  clear hc c0 c1 c2 c3 c4 c5
  rintro e w2 ⟨d, rfl, hb2⟩
  have HW2 : Hid (Below w1.heap.size w1 w2) := hb2
  obtain ⟨c0, c1, c2, c3, c4, c5⟩ := (HB1.out.old hb2).c6
  have hc := HT.out w2 hb2
  clear hb2
  by_cases hd : d > 40
  · have t1 : decide (d > 40) = true := decide_eq_true hd
    clear hc
    go_wp2_with fail
    go_ret
    exact ⟨true, rfl, HW1.out.trans (HW2.out.mono hz1)⟩
  have t1 : decide (d > 40) = false := decide_eq_false hd
  go_wp2_with fail
  refine hc.mono ?_
  clear hc c0 c1 c2 c3 c4 c5
  rintro e w3 ⟨n0, rfl, hb3⟩
  have HW3 : Hid (Below w1.heap.size w1 w3) := HW2.out.trans (hb3.mono HW2.out.size)
  clear hb3 t1 hd HW2
  go_wp2_with fail
  go_loopw [5, 6] (fun nv iv wr => ∃ (j : Nat) (z : Int), j ≤ ll ∧ iv = .int .i64 (j : Int) ∧ nv = .int .i64 z ∧ Hid (Below w1.heap.size w1 wr)) (fun _ iv _ => ll - (intOf iv).toNat)
  case atStart => exact ⟨0, _, Nat.zero_le _, rfl, rfl, HW3⟩
  case round =>
    obtain ⟨j, z, hj, rfl, rfl, HB⟩ := hrel
    clear HW3
    have fin : ∀ zz : Int, True := fun _ => trivial
    by_cases hlt : j < ll
    · have t1 : decide ((j : Int) < (ll : Int)) = true := decide_eq_true (by omega)
      have t2 : decide (j < ll) = true := decide_eq_true hlt
      by_cases hz : z ≤ 16777216
      · have t3 : decide (z ≤ 16777216) = true := decide_eq_true hz
        have hjl : j < l.length := by rw [HLL.out]; exact hlt
        obtain ⟨b, off, aj, cj, ea, hbn, r0, r1, r2, r3, r4, r5, r6, hinj⟩ := HSR.out.keep HB.out (by omega) j hjl
        subst ea
        have hfj := HFL.out _ (List.getElem_mem hjl)
        have hc := Deep_any _ hfj aj cj lo n₀ 0 wr (Nat.le_trans (by omega) HB.out.size) hinj
        have HT2 : Hid (∀ w2, Below wr.heap.size wr w2 → (Calls Tryd.prog 20 #[.agg #[.int .u8 l[j].2.kind, .bool l[j].2.yes, .bool l[j].2.neg, .string l[j].2.mag, .string l[j].2.raw, .slice aj l[j].2.items.length cj]] w2 (SomeI w2))) := fun w2 h2 => weight_any _ hfj aj cj lo n₀ w2 (Nat.le_trans (by omega) (Nat.le_trans HB.out.size h2.size)) (hinj.keep h2 (Nat.le_trans (by omega) HB.out.size))
        have hji : (j : Int) < (ll : Int) := by omega
        have hbs : b < wr.heap.size := Nat.lt_of_lt_of_le hbn (Nat.le_trans (by omega) HB.out.size)
        clear hinj hfj
        generalize l[j].2 = x at *
        generalize x.items.length = xl at *
        have R : Hid (∀ w2, Below wr.heap.size wr w2 → ∀ k, w2.cell? ⟨b, k, none⟩ = wr.cell? ⟨b, k, none⟩) := fun w2 h2 k => h2.cell (p := ⟨b, k, none⟩) hbs
        clear r0
        go_wp2_with fail
        refine hc.mono ?_
        clear hc
        rintro e w4 ⟨d, rfl, hb4⟩
        have HW4 : Hid (Below w1.heap.size w1 w4) := HB.out.trans (hb4.mono HB.out.size)
        by_cases hd : d > 40
        · have t4 : decide (d > 40) = true := decide_eq_true hd
          clear r1 r2 r3 r4 r5 r6 hb4
          go_wp2_with fail
          go_ret
          exact ⟨true, rfl, HW1.out.trans (HW4.out.mono hz1)⟩
        · have t4 : decide (d > 40) = false := decide_eq_false hd
          have s1 := (R.out w4 hb4 _).trans r1
          have s2 := (R.out w4 hb4 _).trans r2
          have s3 := (R.out w4 hb4 _).trans r3
          have s4 := (R.out w4 hb4 _).trans r4
          have s5 := (R.out w4 hb4 _).trans r5
          have s6 := (R.out w4 hb4 _).trans r6
          have hc := HT2.out w4 hb4
          clear r1 r2 r3 r4 r5 r6 hb4 R HT2
          go_wp2_with fail
          refine hc.mono ?_
          clear hc s1 s2 s3 s4 s5 s6
          rintro e w5 ⟨d2, rfl, hb5⟩
          have HW5 : Hid (Below w1.heap.size w1 w5) := HW4.out.trans (hb5.mono HW4.out.size)
          clear hb5
          go_wp2_with fail
          go_roundw
          case rel => exact ⟨j + 1, _, by omega, by simp, rfl, HW5⟩
          case measure => simp only [intOf]; omega
      · have t3 : decide (z ≤ 16777216) = false := decide_eq_false hz
        have t4 : decide (z > 16777216) = true := decide_eq_true (by omega)
        go_wp2_with fail
        go_ret
        exact ⟨_, rfl, HW1.out.trans (HB.out.mono hz1)⟩
    · have t1 : decide ((j : Int) < (ll : Int)) = false := decide_eq_false (by omega)
      have t2 : decide (j < ll) = false := decide_eq_false hlt
      by_cases hz : z > 16777216
      · have t4 : decide (z > 16777216) = true := decide_eq_true hz
        go_wp2_with fail
        go_ret
        exact ⟨_, rfl, HW1.out.trans (HB.out.mono hz1)⟩
      have t4 : decide (z > 16777216) = false := decide_eq_false hz
      by_cases hl4 : (ll : Int) > 4000
      · have t5 : decide ((ll : Int) > 4000) = true := decide_eq_true hl4
        go_wp2_with fail
        go_ret
        exact ⟨_, rfl, HW1.out.trans (HB.out.mono hz1)⟩
      have t5 : decide ((ll : Int) > 4000) = false := decide_eq_false hl4
      obtain ⟨c0, c1, c2, c3, c4, c5⟩ := (HB1.out.old HB.out).c6
      have hc := HT.out wr HB.out
      go_wp2_with fail
      refine hc.mono ?_
      clear hc c0 c1 c2 c3 c4 c5
      rintro e w5 ⟨d2, rfl, hb5⟩
      have HW5 : Hid (Below w1.heap.size w1 w5) := HB.out.trans (hb5.mono HB.out.size)
      clear hb5
      go_wp2_with fail
      go_ret
      exact ⟨_, rfl, HW1.out.trans (HW5.out.mono hz1)⟩
end Go.Proofs.YtnjfkijekohdkaaDoor
