/- What dovetailkeep.Deep and law18's vast answer, exactly where vast says no (contracts; nothing is claimed here). -/
import Derived.Test.YtnjfkijekohdkaaDoorKDeq
import Derived.Test.YtnjfkijekohdkaaDoorKTup
namespace Go.Proofs.YtnjfkijekohdkaaDoor
open Go.RowKit Go.Vf

/-- What Deep answers. -/
def DeE (p : Prt) (w : World) (e : Ending) (w' : World) : Prop := ∃ d, e = .returned (.int .i64 d) ∧ (d ≤ 40 → (idep p : Int) ≤ d + 1) ∧ Below w.heap.size w w'
/-- What weight answers of a part that is not too deep. -/
def WgQ (p : Prt) (w : World) (e : Ending) (w' : World) : Prop := ∃ z : Int, e = .returned (.int .i64 z) ∧ 0 ≤ z ∧ z ≤ ((41 : Nat) : Int) * 1125899906842624 ∧ (z ≤ 16777216 → z = (w1 p : Int)) ∧ Below w.heap.size w w'
/-- What vast answers. -/
def VsE (l : List (Int × Prt)) (p : Prt) (w : World) (e : Ending) (w' : World) : Prop := ∃ z, e = .returned (.bool z) ∧ Below w.heap.size w w' ∧ (z = false → l.length ≤ 4000 ∧ idep p ≤ 41 ∧ w1 p ≤ 16777216 ∧ ∀ s ∈ l, idep s.2 ≤ 41 ∧ w1 s.2 ≤ 16777216)
/-- What has been weighed. -/
def VsJ (l : List (Int × Prt)) (p : Prt) (j : Nat) (z : Int) : Prop := (∀ i, i < j → ∀ h : i < l.length, idep l[i].2 ≤ 41) ∧ (z ≤ 16777216 → w1 p ≤ 16777216) ∧ (∀ i, i < j → ∀ h : i < l.length, z ≤ 16777216 → w1 l[i].2 ≤ 16777216)
theorem VsJ.next {l : List (Int × Prt)} {p : Prt} {j : Nat} {z d2 : Int} (h : VsJ l p j z) (hj : j < l.length) (hz : z ≤ 16777216) (hz0 : 0 ≤ z) (hd : idep l[j].2 ≤ 41) (_h0 : 0 ≤ d2) (h2 : d2 ≤ 16777216 → d2 = (w1 l[j].2 : Int)) : VsJ l p (j + 1) (z + d2) := by
  refine ⟨fun i hi hl => ?_, fun _ => h.2.1 hz, fun i hi hl hs => ?_⟩
  · rcases Nat.lt_succ_iff_lt_or_eq.1 hi with hi | rfl
    · exact h.1 i hi hl
    · exact hd
  · rcases Nat.lt_succ_iff_lt_or_eq.1 hi with hi | rfl
    · exact h.2.2 i hi hl hz
    · have := h2 (by omega)
      omega
theorem VsJ.fin {l : List (Int × Prt)} {p : Prt} {j : Nat} {z : Int} (h : VsJ l p j z) (hj : j = l.length) (hz : z ≤ 16777216) {s : Int × Prt} (hs : s ∈ l) : idep s.2 ≤ 41 ∧ w1 s.2 ≤ 16777216 := by
  obtain ⟨i, hi, rfl⟩ := List.getElem_of_mem hs
  exact ⟨h.1 i (by omega) hi, h.2.2 i (by omega) hi hz⟩
set_option maxHeartbeats 4000000 in
set_option maxRecDepth 20000 in
theorem Deep_exact (p : Prt) (hf : Fits p) (a : Option Addr) (c lo n₀ : Nat) (h : Int) (hh0 : 0 ≤ h) (hh1 : h ≤ 41) (w : World) (hn₀ : n₀ ≤ w.heap.size) (hin : PIn w lo n₀ p a) :
    Calls Tryd.prog 21 #[.agg #[.int .u8 p.kind, .bool p.yes, .bool p.neg, .string p.mag, .string p.raw, .slice a p.items.length c], .int .i64 h] w (DeE p w) := by
  have hb1 := (Below.refl w.heap.size w).alloc (Nat.le_refl _) (.cells #[.int .u8 p.kind, .bool p.yes, .bool p.neg, .string p.mag, .string p.raw, .slice a p.items.length c] 29)
  have hB1 := Blk.new w 29 #[.int .u8 p.kind, .bool p.yes, .bool p.neg, .string p.mag, .string p.raw, .slice a p.items.length c]
  have hs1 : (w.alloc (.cells #[.int .u8 p.kind, .bool p.yes, .bool p.neg, .string p.mag, .string p.raw, .slice a p.items.length c] 29)).heap.size = w.heap.size + 1 := by simp
  obtain ⟨W1, hw1⟩ : ∃ W1, w.alloc (.cells #[.int .u8 p.kind, .bool p.yes, .bool p.neg, .string p.mag, .string p.raw, .slice a p.items.length c] 29) = W1 := ⟨_, rfl⟩
  rw [hw1] at hb1 hB1 hs1
  have hb2 := hb1.alloc hb1.size (.cells #[.int .i64 0] 3)
  have hl2 := Blk.new W1 3 #[.int .i64 0]
  have hB2 := hB1.old ((Below.refl W1.heap.size W1).alloc (Nat.le_refl _) (.cells #[.int .i64 0] 3))
  rw [hs1] at hl2
  go_enter Tryd.func21, Tryd.ntmps21
  go_upto_region 1 with fail
  (try rw [hw1])
  clear hw1
  generalize hw2 : W1.alloc (.cells #[.int .i64 0] 3) = w2 at *
  have HL2 : Hid (Blk w2 (w.heap.size + 1) 3 #[.int .i64 0]) := hl2
  have HB2 : Hid (Blk w2 w.heap.size 29 #[.int .u8 p.kind, .bool p.yes, .bool p.neg, .string p.mag, .string p.raw, .slice a p.items.length c]) := hB2
  have HW2 : Hid (Below w.heap.size w w2) := hb2
  have l0 : w2.cell? ⟨w.heap.size + 1, 0, none⟩ = some (.int .i64 0) := hl2.cell 0
  have l1 := hl2.frozen 0
  have HIN : Hid (PIn w lo n₀ p a) := hin
  have HF : Hid (Fits p) := hf
  clear hl2 hB2 hb2 hB1 hb1 hin hf
  go_upto_region 2 with fail
  have HL3 : Hid (Blk (w2.setCell ⟨w.heap.size + 1, 0, none⟩ (.int .i64 16777216)) (w.heap.size + 1) 3 #[.int .i64 16777216]) := HL2.out.set 0 _
  have HB3 : Hid (Blk (w2.setCell ⟨w.heap.size + 1, 0, none⟩ (.int .i64 16777216)) w.heap.size 29 _) := HB2.out.other (p := ⟨w.heap.size + 1, 0, none⟩) (Nat.ne_of_lt (Nat.lt_succ_self _)) _
  have HW3 : Hid (Below w.heap.size w (w2.setCell ⟨w.heap.size + 1, 0, none⟩ (.int .i64 16777216))) := HW2.out.setCell (p := ⟨w.heap.size + 1, 0, none⟩) (Nat.le_succ _) _
  generalize w2.setCell ⟨w.heap.size + 1, 0, none⟩ (.int .i64 16777216) = w3 at *
  clear l0 l1 HL2 HB2 HW2
  obtain ⟨c0, c1, c2, c3, c4, c5⟩ := HB3.out.c6
  have hc := deep_exact p HF.out a c lo n₀ (w.heap.size + 1) h 16777216 w3 hh0 hh1 (by omega) HL3 (HIN.out.keep HW3.out hn₀)
  generalize p.items.length = ln at *
  go_wp2_with fail
  refine hc.mono ?_
  clear hc c0 c1 c2 c3 c4 c5
  rintro e w4 ⟨d, z4, rfl, hd0, -, hd2, -, ho⟩
  have HD2 : Hid (d ≤ 40 → (idep p : Int) ≤ d + 1) := hd2
  clear hd2
  have hz := HL3.out.lt
  have HW4 : Hid (Below w.heap.size w w4) := HW3.out.trans ((ho.below (by omega)).mono (by omega))
  clear ho
  go_wp2_with fail
  go_ret
  exact ⟨d, rfl, HD2.out, HW4⟩
set_option maxHeartbeats 4000000 in
set_option maxRecDepth 20000 in
theorem vast_exact (l : List (Int × Prt)) (p : Prt) (hl : l.length ≤ 281474976710656) (hf : Fits p) (hfl : ∀ s ∈ l, Fits s.2) (al : Option Addr) (cl : Nat) (a : Option Addr) (c lo n₀ : Nat) (w : World) (hn₀ : n₀ ≤ w.heap.size) (hin : PIn w lo n₀ p a) (hsr : SrIn w lo n₀ al l) :
    Calls Tryd.prog 7 #[.slice al l.length cl, .agg #[.int .u8 p.kind, .bool p.yes, .bool p.neg, .string p.mag, .string p.raw, .slice a p.items.length c]] w (VsE l p w) := by
  have hb1 := (Below.refl w.heap.size w).alloc (Nat.le_refl _) (.cells #[.int .u8 p.kind, .bool p.yes, .bool p.neg, .string p.mag, .string p.raw, .slice a p.items.length c] 29)
  have hB1 := Blk.new w 29 #[.int .u8 p.kind, .bool p.yes, .bool p.neg, .string p.mag, .string p.raw, .slice a p.items.length c]
  have hin1 := hin.keep hb1 hn₀
  have hsr1 := hsr.keep hb1 hn₀
  obtain ⟨W1, hw1⟩ : ∃ W1, w.alloc (.cells #[.int .u8 p.kind, .bool p.yes, .bool p.neg, .string p.mag, .string p.raw, .slice a p.items.length c] 29) = W1 := ⟨_, rfl⟩
  rw [hw1] at hb1 hB1 hin1 hsr1
  obtain ⟨ll, hll⟩ : ∃ ll, l.length = ll := ⟨_, rfl⟩
  have HLL : Hid (l.length = ll) := hll
  rw [hll] at hl ⊢
  have HIN : Hid (PIn W1 lo n₀ p a) := hin1
  have HSR : Hid (SrIn W1 lo n₀ al l) := hsr1
  have HF : Hid (Fits p) := hf
  have HFL : Hid (∀ s ∈ l, Fits s.2) := hfl
  have HB1 : Hid (Blk W1 w.heap.size 29 #[.int .u8 p.kind, .bool p.yes, .bool p.neg, .string p.mag, .string p.raw, .slice a p.items.length c]) := hB1
  have hz1 := hb1.size
  have HW1 : Hid (Below w.heap.size w W1) := hb1
  clear hin hin1 hsr hsr1 hll hB1 hf hfl hb1
  go_enter Tryd.func7, Tryd.ntmps7
  go_upto_region 1 with fail
  (try rw [hw1])
  clear hw1
  obtain ⟨c0, c1, c2, c3, c4, c5⟩ := HB1.out.c6
  have hc := Deep_exact p HF.out a c lo n₀ 0 (by omega) (by omega) W1 (by omega) HIN.out
  have ht2 : idep p ≤ 41 → ∀ w2, Below W1.heap.size W1 w2 → Calls Tryd.prog 20 #[.agg #[.int .u8 p.kind, .bool p.yes, .bool p.neg, .string p.mag, .string p.raw, .slice a p.items.length c]] w2 (WgQ p w2) := fun hd w2 h2 => weight_exact p HF.out 41 hd (by omega) a c lo n₀ w2 (Nat.le_trans (by omega) h2.size) (HIN.out.keep h2 (by omega))
  have HT : Hid (idep p ≤ 41 → ∀ w2, Below W1.heap.size W1 w2 → Calls Tryd.prog 20 #[.agg #[.int .u8 p.kind, .bool p.yes, .bool p.neg, .string p.mag, .string p.raw, .slice a p.items.length c]] w2 (WgQ p w2)) := ht2
  clear ht2
  generalize p.items.length = ln at *
  go_wp2_with fail
  refine hc.mono ?_
  clear hc c0 c1 c2 c3 c4 c5
  rintro e w2 ⟨d, rfl, hd2, hb2⟩
  have HD2 : Hid (d ≤ 40 → (idep p : Int) ≤ d + 1) := hd2
  clear hd2
  have HW2 : Hid (Below W1.heap.size W1 w2) := hb2
  obtain ⟨c0, c1, c2, c3, c4, c5⟩ := (HB1.out.old hb2).c6
  by_cases hd : d > 40
  · have t1 : decide (d > 40) = true := decide_eq_true hd
    clear hb2
    go_wp2_with fail
    go_ret
    exact ⟨true, rfl, HW1.out.trans (HW2.out.mono hz1), fun h => absurd h (by simp)⟩
  have t1 : decide (d > 40) = false := decide_eq_false hd
  have HDP : Hid (idep p ≤ 41) := by have h1 := HD2.out (by omega); show _ ≤ _; omega
  have hc := HT.out HDP.out w2 hb2
  clear hb2 HD2
  go_wp2_with fail
  refine hc.mono ?_
  clear hc c0 c1 c2 c3 c4 c5
  rintro e w3 ⟨n0, rfl, hn0, hn1, hn2, hb3⟩
  have HW3 : Hid (Below W1.heap.size W1 w3) := HW2.out.trans (hb3.mono HW2.out.size)
  have HN0 : Hid (0 ≤ n0 ∧ n0 ≤ 1152921504606846976 ∧ VsJ l p 0 n0) := ⟨hn0, Int.le_trans hn1 (by decide), fun i hi _ => absurd hi (by omega), fun h => by have := hn2 h; omega, fun i hi _ => absurd hi (by omega)⟩
  clear hb3 t1 hd HW2 hn0 hn1 hn2
  go_wp2_with fail
  go_loopw [5, 6] (fun nv iv wr => ∃ (j : Nat) (z : Int), j ≤ ll ∧ iv = .int .i64 (j : Int) ∧ nv = .int .i64 z ∧ 0 ≤ z ∧ z ≤ 1152921504606846976 ∧ Hid (VsJ l p j z) ∧ Hid (Below W1.heap.size W1 wr)) (fun _ iv _ => ll - (intOf iv).toNat)
  case atStart => exact ⟨0, n0, Nat.zero_le _, rfl, rfl, HN0.out.1, HN0.out.2.1, HN0.out.2.2, HW3⟩
  case round =>
    obtain ⟨j, z, hj, rfl, rfl, hz0, hz60, HZ, HB⟩ := hrel
    clear HW3
    by_cases hlt : j < ll
    · have t1 : decide ((j : Int) < (ll : Int)) = true := decide_eq_true (by omega)
      have t2 : decide (j < ll) = true := decide_eq_true hlt
      by_cases hz : z ≤ 16777216
      · have t3 : decide (z ≤ 16777216) = true := decide_eq_true hz
        have hjl : j < l.length := by rw [HLL.out]; exact hlt
        obtain ⟨b, off, aj, cj, ea, hbn, r0, r1, r2, r3, r4, r5, r6, hinj⟩ := HSR.out.keep HB.out (by omega) j hjl
        subst ea
        have hfj := HFL.out _ (List.getElem_mem hjl)
        have hc := Deep_exact _ hfj aj cj lo n₀ 0 (by omega) (by omega) wr (Nat.le_trans (by omega) HB.out.size) hinj
        have HT2 : Hid (idep l[j].2 ≤ 41 → ∀ w2, Below wr.heap.size wr w2 → (Calls Tryd.prog 20 #[.agg #[.int .u8 l[j].2.kind, .bool l[j].2.yes, .bool l[j].2.neg, .string l[j].2.mag, .string l[j].2.raw, .slice aj l[j].2.items.length cj]] w2 (WgQ l[j].2 w2))) := fun hd w2 h2 => weight_exact _ hfj 41 hd (by omega) aj cj lo n₀ w2 (Nat.le_trans (by omega) (Nat.le_trans HB.out.size h2.size)) (hinj.keep h2 (Nat.le_trans (by omega) HB.out.size))
        have hji : (j : Int) < (ll : Int) := by omega
        have hbs : b < wr.heap.size := Nat.lt_of_lt_of_le hbn (Nat.le_trans (by omega) HB.out.size)
        clear hinj hfj
        have HNX : Hid (∀ d2 : Int, idep l[j].2 ≤ 41 → z ≤ 16777216 → 0 ≤ d2 → (d2 ≤ 16777216 → d2 = (w1 l[j].2 : Int)) → VsJ l p (j + 1) (z + d2)) := fun d2 h1 h2 h3 h4 => HZ.out.next hjl h2 hz0 h1 h3 h4
        generalize l[j].2 = x at *
        generalize x.items.length = xl at *
        have R : Hid (∀ w2, Below wr.heap.size wr w2 → ∀ k, w2.cell? ⟨b, k, none⟩ = wr.cell? ⟨b, k, none⟩) := fun w2 h2 k => h2.cell (p := ⟨b, k, none⟩) hbs
        clear r0
        go_wp2_with fail
        refine hc.mono ?_
        clear hc
        rintro e w4 ⟨d, rfl, hd2, hb4⟩
        have HD2 : Hid (d ≤ 40 → (idep x : Int) ≤ d + 1) := hd2
        clear hd2
        have HW4 : Hid (Below W1.heap.size W1 w4) := HB.out.trans (hb4.mono HB.out.size)
        by_cases hd : d > 40
        · have t4 : decide (d > 40) = true := decide_eq_true hd
          clear r1 r2 r3 r4 r5 r6 hb4
          go_wp2_with fail
          go_ret
          exact ⟨true, rfl, HW1.out.trans (HW4.out.mono hz1), fun h => absurd h (by simp)⟩
        · have t4 : decide (d > 40) = false := decide_eq_false hd
          have s1 := (R.out w4 hb4 _).trans r1
          have s2 := (R.out w4 hb4 _).trans r2
          have s3 := (R.out w4 hb4 _).trans r3
          have s4 := (R.out w4 hb4 _).trans r4
          have s5 := (R.out w4 hb4 _).trans r5
          have s6 := (R.out w4 hb4 _).trans r6
          have HDP : Hid (idep x ≤ 41) := by have h1 := HD2.out (by omega); show _ ≤ _; omega
          have hc := HT2.out HDP.out w4 hb4
          clear r1 r2 r3 r4 r5 r6 hb4 R HT2
          go_wp2_with fail
          refine hc.mono ?_
          clear hc s1 s2 s3 s4 s5 s6
          rintro e w5 ⟨d2, rfl, hd0, hd1, hd2, hb5⟩
          have HNV : Hid (VsJ l p (j + 1) (z + d2)) := HNX.out d2 HDP.out hz hd0 hd2
          have hdb : d2 ≤ 46161896180547584 := Int.le_trans hd1 (by decide)
          clear hd1 hd2 HNX
          have HW5 : Hid (Below W1.heap.size W1 w5) := HW4.out.trans (hb5.mono HW4.out.size)
          clear hb5
          go_wp2_with fail
          go_roundw
          case rel => exact ⟨j + 1, z + d2, by omega, by simp, by go_num, by omega, by omega, HNV, HW5⟩
          case measure => simp only [intOf]; omega
      · have t3 : decide (z ≤ 16777216) = false := decide_eq_false hz
        have t4 : decide (z > 16777216) = true := decide_eq_true (by omega)
        go_wp2_with fail
        go_ret
        exact ⟨_, rfl, HW1.out.trans (HB.out.mono hz1), fun h => absurd h (by simp)⟩
    · have t1 : decide ((j : Int) < (ll : Int)) = false := decide_eq_false (by omega)
      have t2 : decide (j < ll) = false := decide_eq_false hlt
      by_cases hz : z > 16777216
      · have t4 : decide (z > 16777216) = true := decide_eq_true hz
        go_wp2_with fail
        go_ret
        exact ⟨_, rfl, HW1.out.trans (HB.out.mono hz1), fun h => absurd h (by simp)⟩
      have t4 : decide (z > 16777216) = false := decide_eq_false hz
      by_cases hl4 : (ll : Int) > 4000
      · have t5 : decide ((ll : Int) > 4000) = true := decide_eq_true hl4
        go_wp2_with fail
        go_ret
        exact ⟨_, rfl, HW1.out.trans (HB.out.mono hz1), fun h => absurd h (by simp)⟩
      have t5 : decide ((ll : Int) > 4000) = false := decide_eq_false hl4
      obtain ⟨c0, c1, c2, c3, c4, c5⟩ := (HB1.out.old HB.out).c6
      have hc := HT.out HDP.out wr HB.out
      go_wp2_with fail
      refine hc.mono ?_
      clear hc c0 c1 c2 c3 c4 c5
      rintro e w5 ⟨d2, rfl, -, -, -, hb5⟩
      have HW5 : Hid (Below W1.heap.size W1 w5) := HB.out.trans (hb5.mono HB.out.size)
      clear hb5
      go_wp2_with fail
      go_ret
      have hjl : j = l.length := by rw [HLL.out]; omega
      exact ⟨_, rfl, HW1.out.trans (HW5.out.mono hz1), fun _ => ⟨by rw [HLL.out]; omega, HDP.out, HZ.out.2.1 (by omega), fun s hs => HZ.out.fin hjl (by omega) hs⟩⟩
end Go.Proofs.YtnjfkijekohdkaaDoor
