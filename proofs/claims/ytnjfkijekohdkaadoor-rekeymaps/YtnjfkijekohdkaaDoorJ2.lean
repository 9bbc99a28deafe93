/- Contracts and lemmas (nothing is claimed here). -/
import Derived.Test.YtnjfkijekohdkaaDoorHvy
namespace Go.Proofs.YtnjfkijekohdkaaDoor
open Go.RowKit Go.Vf

/-- A number. -/
def SomeI (w : World) (e : Ending) (w' : World) : Prop := ∃ z, e = .returned (.int .i64 z) ∧ Below w.heap.size w w'
def WgOk (p : Prt) : Prop := ∀ (a : Option Addr) (c lo n₀ : Nat) (w : World), n₀ ≤ w.heap.size → PIn w lo n₀ p a →
  Calls Tryd.prog 20 #[.agg #[.int .u8 p.kind, .bool p.yes, .bool p.neg, .string p.mag, .string p.raw, .slice a p.items.length c]] w (SomeI w)
set_option maxHeartbeats 4000000 in
set_option maxRecDepth 20000 in
theorem weight_step (p : Prt) (hf : Fits p) (ih : ∀ x ∈ p.items, WgOk x) : WgOk p := by
  intro a c lo n₀ w hn₀ hin
  have hr := hf.raw
  have hm := hf.mag
  have hl := hf.len
  have hb1 := (Below.refl w.heap.size w).alloc (Nat.le_refl _) (.cells #[.int .u8 p.kind, .bool p.yes, .bool p.neg, .string p.mag, .string p.raw, .slice a p.items.length c] 29)
  have hB1 := Blk.new w 29 #[.int .u8 p.kind, .bool p.yes, .bool p.neg, .string p.mag, .string p.raw, .slice a p.items.length c]
  have hin1 := hin.keep hb1 hn₀
  obtain ⟨w1, hw1⟩ : ∃ w1, w.alloc (.cells #[.int .u8 p.kind, .bool p.yes, .bool p.neg, .string p.mag, .string p.raw, .slice a p.items.length c] 29) = w1 := ⟨_, rfl⟩
  rw [hw1] at hb1 hB1 hin1
  obtain ⟨ln, hln⟩ : ∃ ln, p.items.length = ln := ⟨_, rfl⟩
  have HLN : Hid (p.items.length = ln) := hln
  rw [hln] at hw1 hB1 hl ⊢
  have HIN : Hid (PIn w1 lo n₀ p a) := hin1
  have HIH : Hid (∀ x ∈ p.items, WgOk x) := ih
  have HB1 : Hid (Blk w1 w.heap.size 29 #[.int .u8 p.kind, .bool p.yes, .bool p.neg, .string p.mag, .string p.raw, .slice a ln c]) := hB1
  have hz1 := hb1.size
  clear hin hin1 ih hln hB1 hf
  go_enter Tryd.func20, Tryd.ntmps20
  go_upto_region 1 with fail
  (try rw [hw1])
  clear hw1
  obtain ⟨c0, c1, c2, c3, c4, c5⟩ := HB1.out.c6
  go_wp2_with fail
  clear c0 c1 c2 c3 c4 c5
  go_loopw [3, 4] (fun nv iv wr => ∃ (j : Nat) (z : Int), j ≤ ln ∧ iv = .int .i64 (j : Int) ∧ nv = .int .i64 z ∧ Hid (Below w1.heap.size w1 wr)) (fun _ iv _ => ln - (intOf iv).toNat)
  case atStart => exact ⟨0, _, Nat.zero_le _, rfl, rfl, Below.refl _ _⟩
  case round =>
    obtain ⟨j, z, hj, rfl, rfl, HB⟩ := hrel
    have c5 : wr.cell? ⟨w.heap.size, 5, none⟩ = some (.slice a ln c) := (HB1.out.old HB.out).cell 5
    by_cases hlt : j < ln
    · have t1 : decide ((j : Int) < (ln : Int)) = true := decide_eq_true (by omega)
      have t2 : decide (j < ln) = true := decide_eq_true hlt
      by_cases hz : z ≤ 16777216
      · have t3 : decide (z ≤ 16777216) = true := decide_eq_true hz
        have hjl : j < p.items.length := by rw [HLN.out]; exact hlt
        obtain ⟨b, off, aj, cj, ea, _, hbn, hrow, hinj⟩ := (HIN.out.keep HB.out (by omega)).at hjl
        subst ea
        have hc := HIH.out _ (List.getElem_mem hjl) aj cj lo n₀ wr (Nat.le_trans (by omega) HB.out.size) hinj
        obtain ⟨r0, r1, r2, r3, r4, r5⟩ := hrow
        generalize p.items[j] = x at *
        generalize x.items.length = xl at *
        have hji : (j : Int) < (ln : Int) := by omega
        clear hz hinj hbn hjl
        go_wp2_with fail
        refine hc.mono ?_
        clear hc r0 r1 r2 r3 r4 r5 c5
        rintro e w3 ⟨d, rfl, hb3⟩
        have HB3 : Hid (Below w1.heap.size w1 w3) := HB.out.trans (hb3.mono HB.out.size)
        clear hb3 HB
        go_wp2_with fail
        go_roundw
        case rel => exact ⟨j + 1, _, by omega, by simp, rfl, HB3⟩
        case measure => simp only [intOf]; omega
      · have t3 : decide (z ≤ 16777216) = false := decide_eq_false hz
        go_wp2_with fail
        go_ret
        exact ⟨z, rfl, hb1.trans (HB.out.mono hz1)⟩
    · have t1 : decide ((j : Int) < (ln : Int)) = false := decide_eq_false (by omega)
      have t2 : decide (j < ln) = false := decide_eq_false hlt
      go_wp2_with fail
      go_ret
      exact ⟨z, rfl, hb1.trans (HB.out.mono hz1)⟩
theorem weight_any : ∀ p : Prt, Fits p → WgOk p := by
  intro p
  induction p using Prt.ind with
  | h k y n m r l ih => exact fun hf => weight_step _ hf fun x hx => ih x hx (hf.mem hx)
end Go.Proofs.YtnjfkijekohdkaaDoor

namespace Go.Proofs.YtnjfkijekohdkaaDoor
open Go.RowKit Go.Vf

/-- All but one block stays. -/
structure Oth (B : Nat) (w w' : World) : Prop where
  os : w'.os = w.os
  tape : w'.tape = w.tape
  output : w'.output = w.output
  size : w.heap.size ≤ w'.heap.size
  block : ∀ k, k < w.heap.size → k ≠ B → w'.heap[k]? = w.heap[k]?
theorem Oth.refl (B : Nat) (w : World) : Oth B w w := ⟨rfl, rfl, rfl, Nat.le_refl _, fun _ _ _ => rfl⟩
theorem Oth.trans {B : Nat} {a b c : World} (h : Oth B a b) (k : Oth B b c) : Oth B a c :=
  ⟨k.os.trans h.os, k.tape.trans h.tape, k.output.trans h.output, Nat.le_trans h.size k.size, fun i hi hB => (k.block i (Nat.lt_of_lt_of_le hi h.size) hB).trans (h.block i hi hB)⟩
theorem Oth.of {B : Nat} {w w' : World} (h : Below w.heap.size w w') : Oth B w w' := ⟨h.os, h.tape, h.output, h.size, fun k hk _ => h.block k hk⟩
theorem Oth.set (B j : Nat) (w : World) (v : Value) : Oth B w (w.setCell ⟨B, j, none⟩ v) := by
  have h := (Below.refl 0 w).setCell (p := ⟨B, j, none⟩) (Nat.zero_le _) v
  exact ⟨h.os, h.tape, h.output, h.size, fun k _ hB => Below.heap_setCell w ⟨B, j, none⟩ v k hB⟩
theorem Oth.below {B : Nat} {w w' : World} (h : Oth B w w') (hB : B ≤ w.heap.size) : Below B w w' := ⟨h.os, h.tape, h.output, h.size, fun k hk => h.block k (by omega) (by omega)⟩
theorem Blk.oth {w w' : World} {B b : Nat} {t : TypeId} {cs : Array Value} (h : Blk w b t cs) (hb : Oth B w w') (hn : b ≠ B) : Blk w' b t cs := (hb.block b h.lt hn).trans h
/-- What deep answers. -/
def DpPost (L : Nat) (w : World) (e : Ending) (w' : World) : Prop := ∃ d z, e = .returned (.int .i64 d) ∧ Blk w' L 3 #[.int .i64 z] ∧ Oth L w w'
def DpOk (p : Prt) : Prop := ∀ (a : Option Addr) (c lo n₀ L : Nat) (h z : Int) (w : World), n₀ ≤ L → Blk w L 3 #[.int .i64 z] → PIn w lo n₀ p a →
  Calls Tryd.prog 37 #[.agg #[.int .u8 p.kind, .bool p.yes, .bool p.neg, .string p.mag, .string p.raw, .slice a p.items.length c], .int .i64 h, .pointer (some ⟨L, 0, none⟩)] w (DpPost L w)
set_option maxHeartbeats 4000000 in
set_option maxRecDepth 20000 in
theorem deep_step (p : Prt) (hf : Fits p) (ih : ∀ x ∈ p.items, DpOk x) : DpOk p := by
  intro a c lo n₀ L h z w hL hBL hin
  have hl := hf.len
  have hLs : L < w.heap.size := hBL.lt
  have hb1 := (Below.refl w.heap.size w).alloc (Nat.le_refl _) (.cells #[.int .u8 p.kind, .bool p.yes, .bool p.neg, .string p.mag, .string p.raw, .slice a p.items.length c] 29)
  have hB1 := Blk.new w 29 #[.int .u8 p.kind, .bool p.yes, .bool p.neg, .string p.mag, .string p.raw, .slice a p.items.length c]
  have hin1 := hin.keep hb1 (by omega)
  have hBL1 := hBL.old hb1
  obtain ⟨w1, hw1⟩ : ∃ w1, w.alloc (.cells #[.int .u8 p.kind, .bool p.yes, .bool p.neg, .string p.mag, .string p.raw, .slice a p.items.length c] 29) = w1 := ⟨_, rfl⟩
  rw [hw1] at hb1 hB1 hin1 hBL1
  obtain ⟨ln, hln⟩ : ∃ ln, p.items.length = ln := ⟨_, rfl⟩
  have HLN : Hid (p.items.length = ln) := hln
  rw [hln] at hw1 hB1 hl ⊢
  have HIN : Hid (PIn w1 lo n₀ p a) := hin1
  have HIH : Hid (∀ x ∈ p.items, DpOk x) := ih
  have HB1 : Hid (Blk w1 w.heap.size 29 #[.int .u8 p.kind, .bool p.yes, .bool p.neg, .string p.mag, .string p.raw, .slice a ln c]) := hB1
  have HBL : Hid (Blk w1 L 3 #[.int .i64 z]) := hBL1
  have HO1 : Hid (Oth L w w1) := Oth.of hb1
  have hz1 := hb1.size
  clear hin hin1 ih hln hB1 hf hBL1 hBL
  go_enter Tryd.func37, Tryd.ntmps37
  go_upto_region 1 with fail
  (try rw [hw1])
  clear hw1
  have l0 : w1.cell? ⟨L, 0, none⟩ = some (.int .i64 z) := HBL.out.cell 0
  have l1 := HBL.out.frozen 0
  go_upto_region 2 with fail
  have HL2 : Hid (Blk (w1.setCell ⟨L, 0, none⟩ (.int .i64 (wrap64 (z - 1)))) L 3 #[.int .i64 (wrap64 (z - 1))]) := HBL.out.set 0 _
  have HO2 : Hid (Oth L w1 (w1.setCell ⟨L, 0, none⟩ (.int .i64 (wrap64 (z - 1))))) := Oth.set L 0 w1 _
  generalize w1.setCell ⟨L, 0, none⟩ (.int .i64 (wrap64 (z - 1))) = w2 at *
  generalize wrap64 (z - 1) = z2 at *
  clear l0 l1
  have l0 : w2.cell? ⟨L, 0, none⟩ = some (.int .i64 z2) := HL2.out.cell 0
  by_cases hh : h > 40
  · have t1 : decide (h > 40) = true := decide_eq_true hh
    go_wp2_with fail
    go_ret
    exact ⟨41, z2, rfl, HL2, HO1.out.trans HO2.out⟩
  have t1 : decide (h > 40) = false := decide_eq_false hh
  by_cases hz2 : z2 < 0
  · have t2 : decide (z2 < 0) = true := decide_eq_true hz2
    go_wp2_with fail
    go_ret
    exact ⟨41, z2, rfl, HL2, HO1.out.trans HO2.out⟩
  have t2 : decide (z2 < 0) = false := decide_eq_false hz2
  go_wp2_with fail
  clear l0
  go_loopw [7, 8, 9] (fun nv iv dv wr => ∃ (j : Nat) (n z3 : Int), j ≤ ln ∧ iv = .int .i64 (j : Int) ∧ nv = .int .i64 n ∧ Hid (Blk wr L 3 #[.int .i64 z3]) ∧ Hid (Oth L w1 wr)) (fun _ iv _ _ => ln - (intOf iv).toNat)
  case atStart => exact ⟨0, _, z2, Nat.zero_le _, rfl, rfl, HL2, HO2⟩
  case round =>
    obtain ⟨j, n, z3, hj, rfl, rfl, HL3, HO⟩ := hrel
    have hB3 := HB1.out.oth HO.out (by omega)
    have c5 : wr.cell? ⟨w.heap.size, 5, none⟩ = some (.slice a ln c) := hB3.cell 5
    have c0 : wr.cell? ⟨w.heap.size, 0, none⟩ = some (.int .u8 p.kind) := hB3.cell 0
    clear hB3
    by_cases hlt : j < ln
    · have t1 : decide ((j : Int) < (ln : Int)) = true := decide_eq_true (by omega)
      have t2 : decide (j < ln) = true := decide_eq_true hlt
      have hjl : j < p.items.length := by rw [HLN.out]; exact hlt
      obtain ⟨b, off, aj, cj, ea, _, hbn, hrow, hinj⟩ := (HIN.out.keep (HO.out.below (by omega)) hL).at hjl
      subst ea
      have hc := HIH.out _ (List.getElem_mem hjl) aj cj lo n₀ L (wrap64 (h + 1)) z3 wr hL HL3 hinj
      obtain ⟨r0, r1, r2, r3, r4, r5⟩ := hrow
      generalize p.items[j] = x at *
      generalize x.items.length = xl at *
      have hji : (j : Int) < (ln : Int) := by omega
      clear hinj hbn hjl
      go_wp2_with fail
      refine hc.mono ?_
      clear hc r0 r1 r2 r3 r4 r5 c5 c0
      rintro e w3 ⟨d, z4, rfl, HL4, ho3⟩
      have HO3 : Hid (Oth L w1 w3) := HO.out.trans ho3
      have HL4' : Hid (Blk w3 L 3 #[.int .i64 z4]) := HL4
      have l0 : w3.cell? ⟨L, 0, none⟩ = some (.int .i64 z4) := HL4.cell 0
      clear ho3 HO HL4
      go_upto_region 9 with fail
      have key : ∀ n2 : Int, ∃ q : Int, n2 = q := fun n2 => ⟨n2, rfl⟩
      by_cases hdn : d > n
      · have t3 : decide (d > n) = true := decide_eq_true hdn
        by_cases hz4 : z4 < 0
        · have t4 : decide (z4 < 0) = true := decide_eq_true hz4
          go_wp2_with fail
          go_ret
          exact ⟨41, z4, rfl, HL4', HO1.out.trans HO3.out⟩
        · have t4 : decide (z4 < 0) = false := decide_eq_false hz4
          go_wp2_with fail
          go_roundw
          case rel => exact ⟨j + 1, _, z4, by omega, by simp, rfl, HL4', HO3⟩
          case measure => simp only [intOf]; omega
      · have t3 : decide (d > n) = false := decide_eq_false hdn
        by_cases hz4 : z4 < 0
        · have t4 : decide (z4 < 0) = true := decide_eq_true hz4
          go_wp2_with fail
          go_ret
          exact ⟨41, z4, rfl, HL4', HO1.out.trans HO3.out⟩
        · have t4 : decide (z4 < 0) = false := decide_eq_false hz4
          go_wp2_with fail
          go_roundw
          case rel => exact ⟨j + 1, _, z4, by omega, by simp, rfl, HL4', HO3⟩
          case measure => simp only [intOf]; omega
    · have t1 : decide ((j : Int) < (ln : Int)) = false := decide_eq_false (by omega)
      have t2 : decide (j < ln) = false := decide_eq_false hlt
      by_cases hk : p.kind = 7
      · have t3 : decide (p.kind = 7) = true := decide_eq_true hk
        go_wp2_with fail
        go_ret
        exact ⟨_, z3, rfl, HL3, HO1.out.trans HO.out⟩
      · have t3 : decide (p.kind = 7) = false := decide_eq_false hk
        by_cases hn0 : ln = 0
        · have t4 : decide ((ln : Int) > 0) = false := decide_eq_false (by omega)
          go_wp2_with fail
          go_ret
          exact ⟨_, z3, rfl, HL3, HO1.out.trans HO.out⟩
        · have t4 : decide ((ln : Int) > 0) = true := decide_eq_true (by omega)
          go_wp2_with fail
          go_ret
          exact ⟨_, z3, rfl, HL3, HO1.out.trans HO.out⟩
theorem deep_any : ∀ p : Prt, Fits p → DpOk p := by
  intro p
  induction p using Prt.ind with
  | h k y n m r l ih => exact fun hf => deep_step _ hf fun x hx => ih x hx (hf.mem hx)
end Go.Proofs.YtnjfkijekohdkaaDoor
