/- What dovetaillaw18.weight and dovetailkeep's deep and Deep answer: a number (contracts; nothing is claimed here). -/
import Derived.Test.YtnjfkijekohdkaaDoorHvy
namespace Go.Proofs.YtnjfkijekohdkaaDoor
open Go.RowKit Go.Vf

/-- A number. -/
def SomeI (w : World) (e : Ending) (w' : World) : Prop := ∃ z, e = .returned (.int .i64 z) ∧ Below w.heap.size w w'
def WgOk (p : Prt) : Prop := ∀ (a : Option Addr) (c lo n₀ : Nat) (w : World), n₀ ≤ w.heap.size → PIn w lo n₀ p a →
  Calls Tryd.prog 20 #[.agg #[.int .u8 p.kind, .bool p.yes, .bool p.neg, .string p.mag, .string p.raw, .slice a p.items.length c]] w (SomeI w)
set_option maxHeartbeats 4000000 in
set_option maxRecDepth 20000 in
theorem weight_step (p : Prt) (hf : Fits p) (ih : ∀ x ∈ p.items, WgOk x) : WgOk p := by
  intro a c lo n₀ w hn₀ hin
  have hr := hf.raw
  have hm := hf.mag
  have hl := hf.len
  have hb1 := (Below.refl w.heap.size w).alloc (Nat.le_refl _) (.cells #[.int .u8 p.kind, .bool p.yes, .bool p.neg, .string p.mag, .string p.raw, .slice a p.items.length c] 29)
  have hB1 := Blk.new w 29 #[.int .u8 p.kind, .bool p.yes, .bool p.neg, .string p.mag, .string p.raw, .slice a p.items.length c]
  have hin1 := hin.keep hb1 hn₀
  obtain ⟨w1, hw1⟩ : ∃ w1, w.alloc (.cells #[.int .u8 p.kind, .bool p.yes, .bool p.neg, .string p.mag, .string p.raw, .slice a p.items.length c] 29) = w1 := ⟨_, rfl⟩
  rw [hw1] at hb1 hB1 hin1
  obtain ⟨ln, hln⟩ : ∃ ln, p.items.length = ln := ⟨_, rfl⟩
  have HLN : Hid (p.items.length = ln) := hln
  rw [hln] at hw1 hB1 hl ⊢
  have HIN : Hid (PIn w1 lo n₀ p a) := hin1
  have HIH : Hid (∀ x ∈ p.items, WgOk x) := ih
  have HB1 : Hid (Blk w1 w.heap.size 29 #[.int .u8 p.kind, .bool p.yes, .bool p.neg, .string p.mag, .string p.raw, .slice a ln c]) := hB1
  have hz1 := hb1.size
  clear hin hin1 ih hln hB1 hf
  go_enter Tryd.func20, Tryd.ntmps20
  go_upto_region 1 with fail
  (try rw [hw1])
  clear hw1
  obtain ⟨c0, c1, c2, c3, c4, c5⟩ := HB1.out.c6
  go_wp2_with fail
  clear c0 c1 c2 c3 c4 c5
  go_loopw [3, 4] (fun nv iv wr => ∃ (j : Nat) (z : Int), j ≤ ln ∧ iv = .int .i64 (j : Int) ∧ nv = .int .i64 z ∧ Hid (Below w1.heap.size w1 wr)) (fun _ iv _ => ln - (intOf iv).toNat)
  case atStart => exact ⟨0, _, Nat.zero_le _, rfl, rfl, Below.refl _ _⟩
  case round =>
    obtain ⟨j, z, hj, rfl, rfl, HB⟩ := hrel
    have c5 : wr.cell? ⟨w.heap.size, 5, none⟩ = some (.slice a ln c) := (HB1.out.old HB.out).cell 5
    by_cases hlt : j < ln
    · have t1 : decide ((j : Int) < (ln : Int)) = true := decide_eq_true (by omega)
      have t2 : decide (j < ln) = true := decide_eq_true hlt
      by_cases hz : z ≤ 16777216
      · have t3 : decide (z ≤ 16777216) = true := decide_eq_true hz
        have hjl : j < p.items.length := by rw [HLN.out]; exact hlt
        obtain ⟨b, off, aj, cj, ea, _, hbn, hrow, hinj⟩ := (HIN.out.keep HB.out (by omega)).at hjl
        subst ea
        have hc := HIH.out _ (List.getElem_mem hjl) aj cj lo n₀ wr (Nat.le_trans (by omega) HB.out.size) hinj
        obtain ⟨r0, r1, r2, r3, r4, r5⟩ := hrow
        generalize p.items[j] = x at *
        generalize x.items.length = xl at *
        have hji : (j : Int) < (ln : Int) := by omega
        clear hz hinj hbn hjl
        go_wp2_with fail
        refine hc.mono ?_
        clear hc r0 r1 r2 r3 r4 r5 c5
        rintro e w3 ⟨d, rfl, hb3⟩
        have HB3 : Hid (Below w1.heap.size w1 w3) := HB.out.trans (hb3.mono HB.out.size)
        clear hb3 HB
        go_wp2_with fail
        go_roundw
        case rel => exact ⟨j + 1, _, by omega, by simp, rfl, HB3⟩
        case measure => simp only [intOf]; omega
      · have t3 : decide (z ≤ 16777216) = false := decide_eq_false hz
        go_wp2_with fail
        go_ret
        exact ⟨z, rfl, hb1.trans (HB.out.mono hz1)⟩
    · have t1 : decide ((j : Int) < (ln : Int)) = false := decide_eq_false (by omega)
      have t2 : decide (j < ln) = false := decide_eq_false hlt
      go_wp2_with fail
      go_ret
      exact ⟨z, rfl, hb1.trans (HB.out.mono hz1)⟩
theorem weight_any : ∀ p : Prt, Fits p → WgOk p := by
  intro p
  induction p using Prt.ind with
  | h k y n m r l ih => exact fun hf => weight_step _ hf fun x hx => ih x hx (hf.mem hx)
end Go.Proofs.YtnjfkijekohdkaaDoor
