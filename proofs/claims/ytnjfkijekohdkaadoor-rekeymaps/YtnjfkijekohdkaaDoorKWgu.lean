/- What dovetaillaw18.weight answers, exactly, of parts that are not too deep (contracts; nothing is claimed here). -/
import Derived.Test.YtnjfkijekohdkaaDoorJ2
namespace Go.Proofs.YtnjfkijekohdkaaDoor
open Go.RowKit Go.Vf

mutual
/-- How much a part weighs. -/
def w1 : Prt → Nat
  | .mk _ _ _ m r l => 1 + r.size + m.size + w1L l
def w1L : List Prt → Nat
  | [] => 0
  | x :: r => w1 x + w1L r
end
mutual
/-- How deep its items are. -/
def idep : Prt → Nat
  | .mk _ _ _ _ _ l => 1 + idepL l
def idepL : List Prt → Nat
  | [] => 0
  | x :: r => max (idep x) (idepL r)
end
theorem w1_eq (p : Prt) : w1 p = 1 + p.raw.size + p.mag.size + w1L p.items := by
  cases p with
  | mk k y b m r l => rw [w1]; rfl
theorem w1L_snoc (l : List Prt) (x : Prt) : w1L (l ++ [x]) = w1L l + w1 x := by
  induction l with
  | nil => simp [w1L]
  | cons a r ih => simp only [List.cons_append, w1L, ih]; omega
theorem idep_eq (p : Prt) : idep p = 1 + idepL p.items := by
  cases p with
  | mk k y b m r l => rw [idep]; rfl
theorem idep_pos (p : Prt) : 1 ≤ idep p := by rw [idep_eq]; omega
theorem idepL_mem {x : Prt} {l : List Prt} (h : x ∈ l) : idep x ≤ idepL l := by
  induction l with
  | nil => simp at h
  | cons a r ih =>
    rw [idepL]
    rcases List.mem_cons.1 h with rfl | h
    · omega
    · have := ih h; omega
def WgE (D : Nat) (p : Prt) : Prop := ∀ (a : Option Addr) (c lo n₀ : Nat) (w : World), n₀ ≤ w.heap.size → PIn w lo n₀ p a →
  Calls Tryd.prog 20 #[.agg #[.int .u8 p.kind, .bool p.yes, .bool p.neg, .string p.mag, .string p.raw, .slice a p.items.length c]] w fun e w' => ∃ z : Int, e = .returned (.int .i64 z) ∧ 0 ≤ z ∧ z ≤ (D : Int) * 1125899906842624 ∧ (z ≤ 16777216 → z = (w1 p : Int)) ∧ Below w.heap.size w w'
set_option maxHeartbeats 4000000 in
set_option maxRecDepth 20000 in
theorem weight_stepE (p : Prt) (hf : Fits p) (D : Nat) (hD : idep p ≤ D) (hD50 : D ≤ 60) (ih : ∀ x ∈ p.items, WgE (D - 1) x) : WgE D p := by
  intro a c lo n₀ w hn₀ hin
  have hr := hf.raw
  have hm := hf.mag
  have hl := hf.len
  have hb1 := (Below.refl w.heap.size w).alloc (Nat.le_refl _) (.cells #[.int .u8 p.kind, .bool p.yes, .bool p.neg, .string p.mag, .string p.raw, .slice a p.items.length c] 29)
  have hB1 := Blk.new w 29 #[.int .u8 p.kind, .bool p.yes, .bool p.neg, .string p.mag, .string p.raw, .slice a p.items.length c]
  have hin1 := hin.keep hb1 hn₀
  obtain ⟨W1, hw1⟩ : ∃ W1, w.alloc (.cells #[.int .u8 p.kind, .bool p.yes, .bool p.neg, .string p.mag, .string p.raw, .slice a p.items.length c] 29) = W1 := ⟨_, rfl⟩
  rw [hw1] at hb1 hB1 hin1
  obtain ⟨ln, hln⟩ : ∃ ln, p.items.length = ln := ⟨_, rfl⟩
  have HLN : Hid (p.items.length = ln) := hln
  rw [hln] at hw1 hB1 hl ⊢
  have HIN : Hid (PIn W1 lo n₀ p a) := hin1
  have HIH : Hid (∀ x ∈ p.items, WgE (D - 1) x) := ih
  have HB1 : Hid (Blk W1 w.heap.size 29 #[.int .u8 p.kind, .bool p.yes, .bool p.neg, .string p.mag, .string p.raw, .slice a ln c]) := hB1
  have hz1 := hb1.size
  have hD1 : 1 ≤ D := Nat.le_trans (idep_pos p) hD
  have HDD : Hid (1 ≤ D) := hD1
  have hq : w1 p = 1 + p.raw.size + p.mag.size + w1L p.items := w1_eq p
  have HW1 : Hid (w1 p = 1 + p.raw.size + p.mag.size + w1L p.items) := hq
  obtain ⟨OW, hOW⟩ : ∃ OW : Nat, OW = 1 + p.raw.size + p.mag.size := ⟨_, rfl⟩
  have HOW : Hid (OW = 1 + p.raw.size + p.mag.size) := hOW
  have hOWb : OW ≤ 562949953421313 := by omega
  have HOB : Hid (OW ≤ 562949953421313) := hOWb
  clear hq hOW hOWb hD hD1
  clear hin hin1 ih hln hB1 hf
  go_enter Tryd.func20, Tryd.ntmps20
  go_upto_region 1 with fail
  (try rw [hw1])
  clear hw1
  obtain ⟨c0, c1, c2, c3, c4, c5⟩ := HB1.out.c6
  go_wp2_with fail
  clear c0 c1 c2 c3 c4 c5
  go_loopw [3, 4] (fun nv iv wr => ∃ (j : Nat) (z : Int), j ≤ ln ∧ iv = .int .i64 (j : Int) ∧ nv = .int .i64 z ∧ 0 ≤ z ∧ z ≤ 67553994410557440 ∧ Hid (z ≤ (D : Int) * 1125899906842624) ∧ Hid (z ≤ 16777216 → z = ((OW + w1L (p.items.take j) : Nat) : Int)) ∧ Hid (Below W1.heap.size W1 wr)) (fun _ iv _ => ln - (intOf iv).toNat)
  case atStart =>
    have h1 := HOB.out
    have h2 := HOW.out
    have h3 := HDD.out
    exact ⟨0, ((OW : Nat) : Int), Nat.zero_le _, rfl, by rw [h2]; go_num, by omega, by omega, by show _ ≤ _; omega, fun _ => by simp [w1L], Below.refl _ _⟩
  case round =>
    obtain ⟨j, z, hj, rfl, rfl, hz0, hz62, HZD, HZE, HB⟩ := hrel
    have c5 : wr.cell? ⟨w.heap.size, 5, none⟩ = some (.slice a ln c) := (HB1.out.old HB.out).cell 5
    by_cases hlt : j < ln
    · have t1 : decide ((j : Int) < (ln : Int)) = true := decide_eq_true (by omega)
      have t2 : decide (j < ln) = true := decide_eq_true hlt
      by_cases hz : z ≤ 16777216
      · have t3 : decide (z ≤ 16777216) = true := decide_eq_true hz
        have hjl : j < p.items.length := by rw [HLN.out]; exact hlt
        obtain ⟨b, off, aj, cj, ea, _, hbn, hrow, hinj⟩ := (HIN.out.keep HB.out (by omega)).at hjl
        subst ea
        have hc := HIH.out _ (List.getElem_mem hjl) aj cj lo n₀ wr (Nat.le_trans (by omega) HB.out.size) hinj
        obtain ⟨r0, r1, r2, r3, r4, r5⟩ := hrow
        have HTK : Hid (w1L (p.items.take (j + 1)) = w1L (p.items.take j) + w1 p.items[j]) := by show _ = _; rw [List.take_succ_eq_append_getElem hjl, w1L_snoc]
        generalize p.items[j] = x at *
        generalize x.items.length = xl at *
        have hji : (j : Int) < (ln : Int) := by omega
        have HZM : Hid (z ≤ 16777216) := hz
        clear hinj hbn hjl
        go_wp2_with fail
        refine hc.mono ?_
        clear hc r0 r1 r2 r3 r4 r5 c5
        rintro e w3 ⟨d, rfl, hd0, hd1, hd2, hb3⟩
        have HB3 : Hid (Below W1.heap.size W1 w3) := HB.out.trans (hb3.mono HB.out.size)
        have hdb : d ≤ 66428094503714816 := by have := HDD.out; omega
        have HNZ : Hid (z + d ≤ (D : Int) * 1125899906842624) := by have := HDD.out; have := HZM.out; show _ ≤ _; omega
        have HNE : Hid (z + d ≤ 16777216 → z + d = ((OW + w1L (p.items.take (j + 1)) : Nat) : Int)) := fun h => by
          have h1 := HZE.out HZM.out
          have h2 := hd2 (by omega)
          rw [HTK.out]
          omega
        clear hb3 HB hd2 hd1 HZE HZD
        go_wp2_with fail
        go_roundw
        case rel => exact ⟨j + 1, z + d, by omega, by simp, by go_num, by omega, by have := HNZ.out; omega, HNZ, HNE, HB3⟩
        case measure => simp only [intOf]; omega
      · have t3 : decide (z ≤ 16777216) = false := decide_eq_false hz
        go_wp2_with fail
        go_ret
        exact ⟨z, rfl, hz0, HZD.out, fun h => absurd h (by omega), hb1.trans (HB.out.mono hz1)⟩
    · have t1 : decide ((j : Int) < (ln : Int)) = false := decide_eq_false (by omega)
      have t2 : decide (j < ln) = false := decide_eq_false hlt
      go_wp2_with fail
      go_ret
      refine ⟨z, rfl, hz0, HZD.out, fun h => ?_, hb1.trans (HB.out.mono hz1)⟩
      have h1 := HZE.out h
      rw [List.take_of_length_le (by rw [HLN.out]; omega)] at h1
      rw [h1, HW1.out, ← HOW.out]
theorem weight_exact : ∀ p : Prt, Fits p → ∀ D, idep p ≤ D → D ≤ 60 → WgE D p := by
  intro p
  induction p using Prt.ind with
  | h k y n m r l ih =>
    intro hf D hD h60
    refine weight_stepE _ hf D hD h60 fun x hx => ih x hx (hf.mem hx) (D - 1) ?_ (by omega)
    have h1 := idepL_mem hx
    rw [idep_eq] at hD
    omega
end Go.Proofs.YtnjfkijekohdkaaDoor
