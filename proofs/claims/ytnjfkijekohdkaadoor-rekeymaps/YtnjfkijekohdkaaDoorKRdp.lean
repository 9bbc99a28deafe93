/- What the document's Depth answers (contracts; nothing is claimed here). -/
import Derived.Test.YtnjfkijekohdkaaDoorHvy
namespace Go.Proofs.YtnjfkijekohdkaaDoor
open Go.RowKit Go.Vf

def RdpOk (p : Prt) : Prop := ∀ (a : Option Addr) (c lo n₀ : Nat) (w : World), n₀ ≤ w.heap.size → PIn w lo n₀ p a →
  Calls Tryd.prog 29 #[.agg #[.int .u8 p.kind, .bool p.yes, .bool p.neg, .string p.mag, .string p.raw, .slice a p.items.length c]] w fun e w' => e = .returned (.int .i64 (dep p : Nat)) ∧ Below w.heap.size w w'
theorem dep_eq (p : Prt) : dep p = if p.kind = 7 then depL p.items + 1 else 0 := by
  cases p with
  | mk k y n m r l => rw [dep]; rfl
set_option maxHeartbeats 4000000 in
set_option maxRecDepth 20000 in
theorem rdepth_step (p : Prt) (hf : Fits p) (hdp : dep p ≤ 1000) (ih : ∀ x ∈ p.items, dep x ≤ 1000 → RdpOk x) : RdpOk p := by
  intro a c lo n₀ w hn₀ hin
  have hl := hf.len
  have hde := dep_eq p
  have hb1 := (Below.refl w.heap.size w).alloc (Nat.le_refl _) (.cells #[.int .u8 p.kind, .bool p.yes, .bool p.neg, .string p.mag, .string p.raw, .slice a p.items.length c] 29)
  have hB1 := Blk.new w 29 #[.int .u8 p.kind, .bool p.yes, .bool p.neg, .string p.mag, .string p.raw, .slice a p.items.length c]
  have hin1 := hin.keep hb1 hn₀
  obtain ⟨w1, hw1⟩ : ∃ w1, w.alloc (.cells #[.int .u8 p.kind, .bool p.yes, .bool p.neg, .string p.mag, .string p.raw, .slice a p.items.length c] 29) = w1 := ⟨_, rfl⟩
  rw [hw1] at hb1 hB1 hin1
  obtain ⟨ln, hln⟩ : ∃ ln, p.items.length = ln := ⟨_, rfl⟩
  have HLN : Hid (p.items.length = ln) := hln
  rw [hln] at hw1 hB1 hl ⊢
  obtain ⟨dd, hdd⟩ : ∃ dd, dep p = dd := ⟨_, rfl⟩
  rw [hdd] at hde hdp ⊢
  have HDE : Hid (dd = if p.kind = 7 then depL p.items + 1 else 0) := hde
  have HIN : Hid (PIn w1 lo n₀ p a) := hin1
  have HIH : Hid (∀ x ∈ p.items, dep x ≤ 1000 → RdpOk x) := ih
  have HB1 : Hid (Blk w1 w.heap.size 29 #[.int .u8 p.kind, .bool p.yes, .bool p.neg, .string p.mag, .string p.raw, .slice a ln c]) := hB1
  have hz1 := hb1.size
  clear hin hin1 ih hln hB1 hf hde hdd
  go_enter Tryd.func29, Tryd.ntmps29
  go_upto_region 1 with fail
  (try rw [hw1])
  clear hw1
  have c0 : w1.cell? ⟨w.heap.size, 0, none⟩ = some (.int .u8 p.kind) := HB1.out.cell 0
  by_cases hk : p.kind = 7
  case neg =>
    have t1 : (p.kind == 7) = false := beq_eq_false_iff_ne.2 hk
    have t2 : (p.kind != 7) = true := by simp [bne, t1]
    have hdz : dd = 0 := by rw [HDE.out, if_neg hk]
    subst hdz
    go_wp2_with fail
    go_ret
    exact ⟨rfl, hb1⟩
  have t1 : (p.kind == 7) = true := beq_iff_eq.2 hk
  have t2 : (p.kind != 7) = false := by simp [bne, t1]
  have HDD : Hid (dd = depL p.items + 1) := by show _ = _; rw [HDE.out, if_pos hk]
  clear HDE hk
  go_wp2_with fail
  clear c0 t1 t2
  go_loopw [3, 4, 5] (fun nv iv _ wr => ∃ (j s : Nat), j ≤ ln ∧ iv = .int .i64 (j : Int) ∧ nv = .int .i64 (s : Int) ∧ s ≤ 1000 ∧ Hid (s = depL (p.items.take j)) ∧ Hid (Below w1.heap.size w1 wr)) (fun _ iv _ _ => ln - (intOf iv).toNat)
  case atStart => exact ⟨0, 0, Nat.zero_le _, rfl, rfl, by omega, by show _ = _; simp [depL], Below.refl _ _⟩
  case round =>
    obtain ⟨j, s, hj, rfl, rfl, hs, HS, HB⟩ := hrel
    have c5 : wr.cell? ⟨w.heap.size, 5, none⟩ = some (.slice a ln c) := (HB1.out.old HB.out).cell 5
    by_cases hlt : j < ln
    · have t1 : decide ((j : Int) < (ln : Int)) = true := decide_eq_true (by omega)
      have t2 : decide (j < ln) = true := decide_eq_true hlt
      have hjl : j < p.items.length := by rw [HLN.out]; exact hlt
      obtain ⟨b, off, aj, cj, ea, _, hbn, hrow, hinj⟩ := (HIN.out.keep HB.out (by omega)).at hjl
      subst ea
      have hdj : dep p.items[j] ≤ 1000 := by
        have h1 := depL_mem (List.getElem_mem hjl)
        have h2 := HDD.out
        omega
      have hc := HIH.out _ (List.getElem_mem hjl) hdj aj cj lo n₀ wr (Nat.le_trans (by omega) HB.out.size) hinj
      have HT : Hid (depL (p.items.take (j + 1)) = max s (dep p.items[j])) := by
        show _ = _
        rw [depL_take p.items j hjl, HS.out]
      obtain ⟨r0, r1, r2, r3, r4, r5⟩ := hrow
      generalize p.items[j] = x at *
      generalize x.items.length = xl at *
      generalize dep x = dx at *
      have hji : (j : Int) < (ln : Int) := by omega
      clear hinj hbn hjl HS
      go_wp2_with fail
      refine hc.mono ?_
      clear hc r0 r1 r2 r3 r4 r5 c5
      rintro _ w3 ⟨rfl, hb3⟩
      have HB3 : Hid (Below w1.heap.size w1 w3) := HB.out.trans (hb3.mono HB.out.size)
      clear hb3 HB
      by_cases hsd : s < dx
      · have t3 : decide ((dx : Int) > (s : Int)) = true := decide_eq_true (by omega)
        have t4 : decide (s < dx) = true := decide_eq_true hsd
        go_wp2_with fail
        go_roundw
        case rel => exact ⟨j + 1, dx, by omega, by simp, rfl, hdj, by show _ = _; rw [HT.out]; omega, HB3⟩
        case measure => simp only [intOf]; omega
      · have t3 : decide ((dx : Int) > (s : Int)) = false := decide_eq_false (by omega)
        have t4 : decide (s < dx) = false := decide_eq_false hsd
        go_wp2_with fail
        go_roundw
        case rel => exact ⟨j + 1, s, by omega, by simp, rfl, hs, by show _ = _; rw [HT.out]; omega, HB3⟩
        case measure => simp only [intOf]; omega
    · have t1 : decide ((j : Int) < (ln : Int)) = false := decide_eq_false (by omega)
      have t2 : decide (j < ln) = false := decide_eq_false hlt
      have hsd : dd = s + 1 := by rw [HDD.out, HS.out, List.take_of_length_le (by rw [HLN.out]; omega)]
      have hsd' : ((dd : Nat) : Int) = (s : Int) + 1 := by omega
      have HSD : Hid (((dd : Nat) : Int) = (s : Int) + 1) := hsd'
      clear hsd hsd'
      go_wp2_with fail
      go_ret
      exact ⟨by simp [HSD.out], hb1.trans (HB.out.mono hz1)⟩
theorem rdepth_any : ∀ p : Prt, Fits p → dep p ≤ 1000 → RdpOk p := by
  intro p
  induction p using Prt.ind with
  | h k y n m r l ih => exact fun hf hd => rdepth_step _ hf hd fun x hx hdx => ih x hx (hf.mem hx) hdx
end Go.Proofs.YtnjfkijekohdkaaDoor
