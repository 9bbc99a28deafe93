/- What dovetailkeep's deep and Deep say of how deep a part is (contracts; nothing is claimed here). -/
import Derived.Test.YtnjfkijekohdkaaDoorJ2
import Derived.Test.YtnjfkijekohdkaaDoorKWgu
namespace Go.Proofs.YtnjfkijekohdkaaDoor
open Go.RowKit Go.Vf

theorem idepL_snoc (l : List Prt) (x : Prt) : idepL (l ++ [x]) = max (idepL l) (idep x) := by
  induction l with
  | nil => simp [idepL]
  | cons a r ih => simp only [List.cons_append, idepL, ih]; omega
/-- What deep answers. -/
def DpPostE (h : Int) (p : Prt) (L : Nat) (w : World) (e : Ending) (w' : World) : Prop := ∃ d z, e = .returned (.int .i64 d) ∧ 0 ≤ d ∧ d ≤ 82 - h ∧ (d ≤ 40 → (idep p : Int) ≤ d + 1) ∧ Blk w' L 3 #[.int .i64 z] ∧ Oth L w w'
def DpE (p : Prt) : Prop := ∀ (a : Option Addr) (c lo n₀ L : Nat) (h z : Int) (w : World), 0 ≤ h → h ≤ 41 → n₀ ≤ L → Blk w L 3 #[.int .i64 z] → PIn w lo n₀ p a →
  Calls Tryd.prog 37 #[.agg #[.int .u8 p.kind, .bool p.yes, .bool p.neg, .string p.mag, .string p.raw, .slice a p.items.length c], .int .i64 h, .pointer (some ⟨L, 0, none⟩)] w (DpPostE h p L w)
set_option maxHeartbeats 4000000 in
set_option maxRecDepth 20000 in
theorem deep_stepE (p : Prt) (hf : Fits p) (ih : ∀ x ∈ p.items, DpE x) : DpE p := by
  intro a c lo n₀ L h z w hh0 hh1 hL hBL hin
  have hl := hf.len
  have hLs : L < w.heap.size := hBL.lt
  have hb1 := (Below.refl w.heap.size w).alloc (Nat.le_refl _) (.cells #[.int .u8 p.kind, .bool p.yes, .bool p.neg, .string p.mag, .string p.raw, .slice a p.items.length c] 29)
  have hB1 := Blk.new w 29 #[.int .u8 p.kind, .bool p.yes, .bool p.neg, .string p.mag, .string p.raw, .slice a p.items.length c]
  have hin1 := hin.keep hb1 (by omega)
  have hBL1 := hBL.old hb1
  obtain ⟨W1, hw1⟩ : ∃ W1, w.alloc (.cells #[.int .u8 p.kind, .bool p.yes, .bool p.neg, .string p.mag, .string p.raw, .slice a p.items.length c] 29) = W1 := ⟨_, rfl⟩
  rw [hw1] at hb1 hB1 hin1 hBL1
  obtain ⟨ln, hln⟩ : ∃ ln, p.items.length = ln := ⟨_, rfl⟩
  have HLN : Hid (p.items.length = ln) := hln
  rw [hln] at hw1 hB1 hl ⊢
  have HIN : Hid (PIn W1 lo n₀ p a) := hin1
  have HIH : Hid (∀ x ∈ p.items, DpE x) := ih
  have HB1 : Hid (Blk W1 w.heap.size 29 #[.int .u8 p.kind, .bool p.yes, .bool p.neg, .string p.mag, .string p.raw, .slice a ln c]) := hB1
  have HBL : Hid (Blk W1 L 3 #[.int .i64 z]) := hBL1
  have HO1 : Hid (Oth L w W1) := Oth.of hb1
  have hz1 := hb1.size
  clear hin hin1 ih hln hB1 hf hBL1 hBL
  go_enter Tryd.func37, Tryd.ntmps37
  go_upto_region 1 with fail
  (try rw [hw1])
  clear hw1
  have l0 : W1.cell? ⟨L, 0, none⟩ = some (.int .i64 z) := HBL.out.cell 0
  have l1 := HBL.out.frozen 0
  go_upto_region 2 with fail
  have HL2 : Hid (Blk (W1.setCell ⟨L, 0, none⟩ (.int .i64 (wrap64 (z - 1)))) L 3 #[.int .i64 (wrap64 (z - 1))]) := HBL.out.set 0 _
  have HO2 : Hid (Oth L W1 (W1.setCell ⟨L, 0, none⟩ (.int .i64 (wrap64 (z - 1))))) := Oth.set L 0 W1 _
  generalize W1.setCell ⟨L, 0, none⟩ (.int .i64 (wrap64 (z - 1))) = w2 at *
  generalize wrap64 (z - 1) = z2 at *
  clear l0 l1
  have l0 : w2.cell? ⟨L, 0, none⟩ = some (.int .i64 z2) := HL2.out.cell 0
  by_cases hh : h > 40
  · have t1 : decide (h > 40) = true := decide_eq_true hh
    go_wp2_with fail
    go_ret
    exact ⟨41, z2, rfl, by omega, by omega, fun h => by omega, HL2, HO1.out.trans HO2.out⟩
  have t1 : decide (h > 40) = false := decide_eq_false hh
  by_cases hz2 : z2 < 0
  · have t2 : decide (z2 < 0) = true := decide_eq_true hz2
    go_wp2_with fail
    go_ret
    exact ⟨41, z2, rfl, by omega, by omega, fun h => by omega, HL2, HO1.out.trans HO2.out⟩
  have t2 : decide (z2 < 0) = false := decide_eq_false hz2
  go_wp2_with fail
  clear l0
  go_loopw [7, 8, 9] (fun nv iv dv wr => ∃ (j : Nat) (n z3 : Int), j ≤ ln ∧ iv = .int .i64 (j : Int) ∧ nv = .int .i64 n ∧ 0 ≤ n ∧ n ≤ 81 - h ∧ Hid (n ≤ 40 → (idepL (p.items.take j) : Int) ≤ n + 1) ∧ Hid (0 < j → 0 < ln) ∧ Hid (Blk wr L 3 #[.int .i64 z3]) ∧ Hid (Oth L W1 wr)) (fun _ iv _ _ => ln - (intOf iv).toNat)
  case atStart => exact ⟨0, 0, z2, Nat.zero_le _, rfl, rfl, by omega, by omega, fun _ => by simp [idepL], fun h => absurd h (by omega), HL2, HO2⟩
  case round =>
    obtain ⟨j, n, z3, hj, rfl, rfl, hn0', hn1', HNI, HJL, HL3, HO⟩ := hrel
    have hB3 := HB1.out.oth HO.out (by omega)
    have c5 : wr.cell? ⟨w.heap.size, 5, none⟩ = some (.slice a ln c) := hB3.cell 5
    have c0 : wr.cell? ⟨w.heap.size, 0, none⟩ = some (.int .u8 p.kind) := hB3.cell 0
    clear hB3
    by_cases hlt : j < ln
    · have t1 : decide ((j : Int) < (ln : Int)) = true := decide_eq_true (by omega)
      have t2 : decide (j < ln) = true := decide_eq_true hlt
      have hjl : j < p.items.length := by rw [HLN.out]; exact hlt
      obtain ⟨b, off, aj, cj, ea, _, hbn, hrow, hinj⟩ := (HIN.out.keep (HO.out.below (by omega)) hL).at hjl
      subst ea
      have hc := HIH.out _ (List.getElem_mem hjl) aj cj lo n₀ L (h + 1) z3 wr (by omega) (by omega) hL HL3 hinj
      obtain ⟨r0, r1, r2, r3, r4, r5⟩ := hrow
      have HTK : Hid (idepL (p.items.take (j + 1)) = max (idepL (p.items.take j)) (idep p.items[j])) := by show _ = _; rw [List.take_succ_eq_append_getElem hjl, idepL_snoc]
      generalize p.items[j] = x at *
      generalize x.items.length = xl at *
      have hji : (j : Int) < (ln : Int) := by omega
      clear hinj hbn hjl
      go_wp2_with fail
      refine hc.mono ?_
      clear hc r0 r1 r2 r3 r4 r5 c5 c0
      rintro e w3 ⟨d, z4, rfl, hd0, hd1, hd2, HL4, ho3⟩
      have HD2 : Hid (d ≤ 40 → (idep x : Int) ≤ d + 1) := hd2
      clear hd2
      have HO3 : Hid (Oth L W1 w3) := HO.out.trans ho3
      have HL4' : Hid (Blk w3 L 3 #[.int .i64 z4]) := HL4
      have l0 : w3.cell? ⟨L, 0, none⟩ = some (.int .i64 z4) := HL4.cell 0
      clear ho3 HO HL4
      go_upto_region 9 with fail
      have key : ∀ n2 : Int, ∃ q : Int, n2 = q := fun n2 => ⟨n2, rfl⟩
      by_cases hdn : d > n
      · have t3 : decide (d > n) = true := decide_eq_true hdn
        by_cases hz4 : z4 < 0
        · have t4 : decide (z4 < 0) = true := decide_eq_true hz4
          go_wp2_with fail
          go_ret
          exact ⟨41, z4, rfl, by omega, by omega, fun h => by omega, HL4', HO1.out.trans HO3.out⟩
        · have t4 : decide (z4 < 0) = false := decide_eq_false hz4
          go_wp2_with fail
          go_roundw
          case rel =>
            refine ⟨j + 1, d, z4, by omega, by simp, rfl, by omega, by omega, fun h => ?_, fun _ => by omega, HL4', HO3⟩
            have h1 := HNI.out (by omega)
            have h2 := HD2.out h
            rw [HTK.out]
            omega
          case measure => simp only [intOf]; omega
      · have t3 : decide (d > n) = false := decide_eq_false hdn
        by_cases hz4 : z4 < 0
        · have t4 : decide (z4 < 0) = true := decide_eq_true hz4
          go_wp2_with fail
          go_ret
          exact ⟨41, z4, rfl, by omega, by omega, fun h => by omega, HL4', HO1.out.trans HO3.out⟩
        · have t4 : decide (z4 < 0) = false := decide_eq_false hz4
          go_wp2_with fail
          go_roundw
          case rel =>
            refine ⟨j + 1, n, z4, by omega, by simp, rfl, by omega, by omega, fun h => ?_, fun _ => by omega, HL4', HO3⟩
            have h1 := HNI.out h
            have h2 := HD2.out (by omega)
            rw [HTK.out]
            omega
          case measure => simp only [intOf]; omega
    · have t1 : decide ((j : Int) < (ln : Int)) = false := decide_eq_false (by omega)
      have t2 : decide (j < ln) = false := decide_eq_false hlt
      by_cases hk : p.kind = 7
      · have t3 : decide (p.kind = 7) = true := decide_eq_true hk
        go_wp2_with fail
        go_ret
        have hid : n ≤ 40 → (idepL p.items : Int) ≤ n + 1 := fun h => by
          have h1 := HNI.out h
          rwa [List.take_of_length_le (by rw [HLN.out]; omega)] at h1
        exact ⟨n + 1, z3, by go_num, by omega, by omega, fun h => by rw [idep_eq]; have := hid (by omega); omega, HL3, HO1.out.trans HO.out⟩
      · have t3 : decide (p.kind = 7) = false := decide_eq_false hk
        by_cases hn0 : ln = 0
        · have t4 : decide ((ln : Int) > 0) = false := decide_eq_false (by omega)
          go_wp2_with fail
          go_ret
          have hid : n ≤ 40 → (idepL p.items : Int) ≤ n + 1 := fun h => by
            have h1 := HNI.out h
            rwa [List.take_of_length_le (by rw [HLN.out]; omega)] at h1
          exact ⟨n, z3, by go_num, by omega, by omega, fun h => by rw [idep_eq]; have h2 : p.items = [] := List.eq_nil_of_length_eq_zero (by rw [HLN.out]; exact hn0); rw [h2]; simp only [idepL]; omega, HL3, HO1.out.trans HO.out⟩
        · have t4 : decide ((ln : Int) > 0) = true := decide_eq_true (by omega)
          go_wp2_with fail
          go_ret
          have hid : n ≤ 40 → (idepL p.items : Int) ≤ n + 1 := fun h => by
            have h1 := HNI.out h
            rwa [List.take_of_length_le (by rw [HLN.out]; omega)] at h1
          exact ⟨n + 1, z3, by go_num, by omega, by omega, fun h => by rw [idep_eq]; have := hid (by omega); omega, HL3, HO1.out.trans HO.out⟩
theorem deep_exact : ∀ p : Prt, Fits p → DpE p := by
  intro p
  induction p using Prt.ind with
  | h k y n m r l ih => exact fun hf => deep_stepE _ hf fun x hx => ih x hx (hf.mem hx)
end Go.Proofs.YtnjfkijekohdkaaDoor
