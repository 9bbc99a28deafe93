/- Where the items of a tuple lie that is made of another one's (contracts; nothing is claimed here). -/
import Derived.Test.YtnjfkijekohdkaaDoorKTua
namespace Go.Proofs.YtnjfkijekohdkaaDoor
open Go.RowKit Go.Vf

structure SofarT (T : Nat → Prop) (w : World) (R j : Nat) (cs : Array Value) (qs : List Prt) (n : Nat) : Prop where
  blk : Blk w R 32 cs
  size : cs.size = n
  vals : ∀ i (hi : i < qs.length) (hc : i < cs.size), i < j → VAt w (fun b => (b ≠ R ∧ b < w.heap.size) ∧ T b) cs[i] qs[i]
/-- As TfPost; the tuple lies in blocks of T. -/
def TfPostT (T : Nat → Prop) (n k0 : Nat) (qs : List Prt) (why : Int) (w : World) (e : Ending) (w' : World) : Prop := Below w.heap.size w w' ∧
  ((k0 = n ∧ ∃ g', e = .returned (.tuple #[.iface 83 (.pointer (some ⟨g', 0, none⟩)), .nilIface]) ∧ VAt w' (fun b => b < w'.heap.size ∧ T b) (.iface 83 (.pointer (some ⟨g', 0, none⟩))) (tupP qs)) ∨
   (k0 < n ∧ ∃ v, e = .returned (.tuple #[.nilIface, v]) ∧ FaultK w' w.heap.size v 180 k0 (whyV why)))
theorem item_okT (T : Nat → Prop) {vlo vn : Nat} {w : World} {n₀ R : Nat} {its : List Prt} {g : Nat} (hn₀ : n₀ ≤ w.heap.size) (hR : R < w.heap.size) (hRn : n₀ ≤ R) (hvn : vn ≤ n₀) (hT1 : ∀ b, vlo ≤ b → b < vn → T b) (hT2 : ∀ b, w.heap.size ≤ b → T b) (hv : VIn w vlo vn (.iface 83 (.pointer (some ⟨g, 0, none⟩))) (tupP its)) (hil : its.length ≤ 281474976710656) (f : Int) (p : Prt) (hf : Fits p) (a : Option Addr) (c lo : Nat) (hin : PIn w lo n₀ p a) {q : Prt} (hq : srcR its (f, p) = some q) :
    Calls Tryd.prog 43 #[.agg #[.int .i64 f, .int .u8 p.kind, .bool p.yes, .bool p.neg, .string p.mag, .string p.raw, .slice a p.items.length c], .iface 83 (.pointer (some ⟨g, 0, none⟩))] w fun e w' => ∃ v, e = .returned (.tuple #[v, .nilIface]) ∧ Below w.heap.size w w' ∧ VAt w' (fun b => (b ≠ R ∧ b < w'.heap.size) ∧ T b) v q := by
  unfold srcR at hq
  simp only at hq
  by_cases h0 : f < 0
  · rw [if_pos h0] at hq
    split at hq
    · rename_i hw
      cases hq
      refine (itemOf_own f h0 p hf a c lo n₀ w hn₀ hin _).mono ?_
      rintro e w' ⟨hb, ⟨_, v, rfl, hv'⟩ | ⟨hne, _⟩⟩
      · exact ⟨v, rfl, hb, VAt.of hv' fun b h1 h2 => ⟨⟨by omega, h2⟩, hT2 b h1⟩⟩
      · exact absurd hw hne
    · cases hq
  · rw [if_neg h0] at hq
    obtain ⟨hk, rfl⟩ := List.getElem?_eq_some_iff.1 hq
    obtain ⟨k, rfl⟩ : ∃ k : Nat, f = (k : Int) := ⟨f.toNat, by omega⟩
    simp only [Int.toNat_natCast] at hk ⊢
    cases hv with
    | tup V h1 h2 h3 h4 h5 =>
      obtain ⟨h, off, rfl, _, hlt, hcell⟩ := h4 k hk
      refine (itemOf_old k p a c g h off its.length _ (V k) w hk hil (h3.cell 0) hcell).mono ?_
      rintro e w' ⟨rfl, hb⟩
      have h6 := (h5 k hk).keep (w' := w') fun b _ hb2 => hb.block b (by omega)
      exact ⟨_, rfl, hb, VAt.of h6 fun b hb1 hb2 => ⟨⟨by omega, by have := hb.size; omega⟩, hT1 b hb1 hb2⟩⟩
set_option maxHeartbeats 4000000 in
set_option maxRecDepth 20000 in
theorem tupleFrom_T (T : Nat → Prop) (vlo vn : Nat) (hT1 : ∀ b, vlo ≤ b → b < vn → T b) (l : List (Int × Prt)) (its qs : List Prt) (hl : l.length ≤ 1024) (k0 : Nat) (hk0 : k0 ≤ l.length) (hlq : qs.length = k0) (hsr : ∀ j (hj : j < k0), srcR its (l[j]'(by omega)) = some (qs[j]'(by omega))) (hend : ∀ h : k0 < l.length, srcR its l[k0] = none) (hfit : ∀ s ∈ l, Fits s.2) (hdq : k0 = l.length → depL qs + 1 ≤ 16) (hil : its.length ≤ 281474976710656) (g : Nat) (a : Option Addr) (c lo n₀ : Nat) (en : Addr) (w : World) (hE : EnvK w en) (hvn : vn ≤ n₀) (hT2 : ∀ b, w.heap.size ≤ b → T b) (hn₀ : n₀ ≤ w.heap.size) (hin : SrIn w lo n₀ a l) (hv : VIn w vlo vn (.iface 83 (.pointer (some ⟨g, 0, none⟩))) (tupP its)) :
    Calls Tryd.prog 31 #[.slice a l.length c, .iface 83 (.pointer (some ⟨g, 0, none⟩))] w (TfPostT T l.length k0 qs (whyAt l k0) w) := by
  obtain ⟨n, hn⟩ : ∃ n, l.length = n := ⟨_, rfl⟩
  have HN : Hid (l.length = n) := hn
  have HLQ : Hid (qs.length = k0) := hlq
  have HSR : Hid (∀ j (hj : j < l.length) (hq : j < qs.length), srcR its l[j] = some qs[j]) := fun j hj hq => hsr j (by omega)
  have HEND : Hid (∀ h : k0 < l.length, srcR its l[k0] = none) := hend
  have HDQ : Hid (k0 = l.length → depL qs + 1 ≤ 16) := hdq
  have HE : Hid (EnvK w en) := hE
  have h2w := hE.two
  obtain ⟨WY, hWY⟩ : ∃ WY, whyAt l k0 = WY := ⟨_, rfl⟩
  have HWY : Hid (whyAt l k0 = WY) := hWY
  rw [hWY]
  have HIN : Hid (SrIn w lo n₀ a l) := hin
  have HV : Hid (VIn w vlo vn (.iface 83 (.pointer (some ⟨g, 0, none⟩))) (tupP its)) := hv
  have HFIT : Hid (∀ s ∈ l, Fits s.2) := hfit
  rw [hn] at hl hk0 ⊢
  have hmk : ∀ w : World, (Instr.makeSlice 82 (.int .i64 (n : Int)) (.int .i64 (n : Int))).run Tryd.prog w = .ok (.slice (some ⟨w.heap.size, 0, none⟩) n n) (w.alloc (.cells (madeCells #[.nilIface] n) 32)) := fun w =>
    run_make_row' (P := Tryd.prog) 82 32 .nilIface 16 Tryd.underlying82 info31 rfl .i64 .i64 n (by omega) (by omega) w
  have hb1 := (Below.refl w.heap.size w).alloc (Nat.le_refl _) (.cells (madeCells #[.nilIface] n) 32)
  have hB1 := Blk.new w 32 (madeCells #[.nilIface] n)
  have hs1 := alloc_size w (.cells (madeCells #[.nilIface] n) 32)
  clear hn hlq hsr hin hv hfit hend hdq hE hWY
  go_enter Tryd.func31, Tryd.ntmps31
  go_upto_region 2 with fail
  generalize w.alloc (.cells (madeCells #[.nilIface] n) 32) = w1 at *
  obtain ⟨R, hR⟩ : ∃ R, w.heap.size = R := ⟨_, rfl⟩
  have HR : Hid (w.heap.size = R) := hR
  rw [hR] at hb1 hB1 hs1 hn₀ h2w hT2 ⊢
  have HT2 : Hid (∀ b, R ≤ b → T b) := hT2
  clear hT2
  clear hR hmk
  have HS0 : Hid (SofarT T w1 R 0 (madeCells #[.nilIface] n) qs n) := ⟨hB1, made_size _ _, fun i _ _ h => by omega⟩
  have HZ0 : Hid (R < w1.heap.size) := by show _ < _; omega
  clear hB1 hs1
  go_wp2_with fail
  go_loopw [18] (fun iv wr => ∃ (i : Nat) (cs : Array Value), i ≤ k0 ∧ iv = .int .i64 (i : Int) ∧ Hid (SofarT T wr R i cs qs n) ∧ Hid (Below R w wr) ∧ Hid (R < wr.heap.size)) (fun iv _ => n - (intOf iv).toNat)
  case atStart => exact ⟨0, _, Nat.zero_le _, rfl, HS0, hb1, HZ0⟩
  case round =>
    clear HS0 hb1 HZ0
    obtain ⟨i, cs, hi, rfl, HS, HB, HZ⟩ := hrel
    by_cases hlt : i < k0
    · have t1 : decide ((i : Int) < (n : Int)) = true := decide_eq_true (by omega)
      have t2 : decide (i < n) = true := decide_eq_true (by omega)
      have hil2 : i < l.length := by rw [HN.out]; omega
      have hiq : i < qs.length := by rw [HLQ.out]; exact hlt
      have hz := HZ.out
      have hsr := HSR.out i hil2 hiq
      have hfi := HFIT.out l[i] (List.getElem_mem hil2)
      obtain ⟨b, off, aj, cj, ea, hbn, c0, c1, c2, c3, c4, c5, c6, hp⟩ := (HIN.out.keep HB.out hn₀) i hil2
      subst ea
      obtain ⟨⟨f, p⟩, hfp⟩ : ∃ s, l[i] = s := ⟨_, rfl⟩
      rw [hfp] at hsr hfi c0 c1 c2 c3 c4 c5 c6 hp
      simp only at hfi c0 c1 c2 c3 c4 c5 c6 hp
      have hbA := (Below.refl wr.heap.size wr).alloc (Nat.le_refl _) (.cells #[.int .i64 f, .int .u8 p.kind, .bool p.yes, .bool p.neg, .string p.mag, .string p.raw, .slice aj p.items.length cj] 52)
      have hXA := Blk.new wr 52 #[.int .i64 f, .int .u8 p.kind, .bool p.yes, .bool p.neg, .string p.mag, .string p.raw, .slice aj p.items.length cj]
      have hbwA := HB.out.trans (hbA.mono (Nat.le_of_lt hz))
      have hit := item_okT T (w := wr.alloc (.cells #[.int .i64 f, .int .u8 p.kind, .bool p.yes, .bool p.neg, .string p.mag, .string p.raw, .slice aj p.items.length cj] 52)) (n₀ := n₀) (R := R) (Nat.le_trans (by omega) hbA.size) (Nat.lt_of_lt_of_le hz hbA.size) hn₀ hvn hT1 (fun b hb => HT2.out b (Nat.le_trans (Nat.le_trans (Nat.le_of_lt hz) hbA.size) hb)) (HV.out.keep fun b _ hb => hbwA.block b (by omega)) hil f p hfi aj cj lo (hp.keep hbA (by omega)) hsr
      have HBA : Hid (SofarT T (wr.alloc (.cells #[.int .i64 f, .int .u8 p.kind, .bool p.yes, .bool p.neg, .string p.mag, .string p.raw, .slice aj p.items.length cj] 52)) R i cs qs n) := ⟨HS.out.blk.old hbA, HS.out.size, fun k hk hc h => (HS.out.vals k hk hc h).keep (fun b hb => hbA.block b hb.1.2) (fun b hb => ⟨⟨hb.1.1, Nat.lt_of_lt_of_le hb.1.2 hbA.size⟩, hb.2⟩)⟩
      have HBW : Hid (Below R w (wr.alloc (.cells #[.int .i64 f, .int .u8 p.kind, .bool p.yes, .bool p.neg, .string p.mag, .string p.raw, .slice aj p.items.length cj] 52))) := hbwA
      have HZA : Hid (R < (wr.alloc (.cells #[.int .i64 f, .int .u8 p.kind, .bool p.yes, .bool p.neg, .string p.mag, .string p.raw, .slice aj p.items.length cj] 52)).heap.size) := Nat.lt_of_lt_of_le hz hbA.size
      have hili : (i : Int) < (n : Int) := by omega
      clear hsr hfi hfp hp hbA hbwA HS HB HZ hz hil2
      generalize p.items.length = pl at *
      go_upto_region 5 with fail
      clear c0 c1 c2 c3 c4 c5 c6
      generalize wr.alloc (.cells #[.int .i64 f, .int .u8 p.kind, .bool p.yes, .bool p.neg, .string p.mag, .string p.raw, .slice aj pl cj] 52) = w2 at *
      have c0 := hXA.cell 0
      have c1 := hXA.cell 1
      have c2 := hXA.cell 2
      have c3 := hXA.cell 3
      have c4 := hXA.cell 4
      have c5 := hXA.cell 5
      have c6 := hXA.cell 6
      simp only [List.getElem?_toArray, List.getElem?_cons_zero, List.getElem?_cons_succ] at c0 c1 c2 c3 c4 c5 c6
      clear hXA
      go_wp2_with fail
      refine hit.mono ?_
      clear hit c0 c1 c2 c3 c4 c5 c6
      rintro _ w3 ⟨v, rfl, hb3, hvat⟩
      have hB3 : Blk w3 R 32 cs := HBA.out.blk.old hb3
      have hcs := HBA.out.size
      obtain ⟨x0, s0⟩ : ∃ x, w3.cell? ⟨R, i, none⟩ = some x := ⟨cs[i]'(by omega), by rw [hB3.cell]; simp⟩
      have s1 : w3.frozen? ⟨R, i, none⟩ = false := hB3.frozen i
      have hO : ∀ k, k ≠ R → (w3.setCell ⟨R, i, none⟩ v).heap[k]? = w3.heap[k]? := fun k hk => Below.heap_setCell w3 ⟨R, i, none⟩ v k hk
      have hz4 : (w3.setCell ⟨R, i, none⟩ v).heap.size = w3.heap.size := by simp [World.setCell]
      have HS4 : Hid (SofarT T (w3.setCell ⟨R, i, none⟩ v) R (i + 1) (cs.setIfInBounds i v) qs n) := by
        refine ⟨hB3.set i v, by simp [hcs], fun k hk hc hki => ?_⟩
        by_cases e : k = i
        · subst e
          rw [Array.getElem_setIfInBounds_self]
          exact hvat.keep (fun b hb => hO b hb.1.1) (fun b hb => ⟨⟨hb.1.1, by rw [hz4]; exact hb.1.2⟩, hb.2⟩)
        · rw [show (cs.setIfInBounds i v)[k]'hc = cs[k]'(by simpa using hc) by rw [Array.getElem_setIfInBounds (by simpa using hc)]; rw [if_neg (Ne.symm e)]]
          exact (HBA.out.vals k hk (by simpa using hc) (by omega)).keep (fun b hb => (hO b hb.1.1).trans (hb3.block b hb.1.2)) (fun b hb => ⟨⟨hb.1.1, by rw [hz4]; exact Nat.lt_of_lt_of_le hb.1.2 hb3.size⟩, hb.2⟩)
      have HB4 : Hid (Below R w (w3.setCell ⟨R, i, none⟩ v)) := (HBW.out.trans (hb3.mono (Nat.le_of_lt HZA.out))).setCell (p := ⟨R, i, none⟩) (Nat.le_refl _) _
      have HZ4 : Hid (R < (w3.setCell ⟨R, i, none⟩ v).heap.size) := by show _ < _; rw [hz4]; exact Nat.lt_of_lt_of_le HZA.out hb3.size
      have hform := hvat.form
      clear hvat hB3 hO hz4 HBA HBW HZA hb3 hcs
      rcases hform with rfl | ⟨tv, xv, rfl⟩
      · go_wp2_with fail
        go_roundw
        case rel => exact ⟨i + 1, _, by omega, by simp, HS4, HB4, HZ4⟩
        case measure => simp only [intOf]; omega
      · go_wp2_with fail
        go_roundw
        case rel => exact ⟨i + 1, _, by omega, by simp, HS4, HB4, HZ4⟩
        case measure => simp only [intOf]; omega
    · by_cases hltn : i < n
      · have t1 : decide ((i : Int) < (n : Int)) = true := decide_eq_true (by omega)
        have t2 : decide (i < n) = true := decide_eq_true hltn
        have hik : i = k0 := by omega
        have hil2 : i < l.length := by rw [HN.out]; exact hltn
        have hz := HZ.out
        have hfi := HFIT.out l[i] (List.getElem_mem hil2)
        obtain ⟨b, off, aj, cj, ea, hbn, c0, c1, c2, c3, c4, c5, c6, hp⟩ := (HIN.out.keep HB.out hn₀) i hil2
        subst ea
        have hsr : srcR its l[i] = none := by have := HEND.out (by rw [HN.out]; omega); simpa [hik] using this
        have hwy : whyR l[i] = WY := by have := HWY.out; unfold whyAt at this; rw [List.getElem?_eq_getElem (by rw [HN.out]; omega)] at this; simpa [hik] using this
        obtain ⟨⟨f, p⟩, hfp⟩ : ∃ s, l[i] = s := ⟨_, rfl⟩
        rw [hfp] at hsr hwy hfi c0 c1 c2 c3 c4 c5 c6 hp
        simp only at hfi c0 c1 c2 c3 c4 c5 c6 hp
        have hbA := (Below.refl wr.heap.size wr).alloc (Nat.le_refl _) (.cells #[.int .i64 f, .int .u8 p.kind, .bool p.yes, .bool p.neg, .string p.mag, .string p.raw, .slice aj p.items.length cj] 52)
        have hXA := Blk.new wr 52 #[.int .i64 f, .int .u8 p.kind, .bool p.yes, .bool p.neg, .string p.mag, .string p.raw, .slice aj p.items.length cj]
        have hbwA := HB.out.trans (hbA.mono (Nat.le_of_lt hz))
        have HEA : Hid (EnvK (wr.alloc (.cells #[.int .i64 f, .int .u8 p.kind, .bool p.yes, .bool p.neg, .string p.mag, .string p.raw, .slice aj p.items.length cj] 52)) en) := HE.out.old (n := R) (by omega) hbwA
        have hit := item_bad (w := wr.alloc (.cells #[.int .i64 f, .int .u8 p.kind, .bool p.yes, .bool p.neg, .string p.mag, .string p.raw, .slice aj p.items.length cj] 52)) (n₀ := n₀) (Nat.le_trans (by omega) hbA.size) ((HV.out.keep fun b _ hb => hbwA.block b (by omega)).mono hvn (Nat.zero_le _)) hil f p hfi aj cj lo (hp.keep hbA (by omega)) en HEA.out hsr
        rw [hwy] at hit
        have HBW : Hid (Below R w (wr.alloc (.cells #[.int .i64 f, .int .u8 p.kind, .bool p.yes, .bool p.neg, .string p.mag, .string p.raw, .slice aj p.items.length cj] 52))) := hbwA
        have HZA : Hid (R ≤ (wr.alloc (.cells #[.int .i64 f, .int .u8 p.kind, .bool p.yes, .bool p.neg, .string p.mag, .string p.raw, .slice aj p.items.length cj] 52)).heap.size) := Nat.le_of_lt (Nat.lt_of_lt_of_le hz hbA.size)
        have hili : (i : Int) < (n : Int) := by omega
        have HIK : Hid (i = k0) := hik
        clear hsr hwy hfi hfp hp hbA hbwA HS HB HZ hz hil2 hik
        generalize p.items.length = pl at *
        go_upto_region 5 with fail
        clear c0 c1 c2 c3 c4 c5 c6
        generalize wr.alloc (.cells #[.int .i64 f, .int .u8 p.kind, .bool p.yes, .bool p.neg, .string p.mag, .string p.raw, .slice aj pl cj] 52) = w2 at *
        have c0 := hXA.cell 0
        have c1 := hXA.cell 1
        have c2 := hXA.cell 2
        have c3 := hXA.cell 3
        have c4 := hXA.cell 4
        have c5 := hXA.cell 5
        have c6 := hXA.cell 6
        simp only [List.getElem?_toArray, List.getElem?_cons_zero, List.getElem?_cons_succ] at c0 c1 c2 c3 c4 c5 c6
        clear hXA
        go_wp2_with fail
        refine hit.mono ?_
        clear hit c0 c1 c2 c3 c4 c5 c6
        rintro _ w3 ⟨rfl, hb3⟩
        have hwr := wrong_any (i : Int) WY en w3 (HEA.out.old (n := w2.heap.size) HEA.out.two hb3)
        have HB3 : Hid (Below R w w3) := HBW.out.trans (hb3.mono HZA.out)
        have HZ3 : Hid (R ≤ w3.heap.size) := Nat.le_trans HZA.out hb3.size
        clear hb3 HBW HZA HEA
        have hev : ∃ te ve, errV en WY = .iface te ve := by unfold errV; split <;> exact ⟨_, _, rfl⟩
        obtain ⟨te, ve, hev⟩ := hev
        rw [hev] at hwr ⊢
        clear hev
        go_wp2_with fail
        refine hwr.mono ?_
        clear hwr
        rintro _ w4 ⟨v, rfl, hfk, hb4⟩
        have HPF : Hid (TfPostT T n k0 qs WY w (.returned (.tuple #[.nilIface, v])) w4) := by
          refine ⟨?_, .inr ⟨by have := HIK.out; omega, v, rfl, ?_⟩⟩
          · rw [HR.out]; exact HB3.out.trans (hb4.mono HZ3.out)
          · obtain ⟨F, e1, e2, e3⟩ := hfk
            have hz3 := HZ3.out
            exact ⟨F, e1, by rw [HR.out]; omega, by rw [← HIK.out]; exact e3⟩
        clear hfk hb4 HB3 HZ3
        go_wp2_with fail
        go_ret2
        exact HPF.out
      · have t1 : decide ((i : Int) < (n : Int)) = false := decide_eq_false (by omega)
        have t2 : decide (i < n) = false := decide_eq_false hltn
        have hin' : i = n := by omega
        have hkn : k0 = n := by omega
        have hdq := HDQ.out (by rw [HN.out]; exact hkn)
        have hqn : qs.length = n := by rw [HLQ.out]; exact hkn
        have hS := HS.out
        have hown : VOwn wr R (.slice (some ⟨R, 0, none⟩) n n) cs.toList := by
          have hsz := hS.size
          refine ⟨by rw [Array.length_toList]; omega, .inr ⟨R, n, cs, by rw [Array.length_toList, hsz], Nat.le_refl _, hS.blk, by rw [Array.length_toList]; omega, by unfold maxLen; omega, by omega, ?_⟩⟩
          rw [List.take_of_length_le (by rw [Array.length_toList]; omega)]
        have hof := of_any (.slice (some ⟨R, 0, none⟩) n n) cs.toList qs (by omega) (by rw [Array.length_toList, hS.size, hqn]) (by omega) (fun b => (b ≠ R ∧ b < wr.heap.size) ∧ T b) R wr (fun b hb => hb.1.2) hown (fun j hj => by
          have := hS.vals j hj (by rw [hS.size, ← hqn]; exact hj) (by rw [hin', ← hqn]; exact hj)
          simpa using this)
        have HKN : Hid (k0 = n) := hkn
        have HQN : Hid (qs.length = n) := hqn
        clear hS hown hin' hkn hqn
        go_wp2_with fail
        refine hof.mono ?_
        clear hof
        rintro e w5 ⟨hb5, ⟨h1, _⟩ | ⟨_, h1, _⟩ | ⟨_, _, g', rfl, hvt⟩⟩
        · have := HQN.out; omega
        · omega
        · have HBF : Hid (Below R w w5) := HB.out.trans (hb5.mono (Nat.le_of_lt HZ.out))
          have HVF : Hid (VAt w5 (fun b => b < w5.heap.size ∧ T b) (.iface 83 (.pointer (some ⟨g', 0, none⟩))) (tupP qs)) := hvt.keep (fun b _ => rfl) fun b hb => by
            rcases hb with hb | hb
            · exact ⟨Nat.lt_of_lt_of_le hb.1.2 hb5.size, hb.2⟩
            · exact ⟨hb.2, HT2.out b (Nat.le_trans (Nat.le_of_lt HZ.out) hb.1)⟩
          clear hvt hb5 HB HS HZ
          go_wp2_with fail
          go_ret2
          exact ⟨by rw [HR.out]; exact HBF.out, .inl ⟨HKN.out, g', rfl, HVF.out⟩⟩
set_option maxHeartbeats 2000000 in
set_option maxRecDepth 20000 in
theorem map_T (T : Nat → Prop) (vlo vn : Nat) (hT1 : ∀ b, vlo ≤ b → b < vn → T b) (l : List (Int × Prt)) (its qs : List Prt) (hl : l.length ≤ 1024) (k0 : Nat) (hk0 : k0 ≤ l.length) (hlq : qs.length = k0) (hsr : ∀ j (hj : j < k0), srcR its (l[j]'(by omega)) = some (qs[j]'(by omega))) (hend : ∀ h : k0 < l.length, srcR its l[k0] = none) (hfit : ∀ s ∈ l, Fits s.2) (hdq : k0 = l.length → depL qs + 1 ≤ 16) (hil : its.length ≤ 281474976710656) (g : Nat) (a : Option Addr) (c lo n₀ : Nat) (en : Addr) (w : World) (hE : EnvK w en) (hvn : vn ≤ n₀) (hT2 : ∀ b, w.heap.size ≤ b → T b) (hn₀ : n₀ ≤ w.heap.size) (hin : SrIn w lo n₀ a l) (hv : VIn w vlo vn (.iface 83 (.pointer (some ⟨g, 0, none⟩))) (tupP its)) :
    Calls Tryd.prog 12 #[.slice a l.length c, .iface 83 (.pointer (some ⟨g, 0, none⟩))] w (TfPostT T l.length k0 qs (whyAt l k0) w) := by
  have h1 := listOf_tup ⟨g, 0, none⟩ w
  have H2 : Hid (∀ w1, Below w.heap.size w w1 → Calls Tryd.prog 31 #[.slice a l.length c, .iface 83 (.pointer (some ⟨g, 0, none⟩))] w1 (TfPostT T l.length k0 qs (whyAt l k0) w1)) := fun w1 hb =>
    tupleFrom_T T vlo vn hT1 l its qs hl k0 hk0 hlq hsr hend hfit hdq hil g a c lo n₀ en w1 (hE.old hE.two hb) hvn (fun b h => hT2 b (Nat.le_trans hb.size h)) (Nat.le_trans hn₀ hb.size) (hin.keep hb hn₀) (hv.keep fun b _ h => hb.block b (by omega))
  generalize whyAt l k0 = WY at *
  obtain ⟨n, hn⟩ : ∃ n, l.length = n := ⟨_, rfl⟩
  rw [hn] at hl H2 ⊢
  have t1 : decide ((1024 : Int) < (n : Int)) = false := decide_eq_false (by omega)
  have t2 : decide (1024 < n) = false := decide_eq_false (by omega)
  clear hn hlq hsr hfit hin hv hend hdq hE
  go_enter Tryd.func12, Tryd.ntmps12
  go_wp2_with fail
  refine h1.mono ?_
  clear h1
  rintro _ w1 ⟨rfl, hb1⟩
  have h2 := H2.out w1 hb1
  clear H2
  go_wp2_with fail
  refine h2.mono ?_
  clear h2
  rintro e w2 ⟨hb2, ⟨hk, g', rfl, hv2⟩ | ⟨hk, v, rfl, F, rfl, hF1, hF2⟩⟩
  · have HP : Hid (TfPostT T n k0 qs WY w (.returned (.tuple #[.iface 83 (.pointer (some ⟨g', 0, none⟩)), .nilIface])) w2) := ⟨hb1.trans (hb2.mono hb1.size), .inl ⟨hk, g', rfl, hv2⟩⟩
    clear hv2 hk
    go_wp2_with fail
    go_ret2
    exact HP.out
  · have HP : Hid (TfPostT T n k0 qs WY w (.returned (.tuple #[.nilIface, .iface 67 (.pointer (some ⟨F, 0, none⟩))])) w2) := ⟨hb1.trans (hb2.mono hb1.size), .inr ⟨hk, _, rfl, F, rfl, Nat.le_trans hb1.size hF1, hF2⟩⟩
    clear hF1 hF2 hk
    go_wp2_with fail
    go_ret2
    exact HP.out
end Go.Proofs.YtnjfkijekohdkaaDoor
