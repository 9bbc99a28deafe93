/- What rekey's tupleFrom and Map do where nothing is wrong (contracts; nothing is claimed here). -/
import Derived.Test.YtnjfkijekohdkaaDoorKItm
namespace Go.Proofs.YtnjfkijekohdkaaDoor
open Go.RowKit Go.Vf

/-- Sources in memory. -/
def SrIn (w : World) (lo n₀ : Nat) (a : Option Addr) (l : List (Int × Prt)) : Prop :=
  ∀ j (hj : j < l.length), ∃ b off aj cj, a = some ⟨b, off, none⟩ ∧ b < n₀ ∧ w.cell? ⟨b, off + j * 7, none⟩ = some (.int .i64 l[j].1) ∧ w.cell? ⟨b, off + j * 7 + 1, none⟩ = some (.int .u8 l[j].2.kind) ∧ w.cell? ⟨b, off + j * 7 + 2, none⟩ = some (.bool l[j].2.yes) ∧ w.cell? ⟨b, off + j * 7 + 3, none⟩ = some (.bool l[j].2.neg) ∧ w.cell? ⟨b, off + j * 7 + 4, none⟩ = some (.string l[j].2.mag) ∧ w.cell? ⟨b, off + j * 7 + 5, none⟩ = some (.string l[j].2.raw) ∧ w.cell? ⟨b, off + j * 7 + 6, none⟩ = some (.slice aj l[j].2.items.length cj) ∧ PIn w lo n₀ l[j].2 aj
theorem SrIn.keep {w w' : World} {lo n₀ n : Nat} {a : Option Addr} {l : List (Int × Prt)} (h : SrIn w lo n₀ a l) (hb : Below n w w') (hn : n₀ ≤ n) : SrIn w' lo n₀ a l := fun j hj => by
  obtain ⟨b, off, aj, cj, e, hbn, c0, c1, c2, c3, c4, c5, c6, hp⟩ := h j hj
  have q : ∀ k, w'.cell? ⟨b, k, none⟩ = w.cell? ⟨b, k, none⟩ := fun k => hb.cell (p := ⟨b, k, none⟩) (show b < n by omega)
  exact ⟨b, off, aj, cj, e, hbn, (q _).trans c0, (q _).trans c1, (q _).trans c2, (q _).trans c3, (q _).trans c4, (q _).trans c5, (q _).trans c6, hp.keep hb hn⟩
/-- What a source tells, if it tells something. -/
def srcR (its : List Prt) (s : Int × Prt) : Option Prt := if s.1 < 0 then (if ownW s.2 = 0 then some s.2 else none) else its[s.1.toNat]?
structure SofarK (w : World) (R j : Nat) (cs : Array Value) (qs : List Prt) (n : Nat) : Prop where
  blk : Blk w R 32 cs
  size : cs.size = n
  vals : ∀ i (hi : i < qs.length) (hc : i < cs.size), i < j → VAt w (fun b => b ≠ R ∧ b < w.heap.size) cs[i] qs[i]
theorem VAt.form {w : World} {S : Nat → Prop} {v : Value} {p : Prt} (h : VAt w S v p) : v = .nilIface ∨ ∃ t x, v = .iface t x := by
  cases h
  · exact .inl rfl
  all_goals exact .inr ⟨_, _, rfl⟩
theorem item_ok {w : World} {n₀ R : Nat} {its : List Prt} {g : Nat} (hn₀ : n₀ ≤ w.heap.size) (hR : R < w.heap.size) (hRn : n₀ ≤ R) (hv : VIn w 0 n₀ (.iface 83 (.pointer (some ⟨g, 0, none⟩))) (tupP its)) (hil : its.length ≤ 281474976710656) (f : Int) (p : Prt) (hf : Fits p) (a : Option Addr) (c lo : Nat) (hin : PIn w lo n₀ p a) {q : Prt} (hq : srcR its (f, p) = some q) :
    Calls Tryd.prog 43 #[.agg #[.int .i64 f, .int .u8 p.kind, .bool p.yes, .bool p.neg, .string p.mag, .string p.raw, .slice a p.items.length c], .iface 83 (.pointer (some ⟨g, 0, none⟩))] w fun e w' => ∃ v, e = .returned (.tuple #[v, .nilIface]) ∧ Below w.heap.size w w' ∧ VAt w' (fun b => b ≠ R ∧ b < w'.heap.size) v q := by
  unfold srcR at hq
  simp only at hq
  by_cases h0 : f < 0
  · rw [if_pos h0] at hq
    split at hq
    · rename_i hw
      cases hq
      refine (itemOf_own f h0 p hf a c lo n₀ w hn₀ hin _).mono ?_
      rintro e w' ⟨hb, ⟨_, v, rfl, hv'⟩ | ⟨hne, _⟩⟩
      · exact ⟨v, rfl, hb, VAt.of hv' fun b h1 h2 => ⟨by omega, h2⟩⟩
      · exact absurd hw hne
    · cases hq
  · rw [if_neg h0] at hq
    obtain ⟨hk, rfl⟩ := List.getElem?_eq_some_iff.1 hq
    obtain ⟨k, rfl⟩ : ∃ k : Nat, f = (k : Int) := ⟨f.toNat, by omega⟩
    simp only [Int.toNat_natCast] at hk ⊢
    cases hv with
    | tup V h1 h2 h3 h4 h5 =>
      obtain ⟨h, off, rfl, _, hlt, hcell⟩ := h4 k hk
      refine (itemOf_old k p a c g h off its.length _ (V k) w hk hil (h3.cell 0) hcell).mono ?_
      rintro e w' ⟨rfl, hb⟩
      have h6 := (h5 k hk).keep (w' := w') fun b _ hb2 => hb.block b (by omega)
      exact ⟨_, rfl, hb, VAt.of h6 fun b _ hb2 => ⟨by omega, by have := hb.size; omega⟩⟩
set_option maxHeartbeats 4000000 in
set_option maxRecDepth 20000 in
theorem tupleFrom_ok (l : List (Int × Prt)) (its qs : List Prt) (hl : l.length ≤ 1024) (hlq : qs.length = l.length) (hsr : ∀ j (hj : j < l.length), srcR its l[j] = some (qs[j]'(by omega))) (hfit : ∀ s ∈ l, Fits s.2) (hdq : depL qs + 1 ≤ 16) (hil : its.length ≤ 281474976710656) (g : Nat) (a : Option Addr) (c lo n₀ : Nat) (w : World) (hn₀ : n₀ ≤ w.heap.size) (hin : SrIn w lo n₀ a l) (hv : VIn w 0 n₀ (.iface 83 (.pointer (some ⟨g, 0, none⟩))) (tupP its)) :
    Calls Tryd.prog 31 #[.slice a l.length c, .iface 83 (.pointer (some ⟨g, 0, none⟩))] w fun e w' => ∃ g', e = .returned (.tuple #[.iface 83 (.pointer (some ⟨g', 0, none⟩)), .nilIface]) ∧ Below w.heap.size w w' ∧ VIn w' 0 w'.heap.size (.iface 83 (.pointer (some ⟨g', 0, none⟩))) (tupP qs) := by
  obtain ⟨n, hn⟩ : ∃ n, l.length = n := ⟨_, rfl⟩
  have HN : Hid (l.length = n) := hn
  have HLQ : Hid (qs.length = l.length) := hlq
  have HSR : Hid (∀ j (hj : j < l.length) (hq : j < qs.length), srcR its l[j] = some qs[j]) := fun j hj _ => hsr j hj
  have HIN : Hid (SrIn w lo n₀ a l) := hin
  have HV : Hid (VIn w 0 n₀ (.iface 83 (.pointer (some ⟨g, 0, none⟩))) (tupP its)) := hv
  have HFIT : Hid (∀ s ∈ l, Fits s.2) := hfit
  rw [hn] at hl ⊢
  have hmk : ∀ w : World, (Instr.makeSlice 82 (.int .i64 (n : Int)) (.int .i64 (n : Int))).run Tryd.prog w = .ok (.slice (some ⟨w.heap.size, 0, none⟩) n n) (w.alloc (.cells (madeCells #[.nilIface] n) 32)) := fun w =>
    run_make_row' (P := Tryd.prog) 82 32 .nilIface 16 Tryd.underlying82 info31 rfl .i64 .i64 n (by omega) (by omega) w
  have hb1 := (Below.refl w.heap.size w).alloc (Nat.le_refl _) (.cells (madeCells #[.nilIface] n) 32)
  have hB1 := Blk.new w 32 (madeCells #[.nilIface] n)
  have hs1 := alloc_size w (.cells (madeCells #[.nilIface] n) 32)
  clear hn hlq hsr hin hv hfit
  go_enter Tryd.func31, Tryd.ntmps31
  go_upto_region 2 with fail
  generalize w.alloc (.cells (madeCells #[.nilIface] n) 32) = w1 at *
  obtain ⟨R, hR⟩ : ∃ R, w.heap.size = R := ⟨_, rfl⟩
  have HR : Hid (w.heap.size = R) := hR
  rw [hR] at hb1 hB1 hs1 hn₀ ⊢
  clear hR hmk
  have HS0 : Hid (SofarK w1 R 0 (madeCells #[.nilIface] n) qs n) := ⟨hB1, made_size _ _, fun i _ _ h => by omega⟩
  have HZ0 : Hid (R < w1.heap.size) := by show _ < _; omega
  clear hB1 hs1
  go_wp2_with fail
  go_loopw [18] (fun iv wr => ∃ (i : Nat) (cs : Array Value), i ≤ n ∧ iv = .int .i64 (i : Int) ∧ Hid (SofarK wr R i cs qs n) ∧ Hid (Below R w wr) ∧ Hid (R < wr.heap.size)) (fun iv _ => n - (intOf iv).toNat)
  case atStart => exact ⟨0, _, Nat.zero_le _, rfl, HS0, hb1, HZ0⟩
  case round =>
    clear HS0 hb1 HZ0
    obtain ⟨i, cs, hi, rfl, HS, HB, HZ⟩ := hrel
    by_cases hlt : i < n
    · have t1 : decide ((i : Int) < (n : Int)) = true := decide_eq_true (by omega)
      have t2 : decide (i < n) = true := decide_eq_true hlt
      have hil2 : i < l.length := by rw [HN.out]; exact hlt
      have hiq : i < qs.length := by rw [HLQ.out]; exact hil2
      have hz := HZ.out
      have hsr := HSR.out i hil2 hiq
      have hfi := HFIT.out l[i] (List.getElem_mem hil2)
      obtain ⟨b, off, aj, cj, ea, hbn, c0, c1, c2, c3, c4, c5, c6, hp⟩ := (HIN.out.keep HB.out hn₀) i hil2
      subst ea
      obtain ⟨⟨f, p⟩, hfp⟩ : ∃ s, l[i] = s := ⟨_, rfl⟩
      rw [hfp] at hsr hfi c0 c1 c2 c3 c4 c5 c6 hp
      simp only at hfi c0 c1 c2 c3 c4 c5 c6 hp
      have hbA := (Below.refl wr.heap.size wr).alloc (Nat.le_refl _) (.cells #[.int .i64 f, .int .u8 p.kind, .bool p.yes, .bool p.neg, .string p.mag, .string p.raw, .slice aj p.items.length cj] 52)
      have hXA := Blk.new wr 52 #[.int .i64 f, .int .u8 p.kind, .bool p.yes, .bool p.neg, .string p.mag, .string p.raw, .slice aj p.items.length cj]
      have hbwA := HB.out.trans (hbA.mono (Nat.le_of_lt hz))
      have hit := item_ok (w := wr.alloc (.cells #[.int .i64 f, .int .u8 p.kind, .bool p.yes, .bool p.neg, .string p.mag, .string p.raw, .slice aj p.items.length cj] 52)) (n₀ := n₀) (R := R) (Nat.le_trans (by omega) hbA.size) (Nat.lt_of_lt_of_le hz hbA.size) hn₀ (HV.out.keep fun b _ hb => hbwA.block b (by omega)) hil f p hfi aj cj lo (hp.keep hbA (by omega)) hsr
      have HBA : Hid (SofarK (wr.alloc (.cells #[.int .i64 f, .int .u8 p.kind, .bool p.yes, .bool p.neg, .string p.mag, .string p.raw, .slice aj p.items.length cj] 52)) R i cs qs n) := ⟨HS.out.blk.old hbA, HS.out.size, fun k hk hc h => (HS.out.vals k hk hc h).keep (fun b hb => hbA.block b hb.2) (fun b hb => ⟨hb.1, Nat.lt_of_lt_of_le hb.2 hbA.size⟩)⟩
      have HBW : Hid (Below R w (wr.alloc (.cells #[.int .i64 f, .int .u8 p.kind, .bool p.yes, .bool p.neg, .string p.mag, .string p.raw, .slice aj p.items.length cj] 52))) := hbwA
      have HZA : Hid (R < (wr.alloc (.cells #[.int .i64 f, .int .u8 p.kind, .bool p.yes, .bool p.neg, .string p.mag, .string p.raw, .slice aj p.items.length cj] 52)).heap.size) := Nat.lt_of_lt_of_le hz hbA.size
      have hili : (i : Int) < (n : Int) := by omega
      clear hsr hfi hfp hp hbA hbwA HS HB HZ hz hil2
      generalize p.items.length = pl at *
      go_upto_region 5 with fail
      clear c0 c1 c2 c3 c4 c5 c6
      generalize wr.alloc (.cells #[.int .i64 f, .int .u8 p.kind, .bool p.yes, .bool p.neg, .string p.mag, .string p.raw, .slice aj pl cj] 52) = w2 at *
      have c0 := hXA.cell 0
      have c1 := hXA.cell 1
      have c2 := hXA.cell 2
      have c3 := hXA.cell 3
      have c4 := hXA.cell 4
      have c5 := hXA.cell 5
      have c6 := hXA.cell 6
      simp only [List.getElem?_toArray, List.getElem?_cons_zero, List.getElem?_cons_succ] at c0 c1 c2 c3 c4 c5 c6
      clear hXA
      go_wp2_with fail
      refine hit.mono ?_
      clear hit c0 c1 c2 c3 c4 c5 c6
      rintro _ w3 ⟨v, rfl, hb3, hvat⟩
      have hB3 : Blk w3 R 32 cs := HBA.out.blk.old hb3
      have hcs := HBA.out.size
      obtain ⟨x0, s0⟩ : ∃ x, w3.cell? ⟨R, i, none⟩ = some x := ⟨cs[i]'(by omega), by rw [hB3.cell]; simp⟩
      have s1 : w3.frozen? ⟨R, i, none⟩ = false := hB3.frozen i
      have hO : ∀ k, k ≠ R → (w3.setCell ⟨R, i, none⟩ v).heap[k]? = w3.heap[k]? := fun k hk => Below.heap_setCell w3 ⟨R, i, none⟩ v k hk
      have hz4 : (w3.setCell ⟨R, i, none⟩ v).heap.size = w3.heap.size := by simp [World.setCell]
      have HS4 : Hid (SofarK (w3.setCell ⟨R, i, none⟩ v) R (i + 1) (cs.setIfInBounds i v) qs n) := by
        refine ⟨hB3.set i v, by simp [hcs], fun k hk hc hki => ?_⟩
        by_cases e : k = i
        · subst e
          rw [Array.getElem_setIfInBounds_self]
          exact hvat.keep (fun b hb => hO b hb.1) (fun b hb => ⟨hb.1, by rw [hz4]; exact hb.2⟩)
        · rw [show (cs.setIfInBounds i v)[k]'hc = cs[k]'(by simpa using hc) by rw [Array.getElem_setIfInBounds (by simpa using hc)]; rw [if_neg (Ne.symm e)]]
          exact (HBA.out.vals k hk (by simpa using hc) (by omega)).keep (fun b hb => (hO b hb.1).trans (hb3.block b hb.2)) (fun b hb => ⟨hb.1, by rw [hz4]; exact Nat.lt_of_lt_of_le hb.2 hb3.size⟩)
      have HB4 : Hid (Below R w (w3.setCell ⟨R, i, none⟩ v)) := (HBW.out.trans (hb3.mono (Nat.le_of_lt HZA.out))).setCell (p := ⟨R, i, none⟩) (Nat.le_refl _) _
      have HZ4 : Hid (R < (w3.setCell ⟨R, i, none⟩ v).heap.size) := by show _ < _; rw [hz4]; exact Nat.lt_of_lt_of_le HZA.out hb3.size
      have hform := hvat.form
      clear hvat hB3 hO hz4 HBA HBW HZA hb3 hcs
      rcases hform with rfl | ⟨tv, xv, rfl⟩
      · go_wp2_with fail
        go_roundw
        case rel => exact ⟨i + 1, _, by omega, by simp, HS4, HB4, HZ4⟩
        case measure => simp only [intOf]; omega
      · go_wp2_with fail
        go_roundw
        case rel => exact ⟨i + 1, _, by omega, by simp, HS4, HB4, HZ4⟩
        case measure => simp only [intOf]; omega
    · have t1 : decide ((i : Int) < (n : Int)) = false := decide_eq_false (by omega)
      have t2 : decide (i < n) = false := decide_eq_false hlt
      have hin' : i = n := by omega
      have hS := HS.out
      have hown : VOwn wr R (.slice (some ⟨R, 0, none⟩) n n) cs.toList := by
        have hsz := hS.size
        refine ⟨by rw [Array.length_toList]; omega, .inr ⟨R, n, cs, by rw [Array.length_toList, hsz], Nat.le_refl _, hS.blk, by rw [Array.length_toList]; omega, by unfold maxLen; omega, by omega, ?_⟩⟩
        rw [List.take_of_length_le (by rw [Array.length_toList]; omega)]
      have hof := of_any (.slice (some ⟨R, 0, none⟩) n n) cs.toList qs (by have := HLQ.out; have := HN.out; omega) (by rw [Array.length_toList, hS.size, HLQ.out, HN.out]) (by omega) (fun b => b ≠ R ∧ b < wr.heap.size) R wr (fun b hb => hb.2) hown (fun j hj => by
        have := hS.vals j hj (by rw [hS.size, ← HN.out, ← HLQ.out]; exact hj) (by rw [hin', ← HN.out, ← HLQ.out]; exact hj)
        simpa using this)
      clear hS hown hin'
      go_wp2_with fail
      refine hof.mono ?_
      clear hof
      rintro e w5 ⟨hb5, ⟨h1, _⟩ | ⟨_, h1, _⟩ | ⟨_, _, g', rfl, hvt⟩⟩
      · have := HLQ.out; have := HN.out; omega
      · omega
      · have HBF : Hid (Below R w w5) := HB.out.trans (hb5.mono (Nat.le_of_lt HZ.out))
        have HVF : Hid (VIn w5 0 w5.heap.size (.iface 83 (.pointer (some ⟨g', 0, none⟩))) (tupP qs)) := hvt.to fun b hb => by
          rcases hb with hb | hb
          · exact ⟨Nat.zero_le _, Nat.lt_of_lt_of_le hb.2 hb5.size⟩
          · exact ⟨Nat.zero_le _, hb.2⟩
        clear hvt hb5 HB HS HZ
        go_wp2_with fail
        go_ret2
        exact ⟨g', rfl, by rw [HR.out]; exact HBF.out, HVF.out⟩
set_option maxHeartbeats 2000000 in
set_option maxRecDepth 20000 in
theorem map_ok (l : List (Int × Prt)) (its qs : List Prt) (hl : l.length ≤ 1024) (hlq : qs.length = l.length) (hsr : ∀ j (hj : j < l.length), srcR its l[j] = some (qs[j]'(by omega))) (hfit : ∀ s ∈ l, Fits s.2) (hdq : depL qs + 1 ≤ 16) (hil : its.length ≤ 281474976710656) (g : Nat) (a : Option Addr) (c lo n₀ : Nat) (w : World) (hn₀ : n₀ ≤ w.heap.size) (hin : SrIn w lo n₀ a l) (hv : VIn w 0 n₀ (.iface 83 (.pointer (some ⟨g, 0, none⟩))) (tupP its)) :
    Calls Tryd.prog 12 #[.slice a l.length c, .iface 83 (.pointer (some ⟨g, 0, none⟩))] w fun e w' => ∃ g', e = .returned (.tuple #[.iface 83 (.pointer (some ⟨g', 0, none⟩)), .nilIface]) ∧ Below w.heap.size w w' ∧ VIn w' 0 w'.heap.size (.iface 83 (.pointer (some ⟨g', 0, none⟩))) (tupP qs) := by
  have h1 := listOf_tup ⟨g, 0, none⟩ w
  have H2 : Hid (∀ w1, Below w.heap.size w w1 → Calls Tryd.prog 31 #[.slice a l.length c, .iface 83 (.pointer (some ⟨g, 0, none⟩))] w1 fun e w' => ∃ g', e = .returned (.tuple #[.iface 83 (.pointer (some ⟨g', 0, none⟩)), .nilIface]) ∧ Below w1.heap.size w1 w' ∧ VIn w' 0 w'.heap.size (.iface 83 (.pointer (some ⟨g', 0, none⟩))) (tupP qs)) := fun w1 hb =>
    tupleFrom_ok l its qs hl hlq hsr hfit hdq hil g a c lo n₀ w1 (Nat.le_trans hn₀ hb.size) (hin.keep hb hn₀) (hv.keep fun b _ h => hb.block b (by omega))
  obtain ⟨n, hn⟩ : ∃ n, l.length = n := ⟨_, rfl⟩
  rw [hn] at hl H2 ⊢
  have t1 : decide ((1024 : Int) < (n : Int)) = false := decide_eq_false (by omega)
  have t2 : decide (1024 < n) = false := decide_eq_false (by omega)
  clear hn hlq hsr hfit hin hv
  go_enter Tryd.func12, Tryd.ntmps12
  go_wp2_with fail
  refine h1.mono ?_
  clear h1
  rintro _ w1 ⟨rfl, hb1⟩
  have h2 := H2.out w1 hb1
  clear H2
  go_wp2_with fail
  refine h2.mono ?_
  clear h2
  rintro _ w2 ⟨g', rfl, hb2, hv2⟩
  have HV : Hid (VIn w2 0 w2.heap.size (.iface 83 (.pointer (some ⟨g', 0, none⟩))) (tupP qs)) := hv2
  clear hv2
  go_wp2_with fail
  go_ret2
  exact ⟨g', rfl, hb1.trans (hb2.mono hb1.size), HV.out⟩
end Go.Proofs.YtnjfkijekohdkaaDoor
