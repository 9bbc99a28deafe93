/- What MatchSteps does (a contract; nothing is claimed here). -/
import Derived.Test.YtkcnjnccdafbfaaGreatDoorJ37
namespace Go.Proofs.YtkcnjnccdafbfaaGreatDoor
open Go.RowKit Go.Vf Go.Maps
set_option maxHeartbeats 16000000 in
set_option maxRecDepth 20000 in
theorem stepsLaw_walk (m e : ByteArray) (hm : m.size ≤ 281474976710656) (he : e.size ≤ 281474976710656) (a : Option Addr) (k c : Nat) (zs : List Int) (w : World) (hg : Glob w) (ha : Lst w a k c zs) :
  Calls Tryz.prog 3 #[.agg #[.string m, .string e], .slice a k c] w fun r w' => r = .returned (.bool true) ∧ Below w.heap.size w w' := by
 obtain ⟨w0, hw0, hb0, c0, c1⟩ := boxs_new w m e
 have hsz0 : w.heap.size < w0.heap.size := by rw [hw0]; simp
 have hbo := both_any m e hm he w0 (hg.below hb0)
 go_enter Tryz.func3, Tryz.ntmps3
 go_wp2_with fail
 rw [← hw0]
 clear hw0
 go_wp2_with fail
 refine hbo.mono ?_
 clear hbo
 intro r w1 hpost
 obtain ⟨d, t, ok, rfl, hb1, hok, hno⟩ := both_form hpost
 have HOK : Hid _ := hok
 have HNO : Hid _ := hno
 have HB1 : Hid (Below w.heap.size w w1) := hb0.trans (hb1.mono hb0.size)
 have e0 : w1.cell? ⟨w.heap.size, 0, none⟩ = some (.string m) := (hb1.cell (p := ⟨w.heap.size, 0, none⟩) hsz0).trans c0
 have HE1 : Hid (w1.cell? ⟨w.heap.size, 1, none⟩ = some (.string e)) := (hb1.cell (p := ⟨w.heap.size, 1, none⟩) hsz0).trans c1
 have hz1 : w.heap.size < w1.heap.size := Nat.lt_of_lt_of_le hsz0 hb1.size
 have HZ1 : Hid (w.heap.size < w1.heap.size) := hz1
 have h7 := refLoad_any m hm w1
 clear hpost hok hno hb1 hb0 c0 c1 hz1 hsz0
 go_wp2_with fail
 refine h7.mono ?_
 clear h7 e0
 intro r w2 hpost
 obtain ⟨xa, xn, xc, y7, l7, rfl, hb2, hc7⟩ := ref7_form hpost
 have HC7 : Hid _ := hc7
 have hbA := hb2.alloc hb2.size (.cells #[.slice xa xn xc] 31)
 have hX1 := Blk.new w2 31 #[.slice xa xn xc]
 have HBA : Hid (Below w1.heap.size w1 (w2.alloc (.cells #[.slice xa xn xc] 31))) := hbA
 have HX1 : Hid (Blk (w2.alloc (.cells #[.slice xa xn xc] 31)) w2.heap.size 31 #[.slice xa xn xc]) := hX1
 have HW2 : Hid (Below w2.heap.size w2 (w2.alloc (.cells #[.slice xa xn xc] 31))) := (Below.refl _ w2).alloc (Nat.le_refl _) _
 have HX2 : Hid (w.heap.size ≤ w2.heap.size) := Nat.le_trans HB1.out.size hb2.size
 obtain ⟨B2, hB2⟩ : ∃ B2, w2.heap.size = B2 := ⟨_, rfl⟩
 have HB2e : Hid (w2.heap.size = B2) := hB2
 have e1 : (w2.alloc (.cells #[.slice xa xn xc] 31)).cell? ⟨w.heap.size, 1, none⟩ = some (.string e) := (hbA.cell (p := ⟨w.heap.size, 1, none⟩) HZ1.out).trans HE1.out
 have h8 := refLoadE_any e he (w2.alloc (.cells #[.slice xa xn xc] 31))
 rw [hB2] at hX1 HX1
 clear hpost hb2 hc7 hbA hX1 HE1
 go_upto_region 3 with fail
 clear hB2
 generalize w2.alloc (.cells #[.slice xa xn xc] 31) = W2 at HBA HX1 HW2 e1 h8 ⊢
 go_wp2_with fail
 refine h8.mono ?_
 clear h8 e1
 intro r w3 hpost
 obtain ⟨ta, tn, tc, y8, l8, rfl, hb3, hc8⟩ := ref8_form hpost
 have HC8 : Hid _ := hc8
 have HAW_w3 : Hid (Below W2.heap.size W2 w3) := hb3
 have hbA := hb3.alloc hb3.size (.cells #[.slice ta tn tc] 37)
 have hX1 := Blk.new w3 37 #[.slice ta tn tc]
 have HW3 : Hid (Below w3.heap.size w3 (w3.alloc (.cells #[.slice ta tn tc] 37))) := (Below.refl _ w3).alloc (Nat.le_refl _) _
 have HY1 : Hid (Blk (w3.alloc (.cells #[.slice ta tn tc] 37)) w3.heap.size 37 #[.slice ta tn tc]) := hX1
 have HBB : Hid (Below W2.heap.size W2 (w3.alloc (.cells #[.slice ta tn tc] 37))) := hbA
 obtain ⟨B3, hB3⟩ : ∃ B3, w3.heap.size = B3 := ⟨_, rfl⟩
 have HB3e : Hid (w3.heap.size = B3) := hB3
 rw [hB3] at hX1 HY1
 clear hpost hb3 hc8 hbA hX1 HAW_w3
 go_upto_region 4 with fail
 clear hB3
 generalize w3.alloc (.cells #[.slice ta tn tc] 37) = W3 at HW3 HY1 HBB ⊢
 have HA0_W3 : Hid (Below w.heap.size w W3) := (HB1.out.trans (HBA.out.mono HB1.out.size)).trans (HBB.out.mono (HB1.out.trans (HBA.out.mono HB1.out.size)).size)
 have HA1_W3 : Hid (Below w1.heap.size w1 W3) := HBA.out.trans (HBB.out.mono HBA.out.size)
 have HA2_W3 : Hid (Below w2.heap.size w2 W3) := HW2.out.trans (HBB.out.mono HW2.out.size)
 have HAX_W3 : Hid (Below W2.heap.size W2 W3) := HBB.out
 have HA3_W3 : Hid (Below w3.heap.size w3 W3) := HW3.out
 have HAY_W3 : Hid (Below W3.heap.size W3 W3) := Below.refl _ _
 have haw := awake_any W3 (hg.below HA0_W3.out)
 clear HB1 HBA HBB HW2 HW3 HZ1 HX2
 have hcase : (y7 = 0 ∧ y8 = 0 ∧ ok = true) ∨ (ok = false ∧ (y7 ≠ 0 ∨ (y7 = 0 ∧ y8 ≠ 0))) := by
  rcases HC7.out with ⟨q7, L, F, q8, _⟩ | ⟨q7, p, q8⟩
  ·
   rcases HC8.out with ⟨r7, E, l, r8, _⟩ | ⟨r7, p, r8⟩
   ·
    refine .inl ⟨q7, r7, ?_⟩
    cases ok with
    | true => rfl
    | false => exact absurd ⟨q8, r8⟩ (HNO.out rfl L F E)
   ·
    refine .inr ⟨?_, .inr ⟨q7, r7⟩⟩
    cases ok with
    | false => rfl
    | true =>
     obtain ⟨L', F', E, _, _, _, _, _, h2, _⟩ := HOK.out rfl
     rw [h2] at r8
     cases r8
  ·
   refine .inr ⟨?_, .inl q7⟩
   cases ok with
   | false => rfl
   | true =>
    obtain ⟨L', F', E, _, _, _, _, h1, _⟩ := HOK.out rfl
    rw [h1] at q8
    cases q8
 rcases hcase with ⟨rfl, rfl, rfl⟩ | ⟨rfl, hcase⟩
 rotate_left
 ·
  clear HOK HNO HC7 HC8
  rcases hcase with h7 | ⟨rfl, h8⟩
  ·
   have t1 : (y7 == 0) = false := by simpa using h7
   have t2 : decide (y7 = 0) = false := decide_eq_false h7
   go_wp2_with fail
   refine haw.mono ?_
   rintro r w4 ⟨rfl, hb4⟩
   go_wp2_with fail
   go_ret
   exact ⟨rfl, HA0_W3.out.trans (hb4.mono HA0_W3.out.size)⟩
  ·
   have t1 : (y8 == 0) = false := by simpa using h8
   have t2 : decide (y8 = 0) = false := decide_eq_false h8
   go_wp2_with fail
   refine haw.mono ?_
   rintro r w4 ⟨rfl, hb4⟩
   go_wp2_with fail
   go_ret
   exact ⟨rfl, HA0_W3.out.trans (hb4.mono HA0_W3.out.size)⟩
 obtain ⟨L, F, E, bd, T, rfl, rfl, hL, hT, hd1, me, ml, val, ht1⟩ := HOK.out rfl
 have HLL : Hid (loadR m.data.toList = .ok (L, F)) := hL
 have HTT : Hid (loadT e.data.toList = .ok E) := hT
 have HD1 : Hid (DataAt w1 bd L F) := hd1
 have HT1 : Hid (TabAt w1 T me ml val E) := ht1
 have HM2 : Hid (MIn w2.heap.size w2 (.slice xa xn xc) (marksR L)) := by
  rcases HC7.out with ⟨_, L', F', q8, q9⟩ | ⟨q7, _⟩
  ·
   rw [hL] at q8; cases q8; exact q9
  ·
   exact absurd rfl q7
 obtain ⟨l, hl1, hl2, hl3⟩ : ∃ l, RiseE l ∧ l.Perm E ∧ NIn w3.heap.size w3 (.slice ta tn tc) l := by
  rcases HC8.out with ⟨_, E', l, q8, q9, q10, q11⟩ | ⟨q7, _⟩
  ·
   rw [hT] at q8; cases q8; exact ⟨l, q9, q10, q11⟩
  ·
   exact absurd rfl q7
 have HRT3 : Hid (RT w3.heap.size w3 (.slice ta tn tc) l) := rt_of hT hl1 hl2 hl3
 have HFP : Hid (fndT l = fndT E ∧ elOf l = elOf E) := fnd_perm hT hl2
 clear HOK HNO HC7 HC8 hL hT hd1 ht1 hl1 hl2 hl3
 go_wp2_with fail
 refine haw.mono ?_
 clear haw
 rintro r w4 ⟨rfl, hb4⟩
 have HA0_w4 : Hid (Below w.heap.size w w4) := HA0_W3.out.trans (hb4.mono HA0_W3.out.size)
 clear HA0_W3
 have HA1_w4 : Hid (Below w1.heap.size w1 w4) := HA1_W3.out.trans (hb4.mono HA1_W3.out.size)
 clear HA1_W3
 have HA2_w4 : Hid (Below w2.heap.size w2 w4) := HA2_W3.out.trans (hb4.mono HA2_W3.out.size)
 clear HA2_W3
 have HAX_w4 : Hid (Below W2.heap.size W2 w4) := HAX_W3.out.trans (hb4.mono HAX_W3.out.size)
 clear HAX_W3
 have HA3_w4 : Hid (Below w3.heap.size w3 w4) := HA3_W3.out.trans (hb4.mono HA3_W3.out.size)
 clear HA3_W3
 have HAY_w4 : Hid (Below W3.heap.size W3 w4) := HAY_W3.out.trans (hb4.mono HAY_W3.out.size)
 clear HAY_W3
 clear hb4
 have hfa := few_any (HD1.out.below HA1_w4.out) (ha.below HA0_w4.out)
 by_cases hfew : (flatR F zs).length ≤ 1000
 rotate_left
 ·
  rw [decide_eq_false hfew] at hfa
  go_wp2_with fail
  refine hfa.mono ?_
  rintro r w5 ⟨rfl, hb5⟩
  go_wp2_with fail
  go_ret
  exact ⟨rfl, HA0_w4.out.trans (hb5.mono HA0_w4.out.size)⟩
 rw [decide_eq_true hfew] at hfa
 go_wp2_with fail
 refine hfa.mono ?_
 clear hfa
 rintro r w5 ⟨rfl, hb5⟩
 have HA0_w5 : Hid (Below w.heap.size w w5) := HA0_w4.out.trans (hb5.mono HA0_w4.out.size)
 clear HA0_w4
 have HA1_w5 : Hid (Below w1.heap.size w1 w5) := HA1_w4.out.trans (hb5.mono HA1_w4.out.size)
 clear HA1_w4
 have HA2_w5 : Hid (Below w2.heap.size w2 w5) := HA2_w4.out.trans (hb5.mono HA2_w4.out.size)
 clear HA2_w4
 have HAX_w5 : Hid (Below W2.heap.size W2 w5) := HAX_w4.out.trans (hb5.mono HAX_w4.out.size)
 clear HAX_w4
 have HA3_w5 : Hid (Below w3.heap.size w3 w5) := HA3_w4.out.trans (hb5.mono HA3_w4.out.size)
 clear HA3_w4
 have HAY_w5 : Hid (Below W3.heap.size W3 w5) := HAY_w4.out.trans (hb5.mono HAY_w4.out.size)
 clear HAY_w4
 clear hb5
 obtain ⟨X, hX⟩ := formed_is HLL.out zs
 obtain ⟨hzl, hXl⟩ := few_lens (HD1.out.below HA1_w5.out) hfew hX
 have HX : Hid (Formed L F zs X) := hX
 have HZL : Hid (zs.length ≤ 1000 ∧ X.length ≤ 1000) := ⟨hzl, hXl⟩
 have HLST : Hid (Lst w a k c zs) := ha
 have hkz : k ≤ 1000 := by rw [ha.len]; exact hzl
 have HKZ : Hid (k = zs.length) := ha.len
 have hall := refAll_any (w := w5) HLL.out (HM2.out.go HA2_w5.out) ((HRT3.out.below HA3_w5.out (Nat.le_refl _)).mono HA3_w5.out.size) ((ha.below HA0_w5.out).numb (by omega)) (fun q => (HD1.out.below HA1_w5.out).plen q) (by omega) hX.form (by omega)
 obtain ⟨R, hR⟩ : ∃ R, R = stepsD (classAt L) (fndT E) X := ⟨_, rfl⟩
 have HR : Hid (R = stepsD (classAt L) (fndT E) X) := hR
 have HRS : Hid (R.length ≤ 1000 ∧ ∀ r ∈ R, r.length ≤ 4611686018427387904) := by rw [hR]; exact rows_short hXl
 rw [HFP.out.1, ← hR] at hall
 have e2 : w5.cell? ⟨B2, 0, none⟩ = some (.slice xa xn xc) := (HAX_w5.out.cell (p := ⟨B2, 0, none⟩) HX1.out.lt).trans (HX1.out.cell 0)
 have e3 : w5.cell? ⟨B3, 0, none⟩ = some (.slice ta tn tc) := (HAY_w5.out.cell (p := ⟨B3, 0, none⟩) HY1.out.lt).trans (HY1.out.cell 0)
 clear hfew hX hzl hXl ha hR HM2 HRT3 HX1 HY1 HB2e HB3e
 go_upto_region 10 with fail
 go_wp2_with fail
 refine hall.mono ?_
 clear hall e2 e3
 rintro r w6 ⟨v6, vs6, rfl, hst6, hb6⟩
 have HA0_w6 : Hid (Below w.heap.size w w6) := HA0_w5.out.trans (hb6.mono HA0_w5.out.size)
 clear HA0_w5
 have HA1_w6 : Hid (Below w1.heap.size w1 w6) := HA1_w5.out.trans (hb6.mono HA1_w5.out.size)
 clear HA1_w5
 clear HA2_w5
 clear HAX_w5
 clear HA3_w5
 clear HAY_w5
 have HST6 : Hid (StepsAt w5.heap.size w6 w5.heap.size v6 R l vs6) := hst6
 obtain ⟨aa, ac, rfl⟩ := row_val hst6.row
 have HEL6 : Hid (∀ j (h1 : j < vs6.length) (h2 : j < R.length), Els w6.heap.size w6 vs6[j].2 (elOf E R[j])) := fun j h1 h2 => by
  rw [← HFP.out.2]
  rcases hst6.els j h1 h2 with q | q
  ·
   exact q.mono hb6.size
  ·
   exact q.els
 have HOK6 : Hid (∀ x ∈ E, EntOk x) := (loadT_ok HTT.out).1
 obtain ⟨n, hn⟩ : ∃ n, n = R.length := ⟨_, rfl⟩
 have HNR : Hid (n = R.length) := hn
 have hn1 : n ≤ 1000 := by have := HRS.out.1; omega
 rw [← hn]
 clear hst6 hb6 hn
 go_wp2_with fail
 go_loopw [14, 15, 17] (fun wv ev iv wr => ∃ (i : Nat) (pa : Option Addr) (pn pc : Nat) (ws : List Value) (ea : Option Addr) (en ec : Nat) (acc : List El), i ≤ n ∧ iv = .int .i64 (i : Int) ∧ wv = .slice pa pn pc ∧ ev = .slice ea en ec ∧ Hid (ws = (vs6.take i).map Prod.fst) ∧ Hid (acc = elsOf E (R.take i)) ∧ Hid (wr.ownsRow w6.heap.size 24 1 (.slice pa pn pc) ws.length ws) ∧ Hid (EOwn wr w6.heap.size (.slice ea en ec) acc) ∧ Hid (Below w6.heap.size w6 wr)) (fun _ _ iv _ => n - (intOf iv).toNat)
 case atStart => exact ⟨0, none, 0, 0, [], none, 0, 0, [], Nat.zero_le _, rfl, rfl, rfl, rfl, rfl, World.ownsRow_nil _ _ _ _, EOwn.nil _ _, Below.refl _ _⟩
 case round =>
  obtain ⟨i, pa, pn, pc, ws, ea, en, ec, acc, hi, rfl, rfl, rfl, HWS, HAC, HWO, HEO, HBR⟩ := hrel
  by_cases hlt : i < n
  ·
   have tl : decide ((i : Int) < (n : Int)) = true := decide_eq_true (by omega)
   have h2 : i < R.length := by rw [← HNR.out]; exact hlt
   have h1 : i < vs6.length := by rw [HST6.out.len]; exact h2
   obtain ⟨g, rfl, hg0, hg1⟩ : ∃ g, aa = some ⟨g, 0, none⟩ ∧ w6.cell? ⟨g, i * 2, none⟩ = some vs6[i].1 ∧ w6.cell? ⟨g, i * 2 + 1, none⟩ = some vs6[i].2 := by
    rcases HST6.out.row.2 with ⟨_, h0⟩ | ⟨g, cap, cur, q, _⟩
    ·
     omega
    ·
     obtain ⟨q1, -, -⟩ := Value.slice.inj q
     subst q1
     have hc := World.ownsRow.cells (g := g) HST6.out.row rfl
     obtain ⟨f1, f2⟩ := flatS_at vs6 i h1
     have r1 := hc _ _ f1
     have r2 := hc _ _ f2
     rw [Go.WideShapes.add_plain, Nat.zero_add] at r1 r2
     exact ⟨g, rfl, r1, r2⟩
   obtain ⟨⟨xa1, xn1, xc1, hp1⟩, xa2, xn2, xc2, hp2⟩ := HST6.out.one _ (List.getElem_mem h1)
   rw [hp1] at hg0
   rw [hp2] at hg1
   have hgl : g < w6.heap.size := by
    simp only [World.cell?] at hg0
    by_cases hx : g < w6.heap.size
    ·
     exact hx
    ·
     rw [Array.getElem?_eq_none (by omega)] at hg0; simp at hg0
   have f0 : wr.cell? ⟨g, i * 2, none⟩ = some (.slice xa1 xn1 xc1) := (HBR.out.cell (p := ⟨g, i * 2, none⟩) hgl).trans hg0
   have hE := (HEL6.out i h1 h2).below HBR.out (Nat.le_refl _)
   rw [hp2] at hE
   have HW1 : Hid (ws ++ [.slice xa1 xn1 xc1] = (vs6.take (i + 1)).map Prod.fst) := by
    show _ = _
    rw [HWS.out, List.take_succ_eq_append_getElem h1, List.map_append, List.map_cons, List.map_nil, hp1]
   have HA1 : Hid (acc ++ elOf E R[i] = elsOf E (R.take (i + 1))) := by
    show _ = _
    rw [HAC.out, List.take_succ_eq_append_getElem h2]
    unfold elsOf
    rw [List.flatMap_append, List.flatMap_singleton]
   have hel := elOf_len HOK6.out R[i]
   have hacl : acc.length ≤ 16000 := by
    have h3 := els_len16 HOK6.out (R.take i)
    rw [← HAC.out, List.length_take] at h3
    omega
   have hwl : ws.length ≤ 1000 := by rw [HWS.out, List.length_map, List.length_take]; omega
   generalize elOf E R[i] = ys at hE HA1 hel
   have hbA := (Below.refl wr.heap.size wr).alloc (Nat.le_refl _) (.cells #[.slice xa1 xn1 xc1] 24)
   have hnb := (Blk.new wr 24 #[.slice xa1 xn1 xc1]).cell 0
   have HBRA : Hid (Below w6.heap.size w6 (wr.alloc (.cells #[.slice xa1 xn1 xc1] 24))) := HBR.out.alloc HBR.out.size _
   have HWA : Hid ((wr.alloc (.cells #[.slice xa1 xn1 xc1] 24)).ownsRow w6.heap.size 24 1 (.slice pa pn pc) ws.length ws) := own_after HWO.out hbA
   have HEA : Hid (EOwn (wr.alloc (.cells #[.slice xa1 xn1 xc1] 24)) w6.heap.size (.slice ea en ec) acc) := own_after HEO.out hbA
   have HG1 : Hid (w6.cell? ⟨g, i * 2 + 1, none⟩ = some (.slice xa2 xn2 xc2)) := hg1
   have HE : Hid (Els w6.heap.size wr (.slice xa2 xn2 xc2) ys) := hE
   have hwA := HBRA.out.size
   have hws2 : ws.length ≤ 1000000000000 := by omega
   clear h1 h2 hg0 hg1 hE hbA hp1 hp2 HWO HEO HWS HAC
   go_upto_region 15 with (first | (at_builtin; refine wpList_append_slice rfl _ _ rfl w6.heap.size _ ws rfl HWA.out xa1 xn1 xc1 ⟨wr.heap.size, 0, none⟩ _ rfl hnb hws2 hwA ?_; intro v7 w7 hown7 hgr7 hat7; obtain ⟨a7, c7, rfl⟩ := row_val hown7))
   have HO7 : Hid (w7.ownsRow w6.heap.size 24 1 (.slice a7 (ws.length + 1) c7) (ws.length + 1) (ws ++ [.slice xa1 xn1 xc1])) := hown7
   have HB7 : Hid (Below w6.heap.size w6 w7) := HBRA.out.grown hgr7 hwA (fun j hj => (own_ge HWA.out hj).1)
   have HE7 : Hid (EOwn w7 w6.heap.size (.slice ea en ec) acc) := own_grown HEA.out hgr7 (apt_types HWA.out HEA.out (by decide))
   have HB67 : Hid (Below w6.heap.size wr w7) := ((Below.refl w6.heap.size wr).alloc HBR.out.size _).grown hgr7 hwA (fun j hj => (own_ge HWA.out hj).1)
   have HY7 : Hid (Els w6.heap.size w7 (.slice xa2 xn2 xc2) ys) := HE.out.below HB67.out (Nat.le_refl _)
   have f1 : w7.cell? ⟨g, i * 2 + 1, none⟩ = some (.slice xa2 xn2 xc2) := (HB7.out.cell (p := ⟨g, i * 2 + 1, none⟩) hgl).trans HG1.out
   have hw7 := HB7.out.size
   have hl7 : acc.length + ys.length ≤ 4000000000000 := by omega
   clear hown7 hgr7 hat7 HWA HEA HE HBRA HB67 f0 hnb hwA hws2 HG1
   go_wp2_with (first | (at_builtin; refine wpList_append_els rfl _ _ rfl w6.heap.size _ acc rfl HE7.out ys w6.heap.size _ rfl HY7.out hl7 hw7 ?_; intro a8 c8 w8 hown8 hb8 hgr8))
   have HE8 : Hid (EOwn w8 w6.heap.size (.slice a8 (acc.length + ys.length) c8) (acc ++ ys)) := hown8
   have HB8 : Hid (Below w6.heap.size w6 w8) := HB7.out.trans hb8
   have HO8 : Hid (w8.ownsRow w6.heap.size 24 1 (.slice a7 (ws.length + 1) c7) (ws ++ [Value.slice xa1 xn1 xc1]).length (ws ++ [.slice xa1 xn1 xc1])) := by
    have := own_grown HO7.out hgr8 (apt_types HE7.out HO7.out (by decide))
    rw [List.length_append]
    exact this
   clear hown8 hb8 hgr8 HE7 HO7 HB7 f1
   go_roundw
   case rel => exact ⟨i + 1, a7, ws.length + 1, c7, ws ++ [.slice xa1 xn1 xc1], a8, acc.length + ys.length, c8, acc ++ ys, by omega, by simp, rfl, rfl, HW1, HA1, HO8, HE8, HB8⟩
   case measure => simp only [intOf]; omega
  ·
   obtain rfl : n = i := by omega
   have tl : decide ((n : Int) < (n : Int)) = false := decide_eq_false (by omega)
   obtain ⟨w7, hw7⟩ : ∃ w7, w7 = wr := ⟨_, rfl⟩
   subst hw7
   have HWN : Hid (RIn w7 (.slice pa pn pc) R) := by
    refine want_in HST6.out HBR.out (b2 := w6.heap.size) ?_
    have h1 := HWO.out
    have h2 := HWS.out
    rw [List.take_of_length_le (by rw [HST6.out.len, HNR.out]; exact Nat.le_refl _)] at h2
    rw [h2, List.length_map, HST6.out.len] at h1
    exact h1
   have HEN : Hid (EOwn w7 w6.heap.size (.slice ea en ec) (elsOf E R)) := by
    have h1 := HEO.out
    rw [HAC.out, List.take_of_length_le (by rw [HNR.out]; exact Nat.le_refl _)] at h1
    exact h1
   clear HWO HEO HWS HAC HST6 HEL6
   have HA0_w7 : Hid (Below w.heap.size w w7) := HA0_w6.out.trans (HBR.out.mono HA0_w6.out.size)
   clear HA0_w6
   have HA1_w7 : Hid (Below w1.heap.size w1 w7) := HA1_w6.out.trans (HBR.out.mono HA1_w6.out.size)
   clear HA1_w6
   clear HBR
   have HA7_w7 : Hid (Below w7.heap.size w7 w7) := Below.refl _ _
   have HC07 : Hid (w.heap.size ≤ w7.heap.size) := HA0_w7.out.size
   have HC17 : Hid (w1.heap.size ≤ w7.heap.size) := HA1_w7.out.size
   have hic := ints_copy (w := w7) (Nat.le_refl _) (HLST.out.below HA0_w7.out).ints (by have := HZL.out.1; omega)
   go_wp2_with fail
   refine hic.mono ?_
   clear hic
   rintro r w8 ⟨v8, rfl, hown8, hb8⟩
   have HA0_w8 : Hid (Below w.heap.size w w8) := HA0_w7.out.trans (hb8.mono HA0_w7.out.size)
   clear HA0_w7
   have HA1_w8 : Hid (Below w1.heap.size w1 w8) := HA1_w7.out.trans (hb8.mono HA1_w7.out.size)
   clear HA1_w7
   have HA7_w8 : Hid (Below w7.heap.size w7 w8) := HA7_w7.out.trans (hb8.mono HA7_w7.out.size)
   clear HA7_w7
   obtain ⟨oa, oc, rfl⟩ := hown8.val
   have hbA := (Below.refl w8.heap.size w8).alloc (Nat.le_refl _) (.cells #[.int .i64 (-77)] 3)
   have hnb := Blk.new w8 3 #[.int .i64 (-77)]
   have HOA : Hid (IOwn (w8.alloc (.cells #[.int .i64 (-77)] 3)) w7.heap.size (.slice oa zs.length oc) zs) := own_after hown8 hbA
   have hone : ∀ j, j < [(-77 : Int)].length → (w8.alloc (.cells #[.int .i64 (-77)] 3)).cell? ((⟨w8.heap.size, 0, none⟩ : Addr).add j) = some (.int .i64 ([(-77 : Int)][j]?.getD 0)) := fun j hj => by
    obtain rfl : j = 0 := by simpa using hj
    exact hnb.cell 0
   have HONE : Hid _ := hone
   have hwA : w7.heap.size ≤ (w8.alloc (.cells #[.int .i64 (-77)] 3)).heap.size := Nat.le_trans hb8.size hbA.size
   have HBA8 : Hid (Below w8.heap.size w8 (w8.alloc (.cells #[.int .i64 (-77)] 3))) := hbA
   have hzl7 : zs.length + [(-77 : Int)].length ≤ 1099511627776 := by have := HZL.out.1; simp; omega
   clear hown8 hb8 hbA hnb hone
   go_upto_region 18 with (first | (at_builtin; refine wpList_append_ints rfl _ _ rfl w7.heap.size _ zs rfl HOA.out [-77] ⟨w8.heap.size, 0, none⟩ _ rfl HONE.out hzl7 hwA ?_; intro oa9 oc9 w9 hown9 hgr9 hni9 hat9))
   have HO9 : Hid (IOwn w9 w7.heap.size (.slice oa9 (zs.length + 1) oc9) (zs ++ [-77])) := hown9
   have hb79 : Below w7.heap.size w8 w9 := ((Below.refl w7.heap.size w8).alloc HA7_w8.out.size _).grown hgr9 hwA (fun j hj => (own_ge HOA.out hj).1)
   have HB89 : Hid (Below w7.heap.size w8 w9) := hb79
   clear hown9 hgr9 hni9 hat9 HOA HONE HBA8 hwA hzl7
   have HA0_w9 : Hid (Below w.heap.size w w9) := HA0_w8.out.trans (HB89.out.mono (HC07.out))
   have HA1_w9 : Hid (Below w1.heap.size w1 w9) := HA1_w8.out.trans (HB89.out.mono (HC17.out))
   have HA7_w9 : Hid (Below w7.heap.size w7 w9) := HA7_w8.out.trans (HB89.out.mono (Nat.le_refl _))
   clear HA0_w8 HA1_w8 HA7_w8
   obtain ⟨go, rfl⟩ : ∃ go, oa9 = some ⟨go, 0, none⟩ := by
    rcases HO9.out.form with ⟨_, h0⟩ | ⟨g, cap, h0, _⟩
    ·
     simp at h0
    ·
     exact ⟨g, (Value.slice.inj h0).1⟩
   have hcap9 : zs.length + 1 ≤ oc9 := by
    rcases HO9.out.form with ⟨_, h0⟩ | ⟨g, cap, h0, _, _, h1, _⟩
    ·
     simp at h0
    ·
     obtain ⟨_, _, rfl⟩ := Value.slice.inj h0
     simpa using h1
   have HIN9 : Hid (IOwn w9 w7.heap.size (.slice (some ⟨go, 0, none⟩) k oc9) zs) := by
    have := HO9.out.take (m := zs.length) (by simp)
    rw [List.take_append_of_le_length (Nat.le_refl _), List.take_length, ← HKZ.out] at this
    exact this
   have hkc : k ≤ oc9 := by rw [HKZ.out]; omega
   have hkl : k ≤ zs.length + 1 := by rw [HKZ.out]; omega
   have hst := steps_up HLL.out (HD1.out.below HA1_w9.out) (HT1.out.below HA1_w9.out) (HIN9.out.numb HLST.out.int (by have := HZL.out.1; omega)) HX.out.form (by have := HZL.out.1; omega)
   rw [← HR.out] at hst
   go_wp2_with fail
   refine hst.mono ?_
   clear hst
   rintro r wA ⟨vA, rfl, hrA, hbA⟩
   obtain ⟨na, nc, rfl⟩ := hrA.val
   have HRA : Hid (RowsUp wA w9.heap.size (.slice na R.length nc) R) := hrA
   have HC09 : Hid (w.heap.size ≤ w9.heap.size) := HA0_w9.out.size
   have HC19 : Hid (w1.heap.size ≤ w9.heap.size) := HA1_w9.out.size
   have HC79 : Hid (w7.heap.size ≤ w9.heap.size) := HA7_w9.out.size
   have HA9_w9 : Hid (Below w9.heap.size w9 w9) := Below.refl _ _
   have HA0_wA : Hid (Below w.heap.size w wA) := HA0_w9.out.trans (hbA.mono HA0_w9.out.size)
   clear HA0_w9
   have HA1_wA : Hid (Below w1.heap.size w1 wA) := HA1_w9.out.trans (hbA.mono HA1_w9.out.size)
   clear HA1_w9
   have HA7_wA : Hid (Below w7.heap.size w7 wA) := HA7_w9.out.trans (hbA.mono HA7_w9.out.size)
   clear HA7_w9
   have HA9_wA : Hid (Below w9.heap.size w9 wA) := HA9_w9.out.trans (hbA.mono HA9_w9.out.size)
   clear HA9_w9
   clear hrA hbA
   have HZ9 : Hid (w9.heap.size ≤ wA.heap.size) := HA9_wA.out.size
   have hel := elements_any HLL.out (HD1.out.below HA1_wA.out) (HT1.out.below HA1_wA.out) ((HIN9.out.numb HLST.out.int (by have := HZL.out.1; omega)).below HA9_wA.out) HX.out.form (by have := HZL.out.1; omega) (by have := HZL.out.2; omega)
   rw [← HR.out] at hel
   go_wp2_with fail
   refine hel.mono ?_
   clear hel
   rintro r wB ⟨vB, rfl, heB, hbB⟩
   obtain ⟨ba, bc, rfl⟩ := heB.els.val
   have HEB : Hid (EOwn wB wA.heap.size (.slice ba (elsOf E R).length bc) (elsOf E R)) := heB
   have HAA_wA : Hid (Below wA.heap.size wA wA) := Below.refl _ _
   have HA0_wB : Hid (Below w.heap.size w wB) := HA0_wA.out.trans (hbB.mono HA0_wA.out.size)
   clear HA0_wA
   have HA1_wB : Hid (Below w1.heap.size w1 wB) := HA1_wA.out.trans (hbB.mono HA1_wA.out.size)
   clear HA1_wA
   have HA7_wB : Hid (Below w7.heap.size w7 wB) := HA7_wA.out.trans (hbB.mono HA7_wA.out.size)
   clear HA7_wA
   have HA9_wB : Hid (Below w9.heap.size w9 wB) := HA9_wA.out.trans (hbB.mono HA9_wA.out.size)
   clear HA9_wA
   have HAA_wB : Hid (Below wA.heap.size wA wB) := HAA_wA.out.trans (hbB.mono HAA_wA.out.size)
   clear HAA_wA
   clear heB hbB
   have HZA : Hid (wA.heap.size ≤ wB.heap.size) := HAA_wB.out.size
   have hst := steps_any HLL.out (HD1.out.below HA1_wB.out) (HT1.out.below HA1_wB.out) ((HIN9.out.numb HLST.out.int (by have := HZL.out.1; omega)).below HA9_wB.out) HX.out.form (by have := HZL.out.1; omega)
   rw [← HR.out] at hst
   go_wp2_with fail
   refine hst.mono ?_
   clear hst
   rintro r wC ⟨vC, rfl, hrC, hbC⟩
   obtain ⟨ca, cc, rfl⟩ := hrC.val
   have HRC : Hid (RowsAt wC wB.heap.size (.slice ca R.length cc) R) := hrC
   have HAB_wB : Hid (Below wB.heap.size wB wB) := Below.refl _ _
   have HA0_wC : Hid (Below w.heap.size w wC) := HA0_wB.out.trans (hbC.mono HA0_wB.out.size)
   clear HA0_wB
   have HA1_wC : Hid (Below w1.heap.size w1 wC) := HA1_wB.out.trans (hbC.mono HA1_wB.out.size)
   clear HA1_wB
   have HA7_wC : Hid (Below w7.heap.size w7 wC) := HA7_wB.out.trans (hbC.mono HA7_wB.out.size)
   clear HA7_wB
   have HA9_wC : Hid (Below w9.heap.size w9 wC) := HA9_wB.out.trans (hbC.mono HA9_wB.out.size)
   clear HA9_wB
   have HAA_wC : Hid (Below wA.heap.size wA wC) := HAA_wB.out.trans (hbC.mono HAA_wB.out.size)
   clear HAA_wB
   have HAB_wC : Hid (Below wB.heap.size wB wC) := HAB_wB.out.trans (hbC.mono HAB_wB.out.size)
   clear HAB_wB
   clear hrC hbC
   have HZB : Hid (wB.heap.size ≤ wC.heap.size) := HAB_wC.out.size
   have hrw := rows_any ((HRA.out.at.rin).go HAA_wC.out) (HWN.out.go HA7_wC.out) (by have := HRS.out.1; omega) (by have := HRS.out.1; omega) HRS.out.2 HRS.out.2
   rw [decide_eq_true rfl] at hrw
   go_wp2_with fail
   refine hrw.mono ?_
   clear hrw
   rintro r wD ⟨rfl, hbD⟩
   have HAC_wC : Hid (Below wC.heap.size wC wC) := Below.refl _ _
   have HA0_wD : Hid (Below w.heap.size w wD) := HA0_wC.out.trans (hbD.mono HA0_wC.out.size)
   clear HA0_wC
   have HA1_wD : Hid (Below w1.heap.size w1 wD) := HA1_wC.out.trans (hbD.mono HA1_wC.out.size)
   clear HA1_wC
   have HA7_wD : Hid (Below w7.heap.size w7 wD) := HA7_wC.out.trans (hbD.mono HA7_wC.out.size)
   clear HA7_wC
   have HA9_wD : Hid (Below w9.heap.size w9 wD) := HA9_wC.out.trans (hbD.mono HA9_wC.out.size)
   clear HA9_wC
   have HAA_wD : Hid (Below wA.heap.size wA wD) := HAA_wC.out.trans (hbD.mono HAA_wC.out.size)
   clear HAA_wC
   have HAB_wD : Hid (Below wB.heap.size wB wD) := HAB_wC.out.trans (hbD.mono HAB_wC.out.size)
   clear HAB_wC
   have HAC_wD : Hid (Below wC.heap.size wC wD) := HAC_wC.out.trans (hbD.mono HAC_wC.out.size)
   clear HAC_wC
   clear hbD
   have HELN : Hid ((elsOf E R).length ≤ 16000) := by
    have h1 := els_len16 HOK6.out R
    have h2 := HRS.out.1
    show _ ≤ _
    omega
   have hse := sameEls_any _ _ (elsOf E R) (elsOf E R) wB.heap.size w7.heap.size wD (HEB.out.els.below HAB_wD.out (Nat.le_refl _)) (HEN.out.els.below HA7_wD.out (Nat.le_refl _)) (by have := HELN.out; omega) (by have := HELN.out; omega)
   rw [decide_eq_true rfl] at hse
   go_wp2_with fail
   refine hse.mono ?_
   clear hse
   rintro r wE ⟨rfl, hbE⟩
   have HA0_wE : Hid (Below w.heap.size w wE) := HA0_wD.out.trans (hbE.mono HA0_wD.out.size)
   clear HA0_wD
   have HA1_wE : Hid (Below w1.heap.size w1 wE) := HA1_wD.out.trans (hbE.mono HA1_wD.out.size)
   clear HA1_wD
   have HA7_wE : Hid (Below w7.heap.size w7 wE) := HA7_wD.out.trans (hbE.mono HA7_wD.out.size)
   clear HA7_wD
   have HA9_wE : Hid (Below w9.heap.size w9 wE) := HA9_wD.out.trans (hbE.mono HA9_wD.out.size)
   clear HA9_wD
   have HAA_wE : Hid (Below wA.heap.size wA wE) := HAA_wD.out.trans (hbE.mono HAA_wD.out.size)
   clear HAA_wD
   have HAB_wE : Hid (Below wB.heap.size wB wE) := HAB_wD.out.trans (hbE.mono HAB_wD.out.size)
   clear HAB_wD
   have HAC_wE : Hid (Below wC.heap.size wC wE) := HAC_wD.out.trans (hbE.mono HAC_wD.out.size)
   clear HAC_wD
   clear hbE
   obtain ⟨vs1, HVL, HVA, HVB, HV0⟩ : ∃ vs1 : List Value, Hid (vs1.length = R.length) ∧ Hid (∀ (i j : Nat) (hi : i < vs1.length) (hj : j < vs1.length), i < j → Apt vs1[i] vs1[j]) ∧ Hid (∀ j (hj : j < vs1.length), ∀ b, vs1[j].ownBlock = some b → b < wA.heap.size) ∧ Hid (0 < R.length → ∃ g, na = some ⟨g, 0, none⟩ ∧ w9.heap.size ≤ g ∧ g < wA.heap.size ∧ OneR wE w9.heap.size g vs1 R 0) := by
    obtain ⟨vs1, q1, q2, q3, q4⟩ := HRA.out.oneR
    refine ⟨vs1, q1, q2, q3, fun h => ?_⟩
    obtain ⟨g, cap, e1, e2, e3, e4⟩ := q4 h
    obtain ⟨rfl, _, _⟩ := Value.slice.inj e1
    obtain ⟨cs, hB, hs⟩ := e4.blk
    exact ⟨g, rfl, e2, e3, ⟨⟨cs, hB.below HAA_wE.out hB.lt, hs⟩, fun j hj hij => (HAA_wE.out.cell (p := ⟨g, j, none⟩) e3).trans (e4.cell j hj hij), fun j h1 h2 hij => own_after (e4.pts j h1 h2 hij) HAA_wE.out⟩⟩
   have HSZ : Hid (w9.heap.size ≤ wA.heap.size ∧ wA.heap.size ≤ wB.heap.size ∧ wB.heap.size ≤ wC.heap.size ∧ wC.heap.size ≤ wE.heap.size) := ⟨HZ9.out, HZA.out, HZB.out, HAC_wE.out.size⟩
   rw [← HNR.out]
   clear HRA
   go_wp2_with fail
   go_loopw [24] (fun iv wr => ∃ i : Nat, i ≤ n ∧ iv = .int .i64 (i : Int) ∧ Hid (i < n → ∃ g, na = some ⟨g, 0, none⟩ ∧ w9.heap.size ≤ g ∧ g < wA.heap.size ∧ OneR wr w9.heap.size g vs1 R i) ∧ Hid (Wr w9.heap.size wA.heap.size wE wr)) (fun iv _ => n - (intOf iv).toNat)
   case atStart => exact ⟨0, Nat.zero_le _, rfl, fun h => HV0.out (by rw [← HNR.out]; exact h), Wr.refl _ _ _⟩
   case round =>
    obtain ⟨i, hi, rfl, HON, HW⟩ := hrel
    by_cases hlt : i < n
    ·
     have tl : decide ((i : Int) < (n : Int)) = true := decide_eq_true (by omega)
     obtain ⟨g, rfl, hg1, hg2, hO⟩ := HON.out hlt
     have hi2 : i < R.length := by rw [← HNR.out]; exact hlt
     have hi1 : i < vs1.length := by rw [HVL.out]; exact hi2
     have hM := Mid.start hO HW.out hi1 hi2 HVA.out HVB.out
     have hms : R[i].length ≤ 4611686018427387904 := HRS.out.2 _ (List.getElem_mem hi2)
     have hms2 : R[i].length ≤ 1000 := by
      have h3 := HR.out
      have h4 : R[i] ∈ stepsD (classAt L) (fndT E) X := by rw [← h3]; exact List.getElem_mem hi2
      have := stepsD_short X _ h4
      have := HZL.out.2
      omega
     have HBG : Hid (w9.heap.size ≤ g ∧ g < wA.heap.size ∧ wA.heap.size ≤ wE.heap.size) := ⟨hg1, by have := HSZ.out; omega, by have := HSZ.out; omega⟩
     have HIL : Hid (i < R.length) := hi2
     have HLT : Hid (∀ j (hj : j < vs1.length), ∀ b, vs1[j].ownBlock = some b → b < wA.heap.size) := HVB.out
     generalize vs1[i] = vp at hM
     generalize R[i].length = m1 at hM hms hms2
     have HMX : Hid (Mid wE wr w9.heap.size wA.heap.size g i vs1 R vp m1) := hM
     obtain ⟨pa1, pc1, hvp⟩ : ∃ pa pc, vp = .slice pa m1 pc := by
      obtain ⟨z1, hz, hI⟩ := hM.row
      obtain ⟨a', c', q⟩ := hI.val
      rw [hz] at q
      exact ⟨a', c', q⟩
     subst hvp
     clear hM hO hi1 hi2 HON HW
     go_wp2_with fail
     go_loopw [25] (fun kv wy => ∃ k1 : Nat, k1 ≤ m1 ∧ kv = .int .i64 (k1 : Int) ∧ Hid (Mid wE wy w9.heap.size wA.heap.size g i vs1 R (.slice pa1 m1 pc1) m1)) (fun kv _ => m1 - (intOf kv).toNat)
     case atStart => exact ⟨0, Nat.zero_le _, rfl, HMX.out⟩
     case round =>
      obtain ⟨k1, hk, rfl, HM⟩ := hrel
      have e1 := HM.out.cell
      by_cases hk2 : k1 < m1
      ·
       have tk : decide ((k1 : Int) < (m1 : Int)) = true := decide_eq_true (by omega)
       obtain ⟨b, rfl, hbc, hbf⟩ := HM.out.row.nth (by omega)
       obtain ⟨u, eu⟩ := hbc k1 hk2
       have ef := hbf k1
       have HM2 : Hid (Mid wE (_ : World) w9.heap.size wA.heap.size g i vs1 R (.slice (some ⟨b, 0, none⟩) m1 pc1) m1) := HM.out.put k1 (-5)
       clear hbc hbf HM
       go_wp2_with fail
       go_roundw
       case rel => exact ⟨k1 + 1, by omega, by simp, HM2.out⟩
       case measure => simp only [intOf]; omega
      ·
       have tk : decide ((k1 : Int) < (m1 : Int)) = false := decide_eq_false (by omega)
       go_wp2_with fail
       go_loopw [26] (fun kv wz => ∃ (k2 n2 : Nat) (v5 : Value), k2 ≤ 9 ∧ kv = .int .i64 (k2 : Int) ∧ Hid (n2 = m1 + k2) ∧ Hid (Mid wE wz w9.heap.size wA.heap.size g i vs1 R v5 n2)) (fun kv _ => 9 - (intOf kv).toNat)
       case atStart => exact ⟨0, m1, _, Nat.zero_le _, rfl, rfl, HM.out⟩
       case round =>
        clear e1 HM
        obtain ⟨k5, n5, v5, hk5, rfl, hn5, HM⟩ := hrel
        have e1 := HM.out.cell
        by_cases hk6 : k5 < 9
        ·
         have tk6 : decide ((k5 : Int) < 9) = true := decide_eq_true (by omega)
         obtain ⟨v6, w6', hr6, hc6, hf6, HM6⟩ := HM.out.app (by have := hn5.out; omega) HLT.out HIL.out HBG.out (-6) 24
         have e1a : (wr.alloc (.cells #[.int .i64 (-6)] 3)).cell? ⟨g, i, none⟩ = some v5 := HM.out.cellA _
         obtain ⟨a6, c6, hv6⟩ : ∃ a6 c6, v6 = .slice a6 (n5 + 1) c6 := by
          obtain ⟨z1, hz, hI⟩ := HM6.row
          obtain ⟨a', c', q⟩ := hI.val
          rw [hz] at q
          exact ⟨a', c', q⟩
         subst hv6
         have HM7 : Hid (Mid wE (w6'.setCell ⟨g, i, none⟩ (.slice a6 (n5 + 1) c6)) w9.heap.size wA.heap.size g i vs1 R (.slice a6 (n5 + 1) c6) (n5 + 1)) := HM6
         clear HM6 HM
         go_wp2_with (at_builtin; refine wpList_app rfl _ _ 24 rfl rfl rfl ?_; refine ⟨_, w6', hr6, ?_⟩)
         go_roundw
         case rel => exact ⟨k5 + 1, n5 + 1, _, by omega, by simp, (by have := hn5.out; show n5 + 1 = m1 + (k5 + 1); omega), HM7.out⟩
         case measure => simp only [intOf]; omega
        ·
         have tk6 : decide ((k5 : Int) < 9) = false := decide_eq_false (by omega)
         have HWW : Hid (Wr w9.heap.size wA.heap.size wE wr) := HM.out.wrote
         have HOO : Hid (OneR wr w9.heap.size g vs1 R (i + 1)) := HM.out.one
         clear HM e1
         go_wp2_with fail
         go_roundw
         case rel => exact ⟨i + 1, by omega, by simp, fun _ => ⟨g, rfl, hg1, hg2, HOO.out⟩, HWW.out⟩
         case measure => simp only [intOf]; omega
    ·
     have tl : decide ((i : Int) < (n : Int)) = false := decide_eq_false (by omega)
     obtain ⟨wF, hwF⟩ : ∃ wF, wF = wr := ⟨_, rfl⟩
     subst hwF
     have HWF : Hid (Wr w9.heap.size wA.heap.size wE wF) := HW.out
     have HB0 : Hid (0 < (elsOf E R).length → ∃ g cs, ba = some ⟨g, 0, none⟩ ∧ wA.heap.size ≤ g ∧ g < wB.heap.size ∧ Blk wF g 54 cs ∧ (elsOf E R).length * 4 ≤ cs.size) := fun h => by
      rcases HEB.out.2 with ⟨_, h0⟩ | ⟨g, cap, cur, q, q2, q3, q4, _, q5, _⟩
      ·
       omega
      ·
       obtain ⟨q6, _, _⟩ := Value.slice.inj q
       have hB : Blk wB g 54 cur := q3
       have hlt := hB.lt
       have hE : Blk wE g 54 cur := hB.below HAB_wE.out hlt
       exact ⟨g, cur, q6, q2, hlt, (HWF.out.above g q2 hE.lt).trans hE, by omega⟩
     obtain ⟨en1, hen⟩ : ∃ en1, (elsOf E R).length = en1 := ⟨_, rfl⟩
     have HENL : Hid ((elsOf E R).length = en1) := hen
     have hen2 : en1 ≤ 16000 := by rw [← hen]; exact HELN.out
     rw [hen] at HB0 ⊢
     have HWB : Hid (Wr w9.heap.size wB.heap.size wE wF) := ⟨HWF.out.below, fun b h1 h2 => HWF.out.above b (Nat.le_trans HSZ.out.2.1 h1) h2⟩
     clear HON HW HV0 HVA HVB HVL hen HWF
     go_wp2_with fail
     go_loopw [27] (fun iv wr => ∃ i : Nat, i ≤ en1 ∧ iv = .int .i64 (i : Int) ∧ Hid (0 < en1 → ∃ g cs, ba = some ⟨g, 0, none⟩ ∧ wA.heap.size ≤ g ∧ g < wB.heap.size ∧ Blk wr g 54 cs ∧ en1 * 4 ≤ cs.size) ∧ Hid (Wr w9.heap.size wB.heap.size wE wr)) (fun iv _ => en1 - (intOf iv).toNat)
     case atStart => exact ⟨0, Nat.zero_le _, rfl, HB0.out, HWB.out⟩
     case round =>
      clear HB0 HWB
      obtain ⟨i, hi, rfl, HB, HW⟩ := hrel
      by_cases hlt : i < en1
      ·
       have tl5 : decide ((i : Int) < (en1 : Int)) = true := decide_eq_true (by omega)
       obtain ⟨g, cs, rfl, hg1, hg2, hB, hcs⟩ := HB.out (by omega)
       have q : ∀ j, j < 4 → wr.cell? ⟨g, i * 4 + j, none⟩ = some (cs[i * 4 + j]?.getD undef) := fun j hj => by
        rw [hB.cell, Array.getElem?_eq_getElem (by omega)]
        rfl
       have q0 : wr.cell? ⟨g, i * 4, none⟩ = some (cs[i * 4]?.getD undef) := q 0 (by omega)
       have q1 := q 1 (by omega)
       have q2 := q 2 (by omega)
       have q3 := q 3 (by omega)
       have r0 := hB.frozen (i * 4)
       have r1 := hB.frozen (i * 4 + 1)
       have r2 := hB.frozen (i * 4 + 2)
       have r3 := hB.frozen (i * 4 + 3)
       generalize cs[i * 4]?.getD undef = u0 at q0
       generalize cs[i * 4 + 1]?.getD undef = u1 at q1
       generalize cs[i * 4 + 2]?.getD undef = u2 at q2
       generalize cs[i * 4 + 3]?.getD undef = u3 at q3
       have HB2 : Hid (∃ cs, Blk ((((wr.setCell ⟨g, i * 4, none⟩ (.bool false)).setCell ⟨g, i * 4 + 1, none⟩ (.int .i64 (-5))).setCell ⟨g, i * 4 + 2, none⟩ (.int .i64 0)).setCell ⟨g, i * 4 + 3, none⟩ (.int .i64 0)) g 54 cs ∧ en1 * 4 ≤ cs.size) := ⟨_, (((hB.set _ _).set _ _).set _ _).set _ _, by simpa using hcs⟩
       have hgl : w9.heap.size ≤ g := Nat.le_trans HSZ.out.1 hg1
       have HW2 : Hid (Wr w9.heap.size wB.heap.size wE ((((wr.setCell ⟨g, i * 4, none⟩ (.bool false)).setCell ⟨g, i * 4 + 1, none⟩ (.int .i64 (-5))).setCell ⟨g, i * 4 + 2, none⟩ (.int .i64 0)).setCell ⟨g, i * 4 + 3, none⟩ (.int .i64 0))) := (((HW.out.set2 hgl (.inl hg2) _).set2 hgl (.inl hg2) _).set2 hgl (.inl hg2) _).set2 hgl (.inl hg2) _
       clear q hB hcs HB HW hgl
       go_wp2_with fail
       go_roundw
       case rel => exact ⟨i + 1, by omega, by simp, fun _ => by obtain ⟨cs2, z1, z2⟩ := HB2.out; exact ⟨g, cs2, rfl, hg1, hg2, z1, z2⟩, HW2.out⟩
       case measure => simp only [intOf]; omega
      ·
       have tl5 : decide ((i : Int) < (en1 : Int)) = false := decide_eq_false (by omega)
       obtain ⟨wG, hwG⟩ : ∃ wG, wG = wr := ⟨_, rfl⟩
       subst hwG
       have HWG : Hid (Wr w9.heap.size wB.heap.size wE wG) := HW.out
       have HRG : Hid (RowsAt wG wB.heap.size (.slice ca n cc) R) := by
        rw [HNR.out]
        exact (HRC.out.go HAC_wE.out).wr HWG.out (Nat.le_refl _)
       clear HB HW HRC
       have HA0_wG : Hid (Below w.heap.size w wG) := HA0_wE.out.trans (HWG.out.below.mono HC09.out)
       clear HA0_wE
       have HA1_wG : Hid (Below w1.heap.size w1 wG) := HA1_wE.out.trans (HWG.out.below.mono HC19.out)
       clear HA1_wE
       have HA7_wG : Hid (Below w7.heap.size w7 wG) := HA7_wE.out.trans (HWG.out.below.mono HC79.out)
       clear HA7_wE
       have HA9_wG : Hid (Below w9.heap.size w9 wG) := HA9_wE.out.trans (HWG.out.below.mono (Nat.le_refl _))
       clear HA9_wE
       clear HAA_wE
       clear HAB_wE
       clear HAC_wE
       clear HWG
       have hsi := sameInts_any (.slice (some ⟨go, 0, none⟩) k oc9) (.slice a k c) zs zs w9.heap.size w.heap.size wG (HIN9.out.ints.below HA9_wG.out (Nat.le_refl _)) (HLST.out.ints.below HA0_wG.out (Nat.le_refl _)) (by have := HZL.out.1; omega) (by have := HZL.out.1; omega)
       rw [decide_eq_true rfl] at hsi
       go_wp2_with fail
       refine hsi.mono ?_
       clear hsi
       rintro r wH ⟨rfl, hbH⟩
       have HA0_wH : Hid (Below w.heap.size w wH) := HA0_wG.out.trans (hbH.mono HA0_wG.out.size)
       clear HA0_wG
       have HA1_wH : Hid (Below w1.heap.size w1 wH) := HA1_wG.out.trans (hbH.mono HA1_wG.out.size)
       clear HA1_wG
       have HA7_wH : Hid (Below w7.heap.size w7 wH) := HA7_wG.out.trans (hbH.mono HA7_wG.out.size)
       clear HA7_wG
       have HA9_wH : Hid (Below w9.heap.size w9 wH) := HA9_wG.out.trans (hbH.mono HA9_wG.out.size)
       clear HA9_wG
       have HRH : Hid (RowsAt wH wB.heap.size (.slice ca n cc) R) := HRG.out.go hbH
       clear hbH HRG
       have c9 : wH.cell? ⟨go, k, none⟩ = some (.int .i64 (-77)) := by
        rcases HO9.out.form with ⟨_, h0⟩ | ⟨g, cap, h0, _, h1, _, h2, _⟩
        ·
         simp at h0
        ·
         obtain ⟨h3, -, -⟩ := Value.slice.inj h0
         cases h3
         refine (HA9_wH.out.cell (p := ⟨go, k, none⟩) h1).trans ((h2 k (by rw [HKZ.out]; simp)).trans ?_)
         rw [HKZ.out]
         simp
       have hk9 : (k : Int) < ((zs.length + 1 : Nat) : Int) := by have := HKZ.out; omega
       have hk10 : k < zs.length + 1 := by have := HKZ.out; omega
       have hrw := rows_any HRH.out.rin (HWN.out.go HA7_wH.out) (by have := HRS.out.1; omega) (by have := HRS.out.1; omega) HRS.out.2 HRS.out.2
       rw [decide_eq_true rfl] at hrw
       go_wp2_with fail
       refine hrw.mono ?_
       clear hrw c9 hk9
       rintro r wI ⟨rfl, hbI⟩
       have HA0_wI : Hid (Below w.heap.size w wI) := HA0_wH.out.trans (hbI.mono HA0_wH.out.size)
       clear HA0_wH
       have HA1_wI : Hid (Below w1.heap.size w1 wI) := HA1_wH.out.trans (hbI.mono HA1_wH.out.size)
       clear HA1_wH
       have HA7_wI : Hid (Below w7.heap.size w7 wI) := HA7_wH.out.trans (hbI.mono HA7_wH.out.size)
       clear HA7_wH
       have HA9_wI : Hid (Below w9.heap.size w9 wI) := HA9_wH.out.trans (hbI.mono HA9_wH.out.size)
       clear HA9_wH
       clear hbI HRH
       have hst := steps_any HLL.out (HD1.out.below HA1_wI.out) (HT1.out.below HA1_wI.out) ((HIN9.out.numb HLST.out.int (by have := HZL.out.1; omega)).below HA9_wI.out) HX.out.form (by have := HZL.out.1; omega)
       rw [← HR.out] at hst
       go_wp2_with fail
       refine hst.mono ?_
       clear hst
       rintro r wJ ⟨vJ, rfl, hrJ, hbJ⟩
       obtain ⟨ja, jc, rfl⟩ := hrJ.val
       have HRJ : Hid (RowsAt wJ wI.heap.size (.slice ja R.length jc) R) := hrJ
       have HA0_wJ : Hid (Below w.heap.size w wJ) := HA0_wI.out.trans (hbJ.mono HA0_wI.out.size)
       clear HA0_wI
       have HA1_wJ : Hid (Below w1.heap.size w1 wJ) := HA1_wI.out.trans (hbJ.mono HA1_wI.out.size)
       clear HA1_wI
       have HA7_wJ : Hid (Below w7.heap.size w7 wJ) := HA7_wI.out.trans (hbJ.mono HA7_wI.out.size)
       clear HA7_wI
       have HA9_wJ : Hid (Below w9.heap.size w9 wJ) := HA9_wI.out.trans (hbJ.mono HA9_wI.out.size)
       clear HA9_wI
       clear hrJ hbJ
       have hrw := rows_any HRJ.out.rin (HWN.out.go HA7_wJ.out) (by have := HRS.out.1; omega) (by have := HRS.out.1; omega) HRS.out.2 HRS.out.2
       rw [decide_eq_true rfl] at hrw
       go_wp2_with fail
       refine hrw.mono ?_
       clear hrw
       rintro r wK ⟨rfl, hbK⟩
       have HA0_wK : Hid (Below w.heap.size w wK) := HA0_wJ.out.trans (hbK.mono HA0_wJ.out.size)
       clear HA0_wJ
       have HA1_wK : Hid (Below w1.heap.size w1 wK) := HA1_wJ.out.trans (hbK.mono HA1_wJ.out.size)
       clear HA1_wJ
       have HA7_wK : Hid (Below w7.heap.size w7 wK) := HA7_wJ.out.trans (hbK.mono HA7_wJ.out.size)
       clear HA7_wJ
       have HA9_wK : Hid (Below w9.heap.size w9 wK) := HA9_wJ.out.trans (hbK.mono HA9_wJ.out.size)
       clear HA9_wJ
       clear hbK HRJ
       have hel := elements_any HLL.out (HD1.out.below HA1_wK.out) (HT1.out.below HA1_wK.out) ((HIN9.out.numb HLST.out.int (by have := HZL.out.1; omega)).below HA9_wK.out) HX.out.form (by have := HZL.out.1; omega) (by have := HZL.out.2; omega)
       rw [← HR.out] at hel
       go_wp2_with fail
       refine hel.mono ?_
       clear hel
       rintro r wL ⟨vL, rfl, heL, hbL⟩
       obtain ⟨la, lc, rfl⟩ := heL.els.val
       have HEL : Hid (EOwn wL wK.heap.size (.slice la (elsOf E R).length lc) (elsOf E R)) := heL
       have HA0_wL : Hid (Below w.heap.size w wL) := HA0_wK.out.trans (hbL.mono HA0_wK.out.size)
       clear HA0_wK
       have HA1_wL : Hid (Below w1.heap.size w1 wL) := HA1_wK.out.trans (hbL.mono HA1_wK.out.size)
       clear HA1_wK
       have HA7_wL : Hid (Below w7.heap.size w7 wL) := HA7_wK.out.trans (hbL.mono HA7_wK.out.size)
       clear HA7_wK
       have HA9_wL : Hid (Below w9.heap.size w9 wL) := HA9_wK.out.trans (hbL.mono HA9_wK.out.size)
       clear HA9_wK
       clear heL hbL
       have hse := sameEls_any _ _ (elsOf E R) (elsOf E R) wL.heap.size w7.heap.size wL HEL.out.els (HEN.out.els.below HA7_wL.out (Nat.le_refl _)) (by have := HELN.out; omega) (by have := HELN.out; omega)
       rw [decide_eq_true rfl] at hse
       go_wp2_with fail
       refine hse.mono ?_
       clear hse
       rintro r wM ⟨rfl, hbM⟩
       go_wp2_with fail
       go_ret
       exact ⟨rfl, HA0_wL.out.trans (hbM.mono HA0_wL.out.size)⟩
end Go.Proofs.YtkcnjnccdafbfaaGreatDoor
