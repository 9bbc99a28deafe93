/- What MatchCovers does (a contract; nothing is claimed here). -/
import Derived.Test.YtkcnjnccdafbfaaDoorCovM
namespace Go.Proofs.YtkcnjnccdafbfaaDoor
open Go.RowKit Go.Vf Go.Maps

theorem steps_drop {cls : Int → Int} {fnd : List Int → Bool} {rs : List (List Int)} {l : List Int} {i : Nat} (h : rs.drop i = stepsD cls fnd l) (hi : i < rs.length) : l ≠ [] ∧ rs[i] = (stepD cls fnd l).1 ∧ rs.drop (i + 1) = stepsD cls fnd (stepD cls fnd l).2 := by
  rw [List.drop_eq_getElem_cons hi] at h
  have hl : l ≠ [] := fun e => by rw [e, stepsD_nil] at h; cases h
  rw [stepsD_cons hl] at h
  exact ⟨hl, (List.cons.inj h).1, (List.cons.inj h).2⟩

set_option maxHeartbeats 16000000 in
set_option maxRecDepth 20000 in
theorem covers_walk (m e : ByteArray) (hm : m.size ≤ 281474976710656) (he : e.size ≤ 281474976710656) (a : Option Addr) (k c : Nat) (zs : List Int) (w : World) (hg : Glob w) (ha : Lst w a k c zs) :
    Calls Tryd.prog 3 #[.agg #[.string m, .string e], .slice a k c] w fun r w' => r = .returned (.bool true) ∧ Below w.heap.size w w' := by
  obtain ⟨w0, hw0, hb0, c0, c1⟩ := box_new w m e
  have hbo := both_any m e hm he w0 (hg.below hb0)
  go_enter Tryd.func3, Tryd.ntmps3
  go_wp2_with fail
  rw [← hw0]
  clear hw0
  go_wp2_with fail
  refine hbo.mono ?_
  rintro r w1 ⟨hb1, hcase⟩
  have hb01 := hb0.trans (hb1.mono hb0.size)
  have hg1 := hg.below hb01
  clear hbo c0 c1
  rcases hcase with ⟨L, F, E, bd, T, rfl, hL, hT, hd, me, ml, val, ht⟩ | ⟨d, t, rfl, _⟩
  · have ha1 := ha.below hb01
    have hf1 := few_any hd ha1
    by_cases hfa : (flatR F zs).length ≤ 1000
    · rw [decide_eq_true hfa] at hf1
      go_wp2_with fail
      refine hf1.mono ?_
      rintro r w2 ⟨rfl, hb2⟩
      have hb02 := hb01.trans (hb2.mono hb01.size)
      have hd2 := hd.below hb2
      have ht2 := ht.below hb2
      have hg2 := hg1.below hb2
      have htok := ht.ok
      obtain ⟨X, hX⟩ := formed_exists hL zs
      have hXl := few_len hd2 hfa hX
      have ha2 := (ha1.below hb2).numb (by omega)
      clear hf1 ha1 hd ht hg1 hb01 hb1 hb2 hb0
      go_wp2_with fail
      refine (form_load hL hd2 ha2).mono ?_
      intro r w3 hpost
      obtain ⟨gx, kx, cx, X', rfl, hownX, hX', hb3⟩ := hpost.formed
      obtain rfl : X' = X := FormOf.same hX'.form hX.form
      have hkx := hownX.form1
      subst hkx
      have hb03 := hb02.trans (hb3.mono hb02.size)
      have hd3 := hd2.below hb3
      have ht3 := ht2.below hb3
      have hg3 := hg2.below hb3
      have ha3 := ha2.below hb3
      clear hd2 ht2 hg2 ha2 hb02 hb3 hpost hX'
      go_wp2_with fail
      refine (steps_any hL hd3 ht3 ha3 hX.form (by omega)).mono ?_
      rintro r w4 ⟨v4, rfl, hr4, hb4⟩
      have hb04 := hb03.trans (hb4.mono hb03.size)
      have hd4 := hd3.below hb4
      have ht4 := ht3.below hb4
      have hg4 := hg3.below hb4
      have ha4 := ha3.below hb4
      have hX4 : IOwn w4 _ _ X' := own_after hownX hb4
      have R4 := hr4.rin
      have hX1 := hXl.2
      clear hd3 ht3 hg3 ha3 hb03 hb4 hr4 hownX
      go_wp2_with fail
      refine (ints_copy (Nat.le_refl _) hX4.ints (by omega)).mono ?_
      rintro r w5 ⟨v5, rfl, hown5, hb5⟩
      have hb05 := hb04.trans (hb5.mono hb04.size)
      have hd5 := hd4.below hb5
      have ht5 := ht4.below hb5
      have hg5 := hg4.below hb5
      have ha5 := ha4.below hb5
      have R5 := R4.go hb5
      obtain ⟨a5, c5, rfl⟩ := hown5.val
      clear hd4 ht4 hg4 ha4 hb04 hb5 R4 hX4
      have hel5 := elements_any hL hd5 ht5 ha5 hX.form (by omega) (by omega)
      have hsl := stepsD_length (cls := classAt L) (fnd := fndT E) X'
      have hssh := stepsD_short (cls := classAt L) (fnd := fndT E) X'
      have hsne := stepsD_ne (cls := classAt L) (fnd := fndT E) X'
      have hsrow := stepsD_row (cls := classAt L) (fnd := fndT E) X'
      have HX0 : Hid ((stepsD (classAt L) (fndT E) X').drop 0 = stepsD (classAt L) (fndT E) X' ∧ [] ++ elsOf E ((stepsD (classAt L) (fndT E) X').drop 0) = elsOf E (stepsD (classAt L) (fndT E) X')) := ⟨by simp, by simp⟩
      generalize hrs : stepsD (classAt L) (fndT E) X' = rs at hsl hssh hsne hsrow R5 HX0
      have hown50 := hown5.mono (Nat.zero_le _)
      obtain ⟨ra, rc, rfl, hR5⟩ := R5
      have HRS : Hid (stepsD (classAt L) (fndT E) X' = rs) := hrs
      clear hrs hown5
      go_wp2_with fail
      go_loopw [10, 11, 12] (fun lv wv iv wr => ∃ (i : Nat) (lft : List Int) (acc : List El) (la : Option Addr) (lc : Nat) (wa : Option Addr) (wc : Nat), iv = .int .i64 i ∧ i ≤ rs.length ∧ lv = .slice la lft.length lc ∧ wv = .slice wa acc.length wc ∧ Aside (IOwn wr 0 (.slice la lft.length lc) lft) ∧ Aside (EOwn wr w5.heap.size (.slice wa acc.length wc) acc) ∧ Hid (rs.drop i = stepsD (classAt L) (fndT E) lft ∧ acc ++ elsOf E (rs.drop i) = elsOf E rs) ∧ Hid (lft.length ≤ 1000 ∧ acc.length ≤ 16 * i) ∧ Below w5.heap.size w5 wr) (fun _ _ iv _ => rs.length - (intOf iv).toNat)
      case atStart => exact ⟨0, X', [], a5, c5, none, 0, rfl, by omega, rfl, rfl, hown50, EOwn.nil _ _, ⟨by rw [HX0.out.1, HRS.out], HX0.out.2⟩, ⟨hX1, by simp⟩, Below.refl _ _⟩
      case round =>
        clear HX0 hown50
        obtain ⟨i, lft, acc, la, lc, wa, wcc, rfl, hi, rfl, rfl, HLO, HWO, HD, HLN, hbr⟩ := hrel
        by_cases hlt : i < rs.length
        · obtain ⟨hl0, hri, hdi⟩ := steps_drop HD.out.1 hlt
          have hhd := stepD_head (cls := classAt L) (fnd := fndT E) hl0
          have hlen := stepD_len (cls := classAt L) (fnd := fndT E) lft
          have her := stepD_erase (cls := classAt L) (fnd := fndT E) lft
          have hrr := hsrow _ (List.getElem_mem hlt)
          have hrs8 := hssh _ (List.getElem_mem hlt)
          obtain ⟨rb, ro, sa, sc, rfl, p1, p2⟩ := hR5 i hlt
          have HAC : Hid (acc ++ (elOf E rs[i] ++ elsOf E (rs.drop (i + 1))) = elsOf E rs) := by
            have := HD.out.2
            rw [List.drop_eq_getElem_cons hlt] at this
            exact this
          rw [← hri] at hhd hlen her
          generalize rs[i] = r at hhd hlen her hrr hrs8 p1 p2 HAC
          generalize (stepD (classAt L) (fndT E) lft).2 = S2 at hlen her hdi
          obtain ⟨x0, l', rfl⟩ : ∃ x0 l', lft = x0 :: l' := by
            cases lft with
            | nil => exact absurd rfl hl0
            | cons x l => exact ⟨x, l, rfl⟩
          obtain ⟨r', hr'⟩ : ∃ r', r = x0 :: r' := by
            cases r with
            | nil => cases hhd
            | cons y r' => simp at hhd; exact ⟨r', by rw [hhd]⟩
          have HDI : Hid (rs.drop (i + 1) = stepsD (classAt L) (fndT E) S2) := hdi
          have HER : Hid ((r.drop 0).foldl List.erase (x0 :: l') = S2 ∧ S2.length + (r.drop 0).length = (x0 :: l').length) := ⟨her, by rw [List.drop_zero]; omega⟩
          have hl1000 := HLN.out.1
          have hal : acc.length ≤ 16 * i := HLN.out.2
          have hr1 : 1 ≤ r.length := by rw [hr']; simp
          obtain ⟨sb, so, hsa, hsl5, hsc⟩ : ∃ sb so, sa = some ⟨sb, so, none⟩ ∧ sb < w5.heap.size ∧ ∀ j, j < r.length → w5.cell? ⟨sb, so + j, none⟩ = some (.int .i64 (r[j]?.getD 0)) := by
            rcases p2 with ⟨_, _, e, h⟩ | ⟨sb, so, _, e, h1, hc⟩
            · rw [h] at hr1; simp at hr1
            · cases e; exact ⟨sb, so, rfl, h1, hc⟩
          subst hsa
          have hrb : rb < w5.heap.size := World.block_lt_of_cell? w5 _ p1
          have d1 := (hbr.cell (p := ⟨rb, ro + i, none⟩) hrb).trans p1
          have d2 : wr.cell? ⟨sb, so, none⟩ = some (.int .i64 x0) := by
            rw [hbr.cell (p := ⟨sb, so, none⟩) hsl5]
            have := hsc 0 (by omega)
            rw [hr'] at this
            simpa using this
          obtain ⟨lg, hlg, d3⟩ : ∃ lg, la = some ⟨lg, 0, none⟩ ∧ wr.cell? ⟨lg, 0, none⟩ = some (.int .i64 x0) := by
            rcases HLO.out.form with ⟨e, h⟩ | ⟨g', cp, e, _, _, _, hc, _⟩
            · cases h
            · cases e; exact ⟨g', rfl, by simpa using hc 0 (by simp)⟩
          subst hlg
          have HP1 : Hid (∀ W, Below w5.heap.size w5 W → W.cell? ⟨rb, ro + i, none⟩ = some (.slice (some ⟨sb, so, none⟩) r.length sc)) := fun W hW => (hW.cell (p := ⟨rb, ro + i, none⟩) hrb).trans p1
          have HSC : Hid (∀ W, Below w5.heap.size w5 W → ∀ j, j < r.length → W.cell? ⟨sb, so + j, none⟩ = some (.int .i64 (r[j]?.getD 0))) := fun W hW j hj => (hW.cell (p := ⟨sb, so + j, none⟩) hsl5).trans (hsc j hj)
          have hlt0 : (i : Int) < (rs.length : Int) := by omega
          have t1 : ((r.length : Int) == 0) = false := by rw [beq_eq_false_iff_ne]; omega
          have hll : 1 ≤ (x0 :: l').length := by simp
          generalize hlw : (x0 :: l').length = ll at HLO HER hl1000 hll
          have HLW : Hid ((x0 :: l').length = ll) := hlw
          have t2 : ((ll : Int) == 0) = false := by rw [beq_eq_false_iff_ne]; omega
          have t3 : (x0 != x0) = false := by simp
          generalize hrl : r.length = rl at d1 t1 hr1 HP1 hrs8
          have HRL : Hid (r.length = rl) := hrl
          clear hel5 hsc p1 p2 hhd hlen her hri hdi hl0 HD HLN hR5 hsrow hsne hr' hlw hrl hssh
          go_upto_region 11 with fail
          go_cut [71] from 43 to 143 (fun v wx => v = .bool false ∧ Aside (Below wr.heap.size wr wx))
          case first =>
            go_region
            go_wp2_with fail
            go_meet
            exact ⟨by simp, (Below.refl _ wr).drew⟩
          case rest =>
            obtain ⟨rfl, HBC⟩ := hcut
            have hbc : Below w5.heap.size w5 wc := hbr.trans (HBC.out.mono hbr.size)
            have HLC : Aside (IOwn wc 0 (.slice (some ⟨lg, 0, none⟩) ll lc) (x0 :: l')) := own_after HLO.out HBC.out
            have HWC : Aside (EOwn wc w5.heap.size (.slice wa acc.length wcc) acc) := own_after HWO.out HBC.out
            clear d1 d2 d3 HLO HWO HBC hbr
            go_wp2_with fail
            obtain ⟨wo, hwo⟩ : ∃ wo, wo = wc := ⟨_, rfl⟩
            subst hwo
            go_loopw [10, 13] (fun lv kv wr => ∃ (j : Nat) (cur : List Int) (ca : Option Addr) (cn cc : Nat), kv = .int .i64 j ∧ j ≤ rl ∧ lv = .slice ca cn cc ∧ Hid (cn = cur.length) ∧ cn ≤ 1000 ∧ Aside (IOwn wr 0 (.slice ca cn cc) cur) ∧ Hid ((r.drop j).foldl List.erase cur = S2 ∧ S2.length + (r.drop j).length = cur.length) ∧ Below wo.heap.size wo wr) (fun _ kv _ => rl - (intOf kv).toNat)
            case atStart => exact ⟨0, x0 :: l', some ⟨lg, 0, none⟩, ll, lc, rfl, by omega, rfl, HLW.out.symm, hl1000, HLC, ⟨HER.out.1, by rw [HLW.out]; exact HER.out.2⟩, Below.refl _ _⟩
            case round =>
              clear HLC HER
              obtain ⟨j, cur, ca, cn, cc, rfl, hj, rfl, HCN, hcn, HCO, HER, hbo⟩ := hrel
              have hbw : Below w5.heap.size w5 wr := hbc.trans (hbo.mono hbc.size)
              have d1 := HP1.out wr hbw
              by_cases hjl : j < rl
              · have hjr : j < r.length := by rw [HRL.out]; exact hjl
                have hdr : r.drop j = r[j] :: r.drop (j + 1) := List.drop_eq_getElem_cons hjr
                have hx := HER.out.2
                have hfo := HER.out.1
                rw [hdr] at hx hfo
                rw [← hfo] at hx
                obtain ⟨hmem, hx2⟩ := erase_mem hx
                have HE2 : Hid ((r.drop (j + 1)).foldl List.erase (cur.erase r[j]) = S2 ∧ S2.length + (r.drop (j + 1)).length = (cur.erase r[j]).length) := ⟨hfo, by rw [← hfo]; exact hx2⟩
                have dx : ∀ W, Below w5.heap.size w5 W → W.cell? ⟨sb, so + j, none⟩ = some (.int .i64 r[j]) := fun W hW => by
                  rw [HSC.out W hW j hjr, List.getElem?_eq_getElem hjr]
                  rfl
                generalize r[j] = x at hmem HE2 dx
                have hjz : (j : Int) < (rl : Int) := by omega
                clear hx hfo hx2 hdr HER hjr
                have hcpos : 1 ≤ cn := by rw [HCN.out]; exact List.length_pos_of_mem hmem
                obtain ⟨cg, hca, hcw, hccap, hcells⟩ : ∃ cg, ca = some ⟨cg, 0, none⟩ ∧ cg < wr.heap.size ∧ cn ≤ cc ∧ ∀ n (h : n < cur.length), wr.cell? ⟨cg, n, none⟩ = some (.int .i64 cur[n]) := by
                  rcases HCO.out.form with ⟨e, h⟩ | ⟨g', cp, e, _, h1, h2, hc, _⟩
                  · rw [h] at hmem; cases hmem
                  · cases e; exact ⟨g', rfl, h1, by rw [HCN.out]; exact h2, fun n h => by rw [hc n h, List.getElem?_eq_getElem h]; rfl⟩
                subst hca
                go_wp2_with fail
                obtain ⟨wq, hwq⟩ : ∃ wq, wq = wr := ⟨_, rfl⟩
                subst hwq
                go_loopw [14, 15] (fun av nv wr => ∃ (n : Nat) (at0 : Int), nv = .int .i64 n ∧ n ≤ cn ∧ av = .int .i64 at0 ∧ -1 ≤ at0 ∧ at0 ≤ 1000 ∧ Hid ((at0 = -1 ∧ ∀ q (h : q < cur.length), q < n → cur[q] ≠ x) ∨ ∃ (p : Nat) (hp : p < cur.length), at0 = (p : Int) ∧ cur[p] = x ∧ ∀ q (h : q < cur.length), q < p → cur[q] ≠ x) ∧ Below wq.heap.size wq wr) (fun _ nv _ => cn - (intOf nv).toNat)
                case atStart => exact ⟨0, -1, rfl, by omega, rfl, by omega, by omega, .inl ⟨rfl, fun q _ h => absurd h (by omega)⟩, Below.refl _ _⟩
                case round =>
                  obtain ⟨n, at0, rfl, hn, rfl, hat0, hat1, HAT, hbq⟩ := hrel
                  have hbw3 : Below w5.heap.size w5 wr := hbw.trans (hbq.mono hbw.size)
                  obtain ⟨bb, hbb⟩ : ∃ bb, bb = (decide (n < cn) && decide (at0 < 0)) := ⟨_, rfl⟩
                  have HBB : Hid (bb = (decide (n < cn) && decide (at0 < 0))) := hbb
                  clear hbb
                  go_upto_region 18 with fail
                  go_cut [88] from 81 to 103 (fun v wx => v = .bool bb ∧ wx = wr)
                  case first =>
                    by_cases hn1 : n < cn
                    · by_cases ha1 : at0 < 0
                      · have hb1 : bb = true := by rw [HBB.out]; simp [hn1, ha1]
                        have z1 : decide (at0 < 0) = true := by simpa using ha1
                        clear HBB HAT
                        subst hb1
                        go_wp2_with fail
                        go_meet
                        exact ⟨by simp, rfl⟩
                      · have hb1 : bb = false := by rw [HBB.out]; simp [ha1]
                        have z1 : decide (at0 < 0) = false := by simpa using ha1
                        clear HBB HAT
                        subst hb1
                        go_wp2_with fail
                        go_meet
                        exact ⟨by simp, rfl⟩
                    · have hb1 : bb = false := by rw [HBB.out]; simp [hn1]
                      clear HBB HAT
                      subst hb1
                      go_wp2_with fail
                      go_meet
                      exact ⟨by simp, rfl⟩
                  case rest =>
                    obtain ⟨rfl, rfl⟩ := hcut
                    cases bb with
                    | true =>
                      have hbb := HBB.out
                      simp at hbb
                      obtain ⟨hn1, ha1⟩ := hbb
                      have hn2 : n < cur.length := by rw [← HCN.out]; exact hn1
                      obtain ⟨ha2, hno⟩ : at0 = -1 ∧ ∀ q (h : q < cur.length), q < n → cur[q] ≠ x := by
                        rcases HAT.out with h | ⟨p, hp, e, _⟩
                        · exact h
                        · omega
                      have e1 := (hbq.cell (p := ⟨cg, n, none⟩) hcw).trans (hcells n hn2)
                      have e2 := dx _ hbw3
                      have e3 := HP1.out _ hbw3
                      have HY : Hid (cur[n] = x → ∃ (p : Nat) (hp : p < cur.length), ((n : Nat) : Int) = (p : Int) ∧ cur[p] = x ∧ ∀ q (h : q < cur.length), q < p → cur[q] ≠ x) := fun h => ⟨n, hn2, rfl, h, hno⟩
                      have HZ : Hid (cur[n] ≠ x → ∀ q (h : q < cur.length), q < n + 1 → cur[q] ≠ x) := fun h q hq hqn => by
                        rcases Nat.lt_or_ge q n with h1 | h1
                        · exact hno q hq h1
                        · obtain rfl : q = n := by omega
                          exact h
                      generalize cur[n] = y at e1 HY HZ
                      clear hno HAT HBB
                      subst ha2
                      by_cases hxy : y = x
                      · have HY2 := HY.out hxy
                        have hq : (y == x) = true := by simpa using hxy
                        clear HY HZ hxy
                        go_upto_region 20 with fail
                        go_region
                        go_wp2_with fail
                        go_roundw
                        case rel => exact ⟨n + 1, (n : Int), by simp, by omega, by simp, by omega, by omega, .inr HY2, hbq.drew⟩
                        case measure => simp only [intOf]; omega
                      · have HZ2 := HZ.out hxy
                        have hq : (y == x) = false := by simpa using hxy
                        clear HY HZ hxy
                        go_upto_region 20 with fail
                        go_region
                        go_wp2_with fail
                        go_roundw
                        case rel => exact ⟨n + 1, -1, by simp, by omega, by simp, by omega, by omega, .inl ⟨rfl, HZ2⟩, hbq.drew⟩
                        case measure => simp only [intOf]; omega
                    | false =>
                      obtain ⟨p, hp, hpa, hpx, hpn⟩ : ∃ (p : Nat) (hp : p < cur.length), at0 = (p : Int) ∧ cur[p] = x ∧ ∀ q (h : q < cur.length), q < p → cur[q] ≠ x := by
                        rcases HAT.out with ⟨h1, h2⟩ | h
                        · exfalso
                          have hbb := HBB.out
                          have : ¬ n < cn := fun h => by rw [decide_eq_true h, h1] at hbb; simp at hbb
                          obtain ⟨q, hq, e⟩ := List.mem_iff_getElem.1 hmem
                          exact h2 q hq (by have := HCN.out; omega) e
                        · exact h
                      have hera := erase_at hp hpx hpn
                      subst hpa
                      have hpc : p < cn := by rw [HCN.out]; exact hp
                      have HC2 : Hid (cn = cur.length) := HCN
                      have hcel : ∀ n (h : n < cur.length), wc.cell? ⟨cg, n, none⟩ = some (.int .i64 cur[n]) := fun n h => (hbq.cell (p := ⟨cg, n, none⟩) hcw).trans (hcells n h)
                      have hcg2 : cg < wc.heap.size := Nat.lt_of_lt_of_le hcw hbq.size
                      have HI1 : Aside (Ints wc.heap.size wc (.slice (some ⟨cg, 0, none⟩) p cc) (cur.take p)) := .inr ⟨cg, 0, cc, by rw [List.length_take, Nat.min_eq_left (Nat.le_of_lt hp)], hcg2, fun q hq => by
                        rw [List.length_take] at hq
                        rw [Nat.zero_add, hcel q (by omega), List.getElem?_take_of_lt (by omega), List.getElem?_eq_getElem (by omega)]; rfl⟩
                      obtain ⟨o2, hif, ho2⟩ : ∃ o2, (if cc = p + 1 then some (⟨cg, 0, none⟩ : Addr) else some ⟨cg, p + 1, none⟩) = some ⟨cg, o2, none⟩ ∧ (p + 1 < cur.length → o2 = p + 1) := by
                        by_cases h : cc = p + 1
                        · exact ⟨0, by rw [if_pos h], fun h2 => by have := HC2.out; omega⟩
                        · exact ⟨p + 1, by rw [if_neg h], fun _ => rfl⟩
                      have HI2 : Hid (∀ W, Below wc.heap.size wc W → Ints wc.heap.size W (.slice (some ⟨cg, o2, none⟩) (cn - (p + 1)) (cc - (p + 1))) (cur.drop (p + 1))) := fun W hW => by
                        by_cases h : p + 1 < cur.length
                        · refine .inr ⟨cg, o2, _, by rw [List.length_drop, HC2.out], hcg2, fun q hq => ?_⟩
                          rw [List.length_drop] at hq
                          rw [hW.cell (p := ⟨cg, o2 + q, none⟩) hcg2, ho2 h, hcel (p + 1 + q) (by omega), List.getElem?_drop, List.getElem?_eq_getElem (by omega)]; rfl
                        · exact .inl ⟨_, _, by rw [show cn - (p + 1) = 0 by have := HC2.out; omega], List.drop_of_length_le (by omega)⟩
                      have HER2 : Hid ((r.drop (j + 1)).foldl List.erase (cur.take p ++ cur.drop (p + 1)) = S2 ∧ S2.length + (r.drop (j + 1)).length = (cur.take p ++ cur.drop (p + 1)).length) := by rw [← hera]; exact HE2
                      have hlt1 : (cur.take p).length = p := by rw [List.length_take]; omega
                      have hld1 : (cur.drop (p + 1)).length = cn - (p + 1) := by rw [List.length_drop, HC2.out]
                      have HO0 : Aside (IOwn wc wc.heap.size (.slice none 0 0) []) := IOwn.nil _ _
                      have hneg : decide ((p : Int) < 0) = false := by simp
                      clear HAT HBB hera hpx hpn HE2 hcel hcells HCO HCN hmem dx ho2
                      go_upto_region 26 with (first | (at_builtin; refine wpList_append_any rfl _ _ rfl wc.heap.size _ [] rfl HO0.out (cur.take p) _ _ rfl HI1.out (by rw [hlt1]; simp; omega) (Nat.le_refl _) ?_; intro a6 c6 w6 hown6 hb6 _ _))
                      have hsz6 : wc.heap.size ≤ w6.heap.size := hb6.size
                      have HO6 : Aside (IOwn w6 wc.heap.size (.slice a6 p c6) (cur.take p)) := by show IOwn _ _ _ _; have := hown6; rw [hlt1] at this; simpa using this
                      have HI6 : Aside (Ints wc.heap.size w6 (.slice (some ⟨cg, o2, none⟩) (cn - (p + 1)) (cc - (p + 1))) (cur.drop (p + 1))) := HI2.out w6 hb6
                      clear hown6 HI1 HI2 HO0
                      have hb36 : Below wo.heap.size wo w6 := (hbo.trans (hbq.mono hbo.size)).trans (hb6.mono (Nat.le_trans hbo.size hbq.size))
                      have hs36 : wo.heap.size ≤ wc.heap.size := Nat.le_trans hbo.size hbq.size
                      have hsum : (cur.take p).length + (cur.drop (p + 1)).length ≤ 1099511627776 := by omega
                      have hlo : (cur.take p).length + (cur.drop (p + 1)).length = p + (cn - (p + 1)) := by omega
                      have HO6' : Aside (IOwn w6 wc.heap.size (.slice a6 p c6) (cur.take p)) := HO6
                      go_wp2_with (first | (at_builtin; refine wpList_append_any rfl _ _ rfl wc.heap.size _ (cur.take p) rfl HO6'.out (cur.drop (p + 1)) _ _ rfl HI6.out hsum hsz6 ?_; intro a7 c7 w7 hown7 hb7 _ _))
                      have hb37 : Below wo.heap.size wo w7 := hb36.trans (hb7.mono hs36)
                      have HO7 : Aside (IOwn w7 0 (.slice a7 (p + (cn - (p + 1))) c7) (cur.take p ++ cur.drop (p + 1))) := by show IOwn _ _ _ _; rw [← hlo]; exact hown7.mono (Nat.zero_le _)
                      clear hown7 HI6 HO6 HO6' hsum
                      have HCN2 : Hid (p + (cn - (p + 1)) = (cur.take p ++ cur.drop (p + 1)).length) := by show _ = _; rw [List.length_append]; exact hlo.symm
                      clear hlo hlt1 hld1
                      go_roundw
                      case rel => exact ⟨j + 1, cur.take p ++ cur.drop (p + 1), a7, p + (cn - (p + 1)), c7, by simp, by omega, by simp, HCN2, by omega, HO7, HER2, hb37⟩
                      case measure => simp only [intOf]; omega
              · have hjz : ¬ ((j : Int) < (rl : Int)) := by omega
                have hcur : cur = S2 := by have := HER.out.1; rwa [List.drop_of_length_le (by rw [HRL.out]; omega)] at this
                have hS2 : S2.length ≤ 1000 := by rw [← hcur, ← HCN.out]; exact hcn
                have HCO2 : Aside (IOwn wr 0 (.slice ca cn cc) S2) := by rw [← hcur]; exact HCO
                have hcn2 : cn = S2.length := by rw [← hcur]; exact HCN.out
                have HWR : Aside (EOwn wr w5.heap.size (.slice wa acc.length wcc) acc) := own_after HWC.out hbo
                have hsR : Ints w5.heap.size w5 (.slice (some ⟨sb, so, none⟩) r.length sc) r := .inr ⟨sb, so, sc, rfl, hsl5, fun q hq => HSC.out w5 (Below.refl _ _) q hq⟩
                rw [HRL.out] at hsR
                have hfd := find_any T me ml _ val E _ r wr (ht5.below hbw) (Nat.le_refl _) ((hsR.below hbw (Nat.le_refl _)).mono hbw.size) (by rw [HRL.out]; omega)
                have dx0 : ∀ W, Below w5.heap.size w5 W → W.cell? ⟨sb, so, none⟩ = some (.int .i64 (r.head?.getD 0)) := fun W hW => by
                  have := HSC.out W hW 0 (by rw [HRL.out]; omega)
                  rw [Nat.add_zero] at this
                  rw [this, List.head?_eq_getElem?]
                have hel := elOf_len htok r
                have hfr : fndT E r = (findT E r).isSome := rfl
                rw [hfr, HRL.out] at hrr
                have hyel : elOf E r = (findT E r).getD (impR (r.head?.getD 0)) := rfl
                rw [hyel] at HAC hel
                generalize findT E r = fr at hfd hrr HAC hel
                generalize r.head?.getD 0 = xh at dx0 HAC hel
                subst hcn2
                clear HER hcur HCO HCN HWC hyel hfr hsR
                go_wp2_with fail
                refine hfd.mono ?_
                rintro r9 w6 ⟨hb6, hm6⟩
                have hb56 := hbw.trans (hb6.mono hbw.size)
                have e1 := HP1.out w6 hb56
                have e2 := dx0 w6 hb56
                have HLW6 : Aside (IOwn w6 0 (.slice ca S2.length cc) S2) := own_after HCO2.out hb6
                have HW6 : Aside (EOwn w6 w5.heap.size (.slice wa acc.length wcc) acc) := own_after HWR.out hb6
                clear hfd HCO2 HWR d1
                cases fr with
                | none =>
                  obtain rfl : r9 = _ := hm6
                  have hrl1 : rl = 1 := by
                    rcases hrr with h | h
                    · cases h
                    · exact h.1
                  have hne1 : ((rl : Int) != 1) = false := by rw [hrl1]; rfl
                  simp only [Option.getD_none] at HAC hel
                  clear hrl1
                  go_wp2_with fail
                  refine (implied_any xh w6).mono ?_
                  rintro r9 w7 ⟨v7, rfl, hown7, hb7, _⟩
                  have hb57 := hb56.trans (hb7.mono hb56.size)
                  have HE7 : Aside (Els w7.heap.size w7 v7 (impR xh)) := EOwn.els hown7
                  obtain ⟨a7, c7, rfl, _⟩ := hown7.cap
                  have HW7 : Aside (EOwn w7 w5.heap.size (.slice wa acc.length wcc) acc) := own_after HW6.out hb7
                  have HL7 : Aside (IOwn w7 0 (.slice ca S2.length cc) S2) := own_after HLW6.out hb7
                  generalize impR xh = ie at HAC hel HE7
                  have hsum : acc.length + ie.length ≤ 4000000000000 := by omega
                  clear hown7 HW6 HLW6 e1 e2
                  go_wp2_with (first | (at_builtin; refine wpList_append_els rfl _ _ rfl w5.heap.size _ acc rfl HW7.out ie _ _ rfl HE7.out hsum hb57.size ?_; intro a8 c8 w8 hown8 hb8 hgr8))
                  have HL8 : Aside (IOwn w8 0 (.slice ca S2.length cc) S2) := own_grown HL7.out hgr8 (apt_types HW7.out HL7.out (by decide))
                  have HW8 : Aside (EOwn w8 w5.heap.size (.slice a8 (acc ++ ie).length c8) (acc ++ ie)) := by rw [List.length_append]; exact hown8
                  have HD8 : Hid (rs.drop (i + 1) = stepsD (classAt L) (fndT E) S2 ∧ (acc ++ ie) ++ elsOf E (rs.drop (i + 1)) = elsOf E rs) := ⟨HDI.out, by rw [List.append_assoc]; exact HAC.out⟩
                  have HN8 : Hid (S2.length ≤ 1000 ∧ (acc ++ ie).length ≤ 16 * (i + 1)) := ⟨hS2, by rw [List.length_append]; omega⟩
                  clear hown8 hgr8 HAC HDI
                  go_roundw
                  case rel => exact ⟨i + 1, S2, acc ++ ie, ca, cc, a8, c8, by simp, by omega, by simp, by simp, HL8, HW8, HD8, HN8, hb57.trans hb8⟩
                  case measure => simp only [intOf]; omega
                | some l =>
                  obtain ⟨a7, n7, c7, rfl, hown7⟩ := hm6
                  simp only [Option.getD_some] at HAC hel
                  have HE7 : Aside (Els w6.heap.size w6 (.slice a7 n7 c7) l) := EOwn.els hown7
                  have hsum : acc.length + l.length ≤ 4000000000000 := by omega
                  clear hown7 e1 e2
                  go_wp2_with (first | (at_builtin; refine wpList_append_els rfl _ _ rfl w5.heap.size _ acc rfl HW6.out l _ _ rfl HE7.out hsum hb56.size ?_; intro a8 c8 w8 hown8 hb8 hgr8))
                  have HL8 : Aside (IOwn w8 0 (.slice ca S2.length cc) S2) := own_grown HLW6.out hgr8 (apt_types HW6.out HLW6.out (by decide))
                  have HW8 : Aside (EOwn w8 w5.heap.size (.slice a8 (acc ++ l).length c8) (acc ++ l)) := by rw [List.length_append]; exact hown8
                  have HD8 : Hid (rs.drop (i + 1) = stepsD (classAt L) (fndT E) S2 ∧ (acc ++ l) ++ elsOf E (rs.drop (i + 1)) = elsOf E rs) := ⟨HDI.out, by rw [List.append_assoc]; exact HAC.out⟩
                  have HN8 : Hid (S2.length ≤ 1000 ∧ (acc ++ l).length ≤ 16 * (i + 1)) := ⟨hS2, by rw [List.length_append]; omega⟩
                  clear hown8 hgr8 HAC HDI
                  go_roundw
                  case rel => exact ⟨i + 1, S2, acc ++ l, ca, cc, a8, c8, by simp, by omega, by simp, by simp, HL8, HW8, HD8, HN8, hb56.trans hb8⟩
                  case measure => simp only [intOf]; omega
        · have hlt0 : ¬ ((i : Int) < (rs.length : Int)) := by omega
          have hnil : rs.drop i = [] := List.drop_of_length_le (by omega)
          have hl0 : lft = [] := by
            refine Classical.byContradiction fun h => ?_
            have := HD.out.1
            rw [hnil, stepsD_cons h] at this
            cases this
          have hacc : elsOf E rs = acc := by have := HD.out.2; rw [hnil] at this; simpa [elsOf] using this.symm
          have hbf := hb05.trans (hbr.mono hb05.size)
          have hz : lft.length = 0 := by rw [hl0]; rfl
          have hz2 : ((lft.length : Int) == 0) = true := by rw [hz]; rfl
          have hal : acc.length ≤ 16000 := by have := HLN.out.2; omega
          clear HD hnil hl0 hz HLN HLO hel5 hsl hssh hsne hsrow hR5
          go_wp2_with fail
          refine (awake_any wr (hg5.below hbr)).mono ?_
          rintro r w6 ⟨rfl, hb6⟩
          have hb56 := hbr.trans (hb6.mono hbr.size)
          have hel6 := elements_any hL (hd5.below hb56) (ht5.below hb56) (ha5.below hb56) hX.form (by omega) (by omega)
          rw [HRS.out, hacc] at hel6
          have HW6 : Aside (EOwn w6 w5.heap.size (.slice wa acc.length wcc) acc) := own_after HWO.out hb6
          clear hacc hb56 HWO
          go_wp2_with fail
          refine hel6.mono ?_
          rintro r w7 ⟨v7, rfl, he7, hb7⟩
          have e1 := EOwn.els he7
          have e2 : Els w7.heap.size w7 _ acc := EOwn.els (show EOwn w7 w5.heap.size _ acc from own_after HW6.out hb7)
          have hse := sameEls_q _ _ acc acc _ _ w7 e1 e2 (by omega) (by omega)
          rw [show decide (acc = acc) = true by simp] at hse
          obtain ⟨a7, c7, rfl, _⟩ := he7.cap
          have hb07 := (hbf.trans (hb6.mono hbf.size)).trans (hb7.mono (Nat.le_trans hbf.size hb6.size))
          clear hel6 e1 e2 he7 HW6
          go_wp2_with fail
          refine hse.mono ?_
          rintro r w8 ⟨rfl, n8, rfl⟩
          go_wp2
          go_ret
          exact ⟨rfl, hb07.trans ((below_drewQ w7 n8).mono hb07.size)⟩
    · rw [decide_eq_false hfa] at hf1
      go_wp2_with fail
      refine hf1.mono ?_
      rintro r w2 ⟨rfl, hb2⟩
      have hb02 := hb01.trans (hb2.mono hb01.size)
      go_wp2_with fail
      refine (awake_any w2 (hg1.below hb2)).mono ?_
      rintro r w3 ⟨rfl, hb3⟩
      go_wp2_with fail
      go_ret
      exact ⟨rfl, hb02.trans (hb3.mono hb02.size)⟩
  · go_wp2_with fail
    refine (awake_any w1 hg1).mono ?_
    rintro r w2 ⟨rfl, hb2⟩
    go_wp2_with fail
    go_ret
    exact ⟨rfl, hb01.trans (hb2.mono hb01.size)⟩
end Go.Proofs.YtkcnjnccdafbfaaDoor
