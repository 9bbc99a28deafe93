/- What TableBack does (a contract; nothing is claimed here). -/
import Derived.Test.YtfeppbiodbhpcaaGreatDoorBackQ
import Derived.Test.YtfeppbiodbhpcaaGreatDoorSamE
import Derived.Test.YtfeppbiodbhpcaaGreatDoorLaidZ
import Derived.Deep.RegionHeld
namespace Go.Proofs.YtfeppbiodbhpcaaGreatDoor
open Go.RowKit Go.Vf Go.Maps

theorem text_len (l : List UInt8) : (bsz l).size = l.length := by simp [ByteArray.size]

set_option maxHeartbeats 40000000 in
set_option maxRecDepth 20000 in
theorem back_walk (s : ByteArray) (hbig : s.size ≤ 281474976710656) (w : World) (hg : GlobZ w) : Calls Tryz.prog 3 #[.string s] w fun e w' => e = .returned (.bool true) ∧ Below w.heap.size w w' := by
  obtain ⟨m, hm⟩ := hg.glob
  go_enter Tryz.func3, Tryz.ntmps3
  go_wp2_with fail
  refine (load_any s m w hm hbig).mono ?_
  rintro e w1 ⟨hb1, hpost⟩
  have hg1 := hg.below hb1
  cases hld : loadT s.data.toList with
  | error q =>
    obtain ⟨why, line⟩ := q
    rw [hld] at hpost
    obtain rfl : e = _ := hpost
    have hwhy := loadT_why hld
    clear hld
    have h0 : (why != 0) = true := by simp; rcases hwhy with rfl | rfl | rfl | rfl <;> decide
    have h0' : (why == 0) = false := by simp; rcases hwhy with rfl | rfl | rfl | rfl <;> decide
    go_wp2_with fail
    refine (awake_glob w1 hg1.glob).mono ?_
    rintro e w3 ⟨rfl, hb3⟩
    go_wp2_with fail
    go_ret
    exact ⟨rfl, below_two hb1 hb3⟩
  | ok E =>
    rw [hld] at hpost
    obtain ⟨T, me, ml, val, rfl, ht1⟩ := hpost
    obtain ⟨hokE, hndE, hlE⟩ := loadT_ok hld
    go_wp2_with fail
    refine (entries_any T me ml val E w1 ht1 hlE hndE).mono ?_
    rintro e w2 ⟨v2, vs, es, rfl, hE2, hrise, hperm, hb2⟩
    have hg2 := hg1.below hb2
    have hbb2 := below_two hb1 hb2
    have hin2 := hE2.inn
    obtain ⟨a2, c2, rfl⟩ := hin2.val
    have hle : es.length ≤ 4096 := by rw [hperm.length_eq]; exact hlE
    have hok : ∀ x ∈ es, EntOk x := fun x hx => hokE x (hperm.mem_iff.1 hx)
    have hlens : ∀ x ∈ es, x.1.length ≤ 4611686018427387904 ∧ x.2.length ≤ 4611686018427387904 := fun x hx => ⟨Nat.le_trans (rowB_len (hok x hx).row).2 (by omega), Nat.le_trans (hok x hx).n1 (by omega)⟩
    have htx : (textT es).length ≤ s.size := by rw [Lib.size_eq]; exact textT_short hld hperm
    have hs64 : s.size ≤ 65536 := by
      rw [Lib.size_eq]
      unfold loadT at hld
      split at hld
      · cases hld
      · omega
    have hpr : printT es = .ok (textT es) := printT_of hok hrise hle (by omega)
    go_wp2_with fail
    refine (print_any es (by omega) hlens _ _ w2 (Nat.le_refl _) hin2 hg2.lt hg2.b64).mono ?_
    rw [hpr]
    simp only [printE]
    rintro e w3 ⟨rfl, hb3⟩
    have hg3 := hg2.below hb3
    have hbb3 := below_two hbb2 hb3
    have hin3 := hin2.below hb3 (Nat.le_refl _)
    have HT : Hid ((bsz (textT es)).data.toList = textT es) := by show _ = _; simp
    have hsz : (bsz (textT es)).size ≤ s.size := by rw [text_len]; exact htx
    obtain ⟨tb, htb⟩ : ∃ tb, tb = bsz (textT es) := ⟨_, rfl⟩
    rw [← htb] at HT hsz ⊢
    have HTB : Hid (tb = bsz (textT es)) := htb
    have hgt : decide ((s.size : Int) < (tb.size : Int)) = false := by simp; omega
    clear htb htx
    obtain ⟨m3, hm3⟩ := hg3.glob
    go_wp2_with fail
    refine (load_any tb m3 w3 hm3 (by omega)).mono ?_
    rintro e w4 ⟨hb4, hpost⟩
    rw [HT.out, print_load hpr] at hpost
    obtain ⟨T2, me2, ml2, val2, rfl, ht4⟩ := hpost
    have hg4 := hg3.below hb4
    have hbb4 := below_two hbb3 hb4
    have hin4 := hin3.below hb4 hb3.size
    go_wp2_with fail
    refine (entries_any T2 me2 ml2 val2 es w4 ht4 hle (rise_nodup hrise)).mono ?_
    rintro e w5 ⟨v5, vs5, es5, rfl, hE5, hr5, hp5, hb5⟩
    obtain rfl := rise_one hp5 hr5 hrise
    have hei5 := hE5.inn
    obtain ⟨a5, c5, rfl⟩ := hei5.val
    have hbb5 := below_two hbb4 hb5
    have hin5 := hin4.below hb5 (by have := hb3.size; have := hb4.size; omega)
    go_wp2_with fail
    refine (sameEnts_any _ _ es5 _ _ w5 hei5 hin5 (by omega) hlens).mono ?_
    rintro e w6 ⟨rfl, n6, hw6⟩
    have hb6 : Below w5.heap.size w5 w6 := by rw [hw6]; exact below_drewN _ _
    have hbb6 := below_two hbb5 hb6
    have ht6 := (ht4.below hb5).below hb6
    have hin6 := hin5.below hb6 (by have := hb3.size; have := hb4.size; have := hb5.size; omega)
    have hg6 := ((hg4.below hb5).below hb6)
    clear hw6
    go_wp2_with fail
    refine (entries_any T2 me2 ml2 val2 es5 w6 ht6 hle (rise_nodup hrise)).mono ?_
    rintro e w7 ⟨v7, vs7, es7, rfl, hE7, hr7, hp7, hb7⟩
    obtain rfl := rise_one hp7 hr7 hrise
    have hei7 := hE7.inn
    obtain ⟨a7, c7, rfl⟩ := hei7.val
    have hbb7 := below_two hbb6 hb7
    have hg7 := hg6.below hb7
    go_wp2_with fail
    refine (print_any es7 (by omega) hlens _ _ w7 (Nat.le_refl _) hei7 hg7.lt hg7.b64).mono ?_
    rw [hpr]
    simp only [printE]
    rw [← HTB.out]
    rintro e w8 ⟨rfl, hb8⟩
    have hbb8 := below_two hbb7 hb8
    have hg8 := hg7.below hb8
    have hb28 : Below w2.heap.size w2 w8 := below_two (below_two (below_two (below_two (below_two hb3 hb4) hb5) hb6) hb7) hb8
    have hin8 := hin2.below hb28 (Nat.le_refl _)
    have ht8 := (ht1.below hb2).below hb28
    have hgr := hbb8
    clear hbb2 hbb3 hbb4 hbb5 hbb6 hbb7 hin2 hin3 hin4 hin5 hin6 hei5 hei7 hE2 hE5 hE7 ht1 ht4 ht6 hb1 hb2 hb3 hb4 hb5 hb6 hb7 hb8 hg1 hg2 hg3 hg4 hg6 hg7 hpr HT HTB hld hr5 hp5 hr7 hp7 hm hm3 hg
    have hn2 : w2.heap.size ≤ w8.heap.size := hb28.size
    clear hb28
    go_wp2_with fail
    go_loopw [14] (fun i wr => ∃ k : Nat, k ≤ es7.length ∧ i = .int .i64 k ∧ Below w8.heap.size w8 wr) (fun i _ => es7.length - (intOf i).toNat)
    case atStart => exact ⟨0, by omega, rfl, Below.refl _ _⟩
    case round =>
      obtain ⟨k, hk, rfl, hbr⟩ := hrel
      by_cases hlt : k < es7.length
      · obtain ⟨b, off, rfl, pa, pc, ea, ec, d0, d1, hpi, hei⟩ := hin8.at hlt
        have c0 := (hbr.cell (p := ⟨b, off + k * 2, none⟩) (World.block_lt_of_cell? w8 _ d0)).trans d0
        have c1 := (hbr.cell (p := ⟨b, off + k * 2 + 1, none⟩) (World.block_lt_of_cell? w8 _ d1)).trans d1
        have hbl : b < w8.heap.size := World.block_lt_of_cell? w8 _ d0
        have hme := List.getElem_mem hlt
        generalize hen : es7[k] = en at c0 c1 hpi hei hme
        obtain ⟨p, l⟩ := en
        simp only at c0 c1 hpi hei
        have hokx : EntOk (p, l) := hok _ hme
        have hrow : 1 ≤ p.length ∧ p.length ≤ 8 := rowB_len hokx.row
        have hl16 : l.length ≤ 16 := hokx.n1
        have hfind := findT_mem hndE (hperm.mem_iff.1 hme)
        obtain ⟨x0, pr, hp0⟩ : ∃ x0 pr, p = x0 :: pr := by
          cases p with
          | nil => simp at hrow
          | cons x0 pr => exact ⟨x0, pr, rfl⟩
        have hx0 : InI x0 := by
          have := (row_in hokx.row).2 x0 (by show x0 ∈ padL p; rw [hp0]; simp [padL])
          exact this
        have hhd : p.head? = some x0 := by rw [hp0]; rfl
        have hge : p.length ≤ longT E x0 := longT_ge (e := (p, l)) (hperm.mem_iff.1 hme) hhd
        have hle8 : longT E x0 ≤ 8 := longT_le E x0 (fun e he => (rowB_len (hokE e he).row).2)
        have hall : ∀ j, es7.length ≤ j → someT es7 x0 (longT E x0) j = true := fun j hj => someT_all hperm hme hhd hrow.1 hj
        obtain ⟨bp, op, rfl, hbp, hcp⟩ : ∃ bp op, pa = some ⟨bp, op, none⟩ ∧ bp < w2.heap.size ∧ ∀ j, j < p.length → w8.cell? ⟨bp, op + j, none⟩ = some (.int .i64 (p[j]?.getD 0)) := by
          rcases hpi with ⟨a', c', e, h0⟩ | ⟨b', o', c', e, h1, h2⟩
          · rw [h0] at hrow; simp at hrow
          · cases e; exact ⟨b', o', rfl, h1, h2⟩
        have f0 : wr.cell? ⟨bp, op, none⟩ = some (.int .i64 x0) := by
          have := hcp 0 (by omega)
          rw [hp0] at this
          exact (hbr.cell (p := ⟨bp, op, none⟩) (show bp < w8.heap.size by omega)).trans this
        have hpi' := hpi
        have F0 : w8.cell? ⟨bp, op, none⟩ = some (.int .i64 x0) := by
          have := hcp 0 (by omega)
          rw [hp0] at this
          exact this
        clear hhd hp0 hme hcp d0 d1
        go_wp2_with fail
        refine (find_any T me ml w2.heap.size val E _ p wr (ht8.below hbr) (Nat.le_trans hn2 hbr.size) (Ints.below hbr hn2 hpi) (by omega)).mono ?_
        rw [hfind]
        rintro e w9 ⟨hb9, fa, fn, fc, rfl, hown9⟩
        have hbr9 := below_two hbr hb9
        have g0 := (hb9.cell (p := ⟨bp, op, none⟩) (World.block_lt_of_cell? wr _ f0)).trans f0
        have g1 := (hb9.cell (p := ⟨b, off + k * 2 + 1, none⟩) (World.block_lt_of_cell? wr _ c1)).trans c1
        go_wp2_with fail
        refine (longest_any T me ml val E x0 hx0 w9 (ht8.below hbr9)).mono ?_
        rintro e w9' ⟨rfl, rfl⟩
        obtain ⟨n, hn⟩ : ∃ n, n = longT E x0 := ⟨_, rfl⟩
        rw [← hn] at hge hle8 hall ⊢
        clear hn
        go_wp2_with fail
        refine (sameEls_q _ _ l l _ _ w9 (EOwn.els hown9) (hei.below hbr9 hn2) (by omega) (by omega)).mono ?_
        rintro e w10 ⟨rfl, n10, hw10⟩
        have hb10 : Below w9.heap.size w9 w10 := by rw [hw10]; exact below_drewN _ _
        have hbr10 := below_two hbr9 hb10
        have hll : decide (l = l) = true := by simp
        have hle1 : decide ((n : Int) < (p.length : Int)) = false := by simp; omega
        have hle2 : decide ((8 : Int) < (n : Int)) = false := by simp; omega
        have hle3 : decide (n < p.length) = false := by simp; omega
        have hle4 : decide (8 < n) = false := by simp; omega
        rw [hll]
        clear hw10 hll hbr hbr9 hb9 hb10 c0 c1 f0 g0 g1 hown9 hfind hei
        go_wp2_with fail
        go_loopw [19, 20] (fun sm kk wr2 => ∃ j : Nat, j ≤ es7.length ∧ kk = .int .i64 j ∧ sm = .bool (someT es7 x0 n j) ∧ Below w8.heap.size w8 wr2) (fun _ kk _ => es7.length - (intOf kk).toNat)
        case atStart => exact ⟨0, by omega, rfl, rfl, hbr10⟩
        case round =>
          obtain ⟨j, hj, rfl, rfl, hbj⟩ := hrel
          by_cases hlt2 : j < es7.length
          · obtain ⟨b', off', hab, qa, qc, qe, qf, e0, e1, hqi, hqe⟩ := hin8.at hlt2
            cases hab
            have hst := someT_step es7 x0 n j hlt2
            have c2 := (hbj.cell (p := ⟨b, off + j * 2, none⟩) hbl).trans e0
            have C2 := e0
            have f0 := (hbj.cell (p := ⟨bp, op, none⟩) (show bp < w8.heap.size by omega)).trans F0
            have hok2 := hok _ (List.getElem_mem hlt2)
            have hahead : 0 < j → aheadL (es7[j - 1]'(by omega)).1 es7[j].1 < 0 := fun h => rise_at hrise h hlt2
            have hqi' := hqi
            obtain ⟨z0, bq, oq, rfl, d2, hz0⟩ : ∃ z0 bq oq, qa = some ⟨bq, oq, none⟩ ∧ wr.cell? ⟨bq, oq, none⟩ = some (.int .i64 z0) ∧ (es7[j]).1.head?.getD (-1) = z0 := by
              have hrw2 := (rowB_len hok2.row).1
              rcases hqi with ⟨a', c', e, h0⟩ | ⟨b', o', c', e, h1, h2⟩
              · rw [h0] at hrw2; simp at hrw2
              · cases e
                refine ⟨_, b', o', rfl, (hbj.cell (p := ⟨b', o', none⟩) (show b' < w8.heap.size by omega)).trans (h2 0 (by omega)), ?_⟩
                cases hq : (es7[j]).1 with
                | nil => rw [hq] at hrw2; simp at hrw2
                | cons y r => simp
            have HST : Hid (someT es7 x0 n (j + 1) = (someT es7 x0 n j || ((z0 == x0) && ((es7[j]).1.length == n)))) := by
              show _ = _
              rw [hst]
              unfold hitB
              rw [hz0]
            clear hst hz0 e0 e1
            have hm2 : 1 ≤ (es7[j]).1.length := (rowB_len hok2.row).1
            generalize hq2 : (es7[j]).1.length = m2 at c2 HST C2 hm2
            have hprev : 0 < j → ∀ W, Below w8.heap.size w8 W → ∃ (i : Nat) (q0 : Option Addr) (q1 q2 : Nat), (j : Int) - 1 = (i : Int) ∧ ∃ z, z < 0 ∧ W.cell? ⟨b, off + i * 2, none⟩ = some (.slice q0 q1 q2) ∧ ∀ n, Calls Tryz.prog 13 #[.slice q0 q1 q2, .slice (some ⟨bq, oq, none⟩) m2 qc] (W.drewN n) fun e w' => e = .returned (.int .i64 z) ∧ ∃ m, w' = (W.drewN n).drewN m := fun h0 W hW => by
              obtain ⟨b', off', hab, ra, rc', re, rf, e0, e1, hri, hre⟩ := hin8.at (show j - 1 < es7.length by omega)
              cases hab
              refine ⟨j - 1, ra, _, rc', by omega, _, hahead h0, (hW.cell (p := ⟨b, off + (j - 1) * 2, none⟩) hbl).trans e0, fun n => ?_⟩
              have h1 := hlens _ (List.getElem_mem (show j - 1 < es7.length by omega))
              have h2 := hlens _ (List.getElem_mem hlt2)
              rw [← hq2]
              exact ahead_any w2.heap.size w2.heap.size _ _ _ _ (W.drewN n) (ints_drewN (Ints.below hW hn2 hri) n) (ints_drewN (Ints.below hW hn2 hqi') n) h1.1 h2.1
            clear hahead hqe hq2 hqi'
            go_upto_region 24 with fail
            go_cut [19] from 140 to 195 (fun v wx => v = .bool (someT es7 x0 n (j + 1)) ∧ Below w8.heap.size w8 wx)
            case first =>
              have hbz := hbj.drew
              generalize someT es7 x0 n j = sb at HST ⊢
              cases sb with
              | true =>
                go_region
                go_wp2_with fail
                go_meet
                exact ⟨by rw [HST.out]; rfl, hbz⟩
              | false =>
                cases hh1 : (z0 == x0) with
                | false =>
                  go_region
                  go_wp2_with fail
                  go_meet
                  exact ⟨by rw [HST.out, hh1]; rfl, hbz⟩
                | true =>
                  by_cases hmn : m2 = n
                  · have hh2 : ((m2 : Int) == (n : Int)) = true := by simp [hmn]
                    have hh3 : (m2 == n) = true := by simp [hmn]
                    clear hmn
                    go_region
                    go_wp2_with fail
                    go_meet
                    exact ⟨by rw [HST.out, hh1, hh3]; rfl, hbz⟩
                  · have hh2 : ((m2 : Int) == (n : Int)) = false := by simp; omega
                    have hh3 : (m2 == n) = false := by simp; omega
                    clear hmn
                    go_region
                    go_wp2_with fail
                    go_meet
                    exact ⟨by rw [HST.out, hh1, hh3]; rfl, hbz⟩
            case rest =>
              obtain ⟨rfl, hbz⟩ := hcut
              generalize hSC : someT es7 x0 n (j + 1) = R
              have HS : Hid (someT es7 x0 n (j + 1) = R) := hSC
              have c3 := (hbz.cell (p := ⟨b, off + j * 2, none⟩) hbl).trans C2
              clear hSC HST c2 f0 d2 hbj
              go_upto_region 25 with fail
              go_cut [186] from 140 to 195 (fun v wx => v = .bool false ∧ Below w8.heap.size w8 wx)
              case first =>
                by_cases hj0 : 0 < j
                · obtain ⟨i, q0, q1, q2, e1, z, hz, c4, hA⟩ := hprev hj0 wc hbz
                  have hd0 : decide ((0 : Int) < (j : Int)) = true := by simp; omega
                  have hz1 : decide (0 ≤ z) = false := by simp; omega
                  go_quiet (first | (go_at_call 13; refine Calls.quiet_of (hA _)))
                  go_wp2_with fail
                  go_meet
                  exact ⟨rfl, below_two hbz (below_drewN wc nq)⟩
                · have hd0 : decide ((0 : Int) < (j : Int)) = false := by simp; omega
                  go_quiet (fail)
                  go_wp2_with fail
                  go_meet
                  exact ⟨rfl, below_two hbz (below_drewN wc nq)⟩
              case rest =>
                clear c3 hbz hprev
                obtain ⟨rfl, hbz⟩ := hcut
                cases R with
                | true =>
                  by_cases hj40 : 40 < j
                  · by_cases hk40 : 40 < k
                    · go_wp2_with fail
                      go_roundw
                      case rel => exact ⟨k + 1, by omega, by simp, hbz⟩
                      case measure => simp only [intOf]; omega
                    · go_wp2_with fail
                      go_roundw
                      case rel => first | exact ⟨_, _, _, ⟨j + 1, by omega, rfl, rfl⟩, rfl, by rw [HS.out], by simp⟩ | exact ⟨j + 1, by omega, by simp, by rw [HS.out], hbz⟩
                      case measure => simp only [intOf]; omega
                  · go_wp2_with fail
                    go_roundw
                    case rel => first | exact ⟨_, _, _, ⟨j + 1, by omega, rfl, rfl⟩, rfl, by rw [HS.out], by simp⟩ | exact ⟨j + 1, by omega, by simp, by rw [HS.out], hbz⟩
                    case measure => simp only [intOf]; omega
                | false =>
                  by_cases hj40 : 40 < j
                  · by_cases hk40 : 40 < k
                    · go_wp2_with fail
                      go_roundw
                      case rel => first | exact ⟨_, _, _, ⟨j + 1, by omega, rfl, rfl⟩, rfl, by rw [HS.out], by simp⟩ | exact ⟨j + 1, by omega, by simp, by rw [HS.out], hbz⟩
                      case measure => simp only [intOf]; omega
                    · go_wp2_with fail
                      go_roundw
                      case rel => first | exact ⟨_, _, _, ⟨j + 1, by omega, rfl, rfl⟩, rfl, by rw [HS.out], by simp⟩ | exact ⟨j + 1, by omega, by simp, by rw [HS.out], hbz⟩
                      case measure => simp only [intOf]; omega
                  · go_wp2_with fail
                    go_roundw
                    case rel => first | exact ⟨_, _, _, ⟨j + 1, by omega, rfl, rfl⟩, rfl, by rw [HS.out], by simp⟩ | exact ⟨j + 1, by omega, by simp, by rw [HS.out], hbz⟩
                    case measure => simp only [intOf]; omega
          · have hsm : someT es7 x0 n j = true := hall j (by omega)
            rw [hsm]
            go_wp2_with fail
            go_roundw
            case rel => exact ⟨k + 1, by omega, by simp, hbj⟩
            case measure => simp only [intOf]; omega
      · have hg9 := hg8.below hbr
        go_wp2_with fail
        refine (awake_glob wr hg9.glob).mono ?_
        rintro e w9 ⟨rfl, hb9⟩
        go_wp2_with fail
        go_ret
        exact ⟨rfl, below_two (below_two hgr hbr) hb9⟩
end Go.Proofs.YtfeppbiodbhpcaaGreatDoor
