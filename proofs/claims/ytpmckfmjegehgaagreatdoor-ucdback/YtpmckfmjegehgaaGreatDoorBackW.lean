/- What UcdBack does (a contract; nothing is claimed here). -/
import Derived.Test.YtpmckfmjegehgaaGreatDoorBackM
import Derived.Test.YtpmckfmjegehgaaGreatDoorSylW
import Derived.Test.YtpmckfmjegehgaaGreatDoorSameM
import Derived.Test.YtpmckfmjegehgaaGreatDoorMarksO
namespace Go.Proofs.YtpmckfmjegehgaaGreatDoor
open Go.RowKit Go.Vf Go.Maps

theorem wrapI {n : Int} (h : -9223372036854775808 ≤ n ∧ n ≤ 9223372036854775807) : IntKind.i64.wrap n = n := by
  rw [IntWalk.i64_left, IntWalk.wrap64_in n h]

theorem marksR_at {t : List UInt8} {L : List Mk} {E : Int → List Int} (h : loadR t = .ok (L, E)) : ∀ m ∈ marksR L, InI m.point ∧ (partsR' E m.point).length ≤ 18 := fun m hm => by
  obtain ⟨x, hx, rfl⟩ := marksR_mem hm
  obtain ⟨hlen, hl, _⟩ := load_says h
  exact ⟨may_in ((load_total hlen hl).1 x hx).1, parts_short h hx⟩

theorem ends_from {t : List UInt8} {L : List Mk} {E : Int → List Int} (h : loadR t = .ok (L, E)) {p z : Int} (hz : z ∈ endsOfF E p) : z = p ∨ mayB z = true := by
  obtain ⟨hlen, hl, _, _, ord, _, _, he⟩ := load_says h
  have hok := (load_total hlen hl).1
  unfold endsOfF at hz
  split at hz
  · simp at hz; exact .inl hz
  · rw [he _ (Nat.le_refl _)] at hz
    unfold endsG at hz
    split at hz
    · simp at hz
    · rcases wh_from _ _ _ (List.mem_of_mem_take hz) with e | ⟨q, hq⟩
      · exact .inl e
      · obtain ⟨m, hm, _, hq'⟩ := partsAt_mem hq
        exact .inr ((hok m hm).2.1 z hq')
theorem parts_in {t : List UInt8} {L : List Mk} {E : Int → List Int} (h : loadR t = .ok (L, E)) {p : Int} (hp : InI p) : ∀ z ∈ partsR' E p, InI z := fun z hz => by
  unfold partsR' at hz
  split at hz
  · rename_i hs
    obtain ⟨q, hq, hz⟩ := List.mem_flatMap.1 hz
    rcases ends_from h hz with rfl | e
    · exact (lettersR_in hs).1 z hq
    · exact may_in e
  · rcases ends_from h hz with rfl | e
    · exact hp
    · exact may_in e

set_option maxHeartbeats 4000000 in
set_option maxRecDepth 20000 in
theorem back_walk (s : ByteArray) (hs : s.size ≤ 281474976710656) (v : Value) (zs : List Int) (hzl : zs.length ≤ 17592186044416) (hzI : ∀ z ∈ zs, InI z) (w : World) (hg : Glob w) (hv : Ints w.heap.size w v zs) : Calls Tryz.prog 5 #[.string s, v] w fun e w' => e = .returned (.bool true) ∧ Below w.heap.size w w' := by
  obtain ⟨av, cv, rfl⟩ := hv.val
  go_enter Tryz.func5, Tryz.ntmps5
  go_wp2_with fail
  refine (load_glob s w hg hs).mono ?_
  rintro e w1 ⟨hb1, hpost⟩
  have hg1 := hg.below hb1
  cases hl : loadR s.data.toList with
  | error p =>
    obtain ⟨why, line⟩ := p
    rw [hl] at hpost
    obtain rfl : e = _ := hpost
    have hw0 := load_why hl
    have hwb : (why != 0) = true := by simp [hw0]
    clear hl
    go_wp2_with fail
    refine (awake_any w1 hg1).mono ?_
    rintro e w2 ⟨rfl, hb2⟩
    go_wp2_with fail
    go_ret
    exact ⟨rfl, below_two hb1 hb2⟩
  | ok p =>
    obtain ⟨L, E⟩ := p
    rw [hl] at hpost
    obtain ⟨bd, rfl, hd⟩ := hpost
    obtain ⟨t, L', hpr, htl, hld, hmr, hcl⟩ := back_load hl
    have HEND : Hid (∀ p, ∀ z ∈ partsR' E p, isSyl z = false ∧ partsR' E z = [z]) := fun p z hz => parts_end hl hz
    have HIN : Hid (∀ p, InI p → ∀ z ∈ partsR' E p, InI z) := fun p hp => parts_in hl hp
    have HMA : Hid (∀ m ∈ marksR L, InI m.point ∧ (partsR' E m.point).length ≤ 18) := marksR_at hl
    have HCI : Hid (∀ p, 0 ≤ classAt L p ∧ classAt L p ≤ 254) := fun p => class_in hd.ok p
    have HPR : Hid (printR (marksR L) = .ok t) := hpr
    have HMR : Hid (marksR L' = marksR L) := hmr
    have HCL : Hid (classAt L' = classAt L) := hcl
    obtain ⟨tb, htb⟩ : ∃ tb, bsz t = tb := ⟨_, rfl⟩
    have HTB : Hid (bsz t = tb) := htb
    have hT : tb.data.toList = t := by rw [← htb]
    have hsz : tb.size ≤ s.size := by rw [Lib.size_eq, hT, Lib.size_eq]; exact htl
    have HLD : Hid (loadR tb.data.toList = .ok (L', E)) := by show _ = _; rw [hT]; exact hld
    clear hl hmr hcl hld htl hpr hT htb
    go_wp2_with fail
    refine (marks_any bd L E w1 hd).mono ?_
    rintro e w2 ⟨a2, k2, c2, ps, rfl, hmo, hps, hb2⟩
    have hmi := hmo.min
    rw [hps] at hmi
    clear hmo hps
    have hg2 := hg1.below hb2
    have hd2 := hd.below hb2
    have hlens := hd2.lens
    go_wp2_with fail
    refine (print_any (marksR L) hlens.1 hlens.2 _ _ w2 (Nat.le_refl _) hmi hg2.2).mono ?_
    rw [HPR.out]
    simp only [printE]
    rintro e w3 ⟨rfl, hb3⟩
    rw [HTB.out]
    have hg3 := hg2.below hb3
    go_wp2_with fail
    refine (load_glob tb w3 hg3 (by omega)).mono ?_
    rintro e w4 ⟨hb4, hpost⟩
    rw [HLD.out] at hpost
    obtain ⟨bd', rfl, hd'⟩ := hpost
    have hb24 := below_two hb3 hb4
    have hg4 := hg3.below hb4
    go_wp2_with fail
    refine (marks_any bd' L' E w4 hd').mono ?_
    rintro e w5 ⟨a5, k5, c5, ps5, rfl, hmo5, hps5, hb5⟩
    have hmi5 := hmo5.min
    rw [hps5, HMR.out] at hmi5
    clear hmo5 hps5
    have hb25 := below_two hb24 hb5
    have hmi25 := hmi.below hb25 (Nat.le_refl _)
    go_wp2_with fail
    refine (sameMarks_any _ _ (marksR L) _ _ w5 hmi5 hmi25 hlens.1 hlens.2).mono ?_
    rintro e w6 ⟨rfl, hb6⟩
    have hb26 := below_two hb25 hb6
    have hb46 := below_two hb5 hb6
    have hd6 := hd'.below hb46
    have hg6 := hg4.below hb46
    clear hmi5 hmi25
    go_wp2_with fail
    refine (marks_any bd' L' E w6 hd6).mono ?_
    rintro e w7 ⟨a7, k7, c7, ps7, rfl, hmo7, hps7, hb7⟩
    have hmi7 := hmo7.min
    rw [hps7, HMR.out] at hmi7
    clear hmo7 hps7
    have hg7 := hg6.below hb7
    go_wp2_with fail
    refine (print_any (marksR L) hlens.1 hlens.2 _ _ w7 (Nat.le_refl _) hmi7 hg7.2).mono ?_
    rw [HPR.out]
    simp only [printE]
    rintro e w8 ⟨rfl, hb8⟩
    rw [HTB.out]
    have hb28 := below_two (below_two hb26 hb7) hb8
    have hb48 := below_two (below_two hb46 hb7) hb8
    have hd8 := hd2.below hb28
    have hd8' := hd'.below hb48
    have hg8 := hg7.below hb8
    have hmi8 := hmi.below hb28 (Nat.le_refl _)
    have hv8 := ((hv.below hb1 (Nat.le_refl _)).below hb2 hb1.size).below hb28 (below_two hb1 hb2).size
    have HB8 : Hid (Below w.heap.size w w8) := below_two (below_two hb1 hb2) hb28
    have hk2 : k2 = (marksR L).length := by obtain ⟨_, _, e⟩ := hmi8.val; cases e; rfl
    have HK2 : Hid (k2 = (marksR L).length) := hk2
    have hn1 := hlens.1
    rw [← hk2] at hn1
    have HV8 : Hid (Ints w.heap.size w8 (.slice av zs.length cv) zs) := hv8
    have HM8 : Hid (MIn w2.heap.size w8 (.slice a2 k2 c2) (marksR L)) := hmi8
    have HSZ : Hid (w.heap.size ≤ w8.heap.size ∧ w2.heap.size ≤ w8.heap.size) := ⟨HB8.out.size, hb28.size⟩
    clear hk2 hv8 hmi8 hv hmi hd hd2 hd' hd6 hmi7 hb1 hb2 hb3 hb4 hb5 hb6 hb7 hb8 hb24 hb25 hb26 hb28 hb46 hb48 hg1 hg2 hg3 hg4 hg6 hg7 hlens hsz hs
    go_wp2_with fail
    go_loopw [16, 17, 18, 19] (fun i _ _ _ wr => ∃ k : Nat, k ≤ k2 + zs.length ∧ i = .int .i64 k ∧ Below w8.heap.size w8 wr) (fun i _ _ _ _ => k2 + zs.length - (intOf i).toNat)
    case atStart => exact ⟨0, by omega, rfl, Below.refl _ _⟩
    case round =>
      obtain ⟨k, hk, rfl, hbel⟩ := hrel
      by_cases hlt : k < k2 + zs.length
      · go_upto_if 107 with fail
        go_cut [17] from 95 to 198 (fun v wx => wr = wx ∧ ∃ q, v = .int .i64 q ∧ InI q ∧ (k < k2 → (partsR' E q).length ≤ 18))
        case first =>
          by_cases hk2 : k < k2
          · have hlm : k < (marksR L).length := by rw [← HK2.out]; exact hk2
            obtain ⟨b, off, rfl, pa, pk, pc, c0, _⟩ := (HM8.out.below hbel HSZ.out.2).at hlm
            have hq := HMA.out _ (List.getElem_mem hlm)
            generalize (marksR L)[k] = mm at c0 hq
            go_wp2_with fail
            go_meet
            exact ⟨rfl, _, rfl, hq.1, fun _ => hq.2⟩
          · obtain ⟨j, rfl⟩ : ∃ j : Nat, k = k2 + j := ⟨k - k2, by omega⟩
            have hj : j < zs.length := by omega
            obtain ⟨b, off, e, _, _, hc⟩ := (HV8.out.below hbel HSZ.out.1).cell (fun e => by rw [e] at hj; simp at hj)
            subst e
            have hcj := hc j hj
            have hq := hzI _ (List.getElem_mem hj)
            rw [show zs[j]?.getD 0 = zs[j] by simp [List.getElem?_eq_getElem hj]] at hcj
            generalize zs[j] = z at hcj hq
            clear hc
            go_wp2_with fail
            go_meet
            exact ⟨rfl, _, rfl, hq, fun h => absurd h (by omega)⟩
        case rest =>
          obtain ⟨rfl, q, rfl, hqI, hq18⟩ := hcut
          have hdr := hd8.below hbel
          have hdr' := hd8'.below hbel
          have hpl := parts_len hdr q
          have hpp := parts_pos hdr q
          have hci := HCI.out q
          have HCQ : Hid (classAt L' q = classAt L q) := congrFun HCL.out q
          have HZI : Hid (∀ z ∈ partsR' E q, InI z) := HIN.out q hqI
          have HEQ : Hid (∀ z ∈ partsR' E q, isSyl z = false ∧ partsR' E z = [z]) := HEND.out q
          go_wp2_with fail
          refine (parts_any bd L E q wr hqI hdr).mono ?_
          rintro e w9 ⟨a9, k9, c9, rfl, hown9, hb9⟩
          have hint9 := hown9.ints
          have hk9 : k9 = (partsR' E q).length := by obtain ⟨_, _, e⟩ := hown9.val; cases e; rfl
          have HK9 : Hid (k9 = (partsR' E q).length) := hk9
          have hcap9 : k9 ≤ c9 := by
            rcases hown9.form with ⟨e, _⟩ | ⟨g, cap, e, _, _, hcap, _⟩
            · cases e; omega
            · cases e; exact hcap
          rw [← hk9] at hpl hpp hq18
          have hd9 := hdr.below hb9
          have hd9' := hdr'.below hb9
          have HB9 : Hid (Below w8.heap.size w8 w9) := below_two hbel hb9
          clear hk9 hown9 hb9 hdr hdr' hbel
          go_upto_region 20 with fail
          go_cut [165] from 123 to 165 (fun c wx => c = .bool false ∧ Below w9.heap.size w9 wx)
          case first =>
            by_cases hkk : k < k2
            · have h18 := hq18 hkk
              go_wp2_with fail
              refine (parts_any bd' L' E q w9 hqI hd9').mono ?_
              rintro e w10 ⟨a10, k10, c10, rfl, hown10, hb10⟩
              have hint10 := hown10.ints
              have hi9 := (hint9.below hb10 (Nat.le_refl _)).mono hb10.size
              have hd10 := hd9.below hb10
              have hd10' := hd9'.below hb10
              go_wp2_with fail
              refine (sameInts_any _ _ (partsR' E q) (partsR' E q) _ _ w10 hi9 hint10 (by rw [← HK9.out]; omega) (by rw [← HK9.out]; omega)).mono ?_
              rintro e w11 ⟨rfl, hb11⟩
              rw [show decide (partsR' E q = partsR' E q) = true by simp]
              have hd11 := hd10.below hb11
              have hd11' := hd10'.below hb11
              have hcl := class_any bd L E q w11 hqI hd11
              have hcl' := class_any bd' L' E q w11 hqI hd11'
              rw [HCQ.out] at hcl'
              have HB11 : Hid (Below w9.heap.size w9 w11) := below_two hb10 hb11
              clear hi9 hint10 hown10 hb10 hb11
              generalize classAt L q = cq at hcl hcl' hci
              have hcc : (cq != cq) = false := by simp
              go_wp2_with fail
              refine hcl.mono ?_
              rintro e w12 ⟨rfl, rfl⟩
              go_wp2_with fail
              refine hcl'.mono ?_
              rintro e w12 ⟨rfl, rfl⟩
              go_wp2_with fail
              refine hcl.mono ?_
              rintro e w12 ⟨rfl, rfl⟩
              go_wp2_with fail
              refine hcl.mono ?_
              rintro e w12 ⟨rfl, rfl⟩
              go_wp2_with fail
              go_meet
              exact ⟨congrArg Value.bool (by simp; omega), HB11.out⟩
            · go_wp2_with fail
              refine (parts_any bd' L' E q w9 hqI hd9').mono ?_
              rintro e w10 ⟨a10, k10, c10, rfl, hown10, hb10⟩
              have hint10 := hown10.ints
              have hi9 := (hint9.below hb10 (Nat.le_refl _)).mono hb10.size
              have hd10 := hd9.below hb10
              have hd10' := hd9'.below hb10
              go_wp2_with fail
              refine (sameInts_any _ _ (partsR' E q) (partsR' E q) _ _ w10 hi9 hint10 (by rw [← HK9.out]; omega) (by rw [← HK9.out]; omega)).mono ?_
              rintro e w11 ⟨rfl, hb11⟩
              rw [show decide (partsR' E q = partsR' E q) = true by simp]
              have hd11 := hd10.below hb11
              have hd11' := hd10'.below hb11
              have hcl := class_any bd L E q w11 hqI hd11
              have hcl' := class_any bd' L' E q w11 hqI hd11'
              rw [HCQ.out] at hcl'
              have HB11 : Hid (Below w9.heap.size w9 w11) := below_two hb10 hb11
              clear hi9 hint10 hown10 hb10 hb11
              generalize classAt L q = cq at hcl hcl' hci
              have hcc : (cq != cq) = false := by simp
              go_wp2_with fail
              refine hcl.mono ?_
              rintro e w12 ⟨rfl, rfl⟩
              go_wp2_with fail
              refine hcl'.mono ?_
              rintro e w12 ⟨rfl, rfl⟩
              go_wp2_with fail
              refine hcl.mono ?_
              rintro e w12 ⟨rfl, rfl⟩
              go_wp2_with fail
              refine hcl.mono ?_
              rintro e w12 ⟨rfl, rfl⟩
              go_wp2_with fail
              go_meet
              exact ⟨congrArg Value.bool (by simp; omega), HB11.out⟩
          case rest =>
            obtain ⟨rfl, hb10⟩ := hcut
            have hd10 := hd9.below hb10
            have hint10 := (hint9.below hb10 (Nat.le_refl _))
            have HB10 : Hid (Below w8.heap.size w8 wc) := below_two HB9.out hb10
            have hb10s := hb10.size
            clear hb10 hd9 hd9' hint9 hci hq18
            go_wp2_with fail
            go_loopw [19] (fun i wr => ∃ h : Nat, h ≤ k9 ∧ i = .int .i64 h ∧ Below wc.heap.size wc wr) (fun i _ => k9 - (intOf i).toNat)
            case atStart => exact ⟨0, by omega, rfl, Below.refl _ _⟩
            case round =>
              obtain ⟨h, hh, rfl, hbel⟩ := hrel
              by_cases hlth : h < k9
              · have hlz : h < (partsR' E q).length := by rw [← HK9.out]; exact hlth
                obtain ⟨b, off, e, hbn, hnk, hc⟩ := hint10.cell (fun e => by rw [e] at hlz; simp at hlz)
                subst e
                have hcz := hc h hlz
                rw [show (partsR' E q)[h]?.getD 0 = (partsR' E q)[h] by simp [List.getElem?_eq_getElem hlz]] at hcz
                obtain ⟨hns, hpz⟩ := HEQ.out _ (List.getElem_mem hlz)
                have hzI' := HZI.out _ (List.getElem_mem hlz)
                generalize (partsR' E q)[h] = z at hcz hns hpz hzI'
                have hczr := (hbel.cell (p := ⟨b, off + h, none⟩) (show b < wc.heap.size by have := hb10s; omega)).trans hcz
                have hdz := hd10.below hbel
                have s0 : wr.cell? ⟨b, off + h, none⟩ = some (.int .i64 z) ∧ Below wr.heap.size wr wr := ⟨hczr, Below.refl _ _⟩
                have hbr : b < wr.heap.size := by have := hb10s; have := hbel.size; omega
                have HKeep : Hid (∀ x y : World, (x.cell? ⟨b, off + h, none⟩ = some (.int .i64 z) ∧ Below wr.heap.size wr x) → Below wr.heap.size x y → (y.cell? ⟨b, off + h, none⟩ = some (.int .i64 z) ∧ Below wr.heap.size wr y)) := fun x y h1 h2 => ⟨(h2.cell (p := ⟨b, off + h, none⟩) hbr).trans h1.1, h1.2.trans h2⟩
                have HPZ : Hid (∀ x : World, (x.cell? ⟨b, off + h, none⟩ = some (.int .i64 z) ∧ Below wr.heap.size wr x) → Calls Tryz.prog 21 #[.pointer (some ⟨bd, 0, none⟩), .int .i64 z] x fun e w' => ∃ a k cap, e = .returned (.slice a k cap) ∧ IOwn w' x.heap.size (.slice a k cap) [z] ∧ Below x.heap.size x w') := fun x hx => by
                  have := parts_any bd L E z x hzI' (hdz.below hx.2)
                  rwa [hpz] at this
                have HI : Hid (∀ x : World, (x.cell? ⟨b, off + h, none⟩ = some (.int .i64 z) ∧ Below wr.heap.size wr x) → ∀ cap, Ints wr.heap.size x (.slice (some ⟨b, off + h, none⟩) 1 cap) [z]) := fun x hx cap => .inr ⟨b, off + h, cap, rfl, hbr, fun j hj => by
                  have : j = 0 := by simp at hj; omega
                  subst this
                  exact hx.1⟩
                clear hdz hcz hc hpz hbn
                go_upto_region 25 with fail
                have HNS : Hid (isSyl z = false) := hns
                clear hns
                by_cases hlow : z < 44032
                · have g1 : decide (44032 ≤ z) = false := by simp; omega
                  refine wp_region_held_drew (S := fun x => x.cell? ⟨b, off + h, none⟩ = some (.int .i64 z) ∧ Below wr.heap.size wr x) (by kernel_rfl) (HKeep.out _ _ s0 (Below.drew (Below.refl _ _))) (fun hHeld => ?_)
                  refine wpAnyH_take (i := 0) (v := ?v0) rfl (by kernel_rfl) (by kernel_rfl) (by kernel_rfl) (fun _ _ _ h => h) (Or.inl ⟨by kernel_rfl, ?hy0⟩) (by assumption) ?rest0
                  case hy0 => (intro w hSw; (try dsimp only at hSw); go_simp; first | done | with_reducible rfl)
                  simp only [Act.put, List.setIfInBounds_toArray]
                  refine wpAnyH_take (i := 1) (v := ?v1) rfl (by kernel_rfl) (by kernel_rfl) (by kernel_rfl) (fun _ _ _ h => h) (Or.inl ⟨by kernel_rfl, ?hy1⟩) (by assumption) ?rest1
                  case hy1 => (intro w hSw; (try dsimp only at hSw); go_simp; first | done | with_reducible rfl)
                  simp only [Act.put]
                  refine wpAnyH_take (i := 2) (v := ?v2) rfl (by kernel_rfl) (by kernel_rfl) (by kernel_rfl) (fun _ _ _ h => h) (Or.inl ⟨by kernel_rfl, ?hy2⟩) (by assumption) ?rest2
                  case hy2 => (intro w hSw; (try dsimp only at hSw); go_simp; first | done | with_reducible rfl)
                  simp only [Act.put]
                  refine wpAnyH_take (i := 3) (v := ?v3) rfl (by kernel_rfl) (by kernel_rfl) (by kernel_rfl) (fun _ _ _ h => h) (Or.inl ⟨by kernel_rfl, ?hy3⟩) (by assumption) ?rest3
                  case hy3 => (intro w hSw; (try dsimp only at hSw); go_simp; first | done | with_reducible rfl)
                  simp only [Act.put]
                  refine wpAnyH_take (i := 4) (v := .bool false) rfl (by kernel_rfl) (by kernel_rfl) (by kernel_rfl) (fun _ _ _ h => h) (Or.inl ⟨by kernel_rfl, ?hy4⟩) (by assumption) ?rest4
                  case hy4 => (intro w hSw; (try dsimp only at hSw); go_simp; first | done | exact g1 | go_num | (simp; omega))
                  simp only [Act.put]
                  refine wpAnyH_take (i := 5) (v := ?v5) rfl (by kernel_rfl) (by kernel_rfl) (by kernel_rfl) (fun _ _ _ h => h) (Or.inl ⟨by kernel_rfl, ?hy5⟩) (by assumption) ?rest5
                  case hy5 => (intro w hSw; (try dsimp only at hSw); go_simp; first | done | with_reducible rfl)
                  simp only [Act.put]
                  refine wpAnyH_take (i := 6) (v := undef) rfl (by kernel_rfl) (by kernel_rfl) (by kernel_rfl) (fun _ _ _ h => h) (Or.inr ⟨by kernel_rfl, rfl⟩) (by assumption) ?_
                  simp only [Act.put]
                  refine wpAnyH_take (i := 7) (v := undef) rfl (by kernel_rfl) (by kernel_rfl) (by kernel_rfl) (fun _ _ _ h => h) (Or.inr ⟨by kernel_rfl, rfl⟩) (by assumption) ?_
                  simp only [Act.put]
                  refine wpAnyH_take (i := 8) (v := undef) rfl (by kernel_rfl) (by kernel_rfl) (by kernel_rfl) (fun _ _ _ h => h) (Or.inr ⟨by kernel_rfl, rfl⟩) (by assumption) ?_
                  simp only [Act.put]
                  refine wpAnyH_take (i := 9) (v := undef) rfl (by kernel_rfl) (by kernel_rfl) (by kernel_rfl) (fun _ _ _ h => h) (Or.inr ⟨by kernel_rfl, rfl⟩) (by assumption) ?_
                  simp only [Act.put]
                  refine wpAnyH_take (i := 10) (v := undef) rfl (by kernel_rfl) (by kernel_rfl) (by kernel_rfl) (fun _ _ _ h => h) (Or.inr ⟨by kernel_rfl, rfl⟩) (by assumption) ?_
                  simp only [Act.put]
                  refine wpAnyH_take (i := 11) (v := ?v11) rfl (by kernel_rfl) (by kernel_rfl) (by kernel_rfl) (fun _ _ _ h => h) (Or.inl ⟨by kernel_rfl, ?hy11⟩) (by assumption) ?rest11
                  case hy11 => (intro w hSw; (try dsimp only at hSw); go_simp; first | done | with_reducible rfl)
                  simp only [Act.put]
                  refine wpAnyH_take (i := 12) (v := ?v12) rfl (by kernel_rfl) (by kernel_rfl) (by kernel_rfl) (fun _ _ _ h => h) (Or.inl ⟨by kernel_rfl, ?hy12⟩) (by assumption) ?rest12
                  case hy12 => (intro w hSw; (try dsimp only at hSw); go_simp; first | done | with_reducible rfl)
                  simp only [Act.put]
                  refine wpAnyH_take (i := 13) (v := ?v13) rfl (by kernel_rfl) (by kernel_rfl) (by kernel_rfl) (fun _ _ _ h => h) (Or.inl ⟨by kernel_rfl, ?hy13⟩) (by assumption) ?rest13
                  case hy13 => (intro w hSw; (try dsimp only at hSw); go_simp; first | done | with_reducible rfl)
                  simp only [Act.put]
                  refine wpAnyH_take (i := 14) (v := ?v14) rfl (by kernel_rfl) (by kernel_rfl) (by kernel_rfl) (fun _ _ _ h => h) (Or.inl ⟨by kernel_rfl, ?hy14⟩) (by assumption) ?rest14
                  case hy14 => (intro w hSw; (try dsimp only at hSw); go_simp; first | done | with_reducible rfl)
                  simp only [Act.put]
                  refine wpAnyH_take (i := 15) (v := ?v15) rfl (by kernel_rfl) (by kernel_rfl) (by kernel_rfl) (fun _ _ _ h => h) (Or.inl ⟨by kernel_rfl, ?hy15⟩) (by assumption) ?rest15
                  case hy15 => (intro w hSw; (try dsimp only at hSw); go_simp; first | done | with_reducible rfl)
                  simp only [Act.put]
                  refine wpAnyH_take (i := 16) (v := ?v16) rfl (by kernel_rfl) (by kernel_rfl) (by kernel_rfl) (fun _ _ _ h => h) (Or.inl ⟨by kernel_rfl, ?hy16⟩) (by assumption) ?rest16
                  case hy16 => (intro w hSw; (try dsimp only at hSw); go_simp; first | done | with_reducible rfl)
                  simp only [Act.put]
                  refine wpAnyH_take (i := 17) (v := ?v17) rfl (by kernel_rfl) (by kernel_rfl) (by kernel_rfl) (fun _ _ _ h => h) (Or.inl ⟨by kernel_rfl, ?hy17⟩) (by assumption) ?rest17
                  case hy17 => (intro w hSw; (try dsimp only at hSw); go_simp; first | done | with_reducible rfl)
                  simp only [Act.put]
                  refine wpAnyH_take (i := 19) (v := ?v19) rfl (by kernel_rfl) (by kernel_rfl) (by kernel_rfl) (fun _ _ _ h => h) (Or.inl ⟨by kernel_rfl, ?hy19⟩) (by assumption) ?rest19
                  case hy19 => (intro w hSw; (try dsimp only at hSw); go_simp; first | done | with_reducible rfl)
                  simp only [Act.put]
                  refine wpAnyH_take (i := 20) (v := ?v20) rfl (by kernel_rfl) (by kernel_rfl) (by kernel_rfl) (fun _ _ _ h => h) (Or.inl ⟨by kernel_rfl, ?hy20⟩) (by assumption) ?rest20
                  case hy20 => (intro w hSw; (try dsimp only at hSw); go_simp; first | done | with_reducible rfl)
                  simp only [Act.put]
                  refine wpAnyH_take (i := 21) (v := ?v21) rfl (by kernel_rfl) (by kernel_rfl) (by kernel_rfl) (fun _ _ _ h => h) (Or.inl ⟨by kernel_rfl, ?hy21⟩) (by assumption) ?rest21
                  case hy21 => (intro w hSw; (try dsimp only at hSw); go_simp; first | done | with_reducible rfl)
                  simp only [Act.put]
                  refine wpAnyH_take (i := 22) (v := .int .i64 ((h : Int) + 1)) rfl (by kernel_rfl) (by kernel_rfl) (by kernel_rfl) (fun _ _ _ h => h) (Or.inl ⟨by kernel_rfl, ?hy22⟩) (by assumption) ?rest22
                  case hy22 => (intro w hSw; (try dsimp only at hSw); go_simp; first | done | exact wrapI (by omega))
                  simp only [Act.put]
                  refine wpAnyH_take (i := 23) (v := .slice (some ⟨b, off + h, none⟩) 1 (c9 - h)) rfl (by kernel_rfl) (by kernel_rfl) (by kernel_rfl) (fun _ _ _ h => h) (Or.inl ⟨by kernel_rfl, ?hy23⟩) (by assumption) ?rest23
                  case hy23 => (intro w hSw; (try dsimp only at hSw); go_simp; first | done | (rw [if_pos (by omega), if_neg (by omega)]))
                  simp only [Act.put]
                  refine wpAnyH_ready (rs := [18]) (by kernel_rfl) (by simp) ?_
                  refine AllReadyH.cons rfl (fun K hK => ?_) AllReadyH.nil
                  go_simp
                  go_wp2_with (go_at_call 21; refine (HPZ.out _ (by assumption)).mono ?_; rintro e w11 ⟨a11, k11, c11, rfl, hown11, hb11⟩)
                  refine hK.out _ _ (HKeep.out _ _ (by assumption) (below_call (by assumption) (by assumption))) (fun hHeld18 => ?_)
                  clear hK K
                  refine wpAnyH_ready (rs := [24]) (by kernel_rfl) (by simp) ?_
                  refine AllReadyH.cons rfl (fun K hK => ?_) AllReadyH.nil
                  go_simp
                  go_wp2_with (go_at_call 22; refine (sameInts_any _ _ [z] [z] _ _ _ hown11.ints (HI.out _ hHeld18 _) (by simp) (by simp)).mono ?_; rintro e w12 ⟨rfl, hb12⟩; rw [show decide ([z] = [z]) = true by simp])
                  refine hK.out _ _ (HKeep.out _ _ hHeld18 (below_call hHeld18 hb12)) (fun hHeld24 => ?_)
                  clear hK K
                  refine wpAnyH_take (i := 25) (v := ?v25) rfl (by kernel_rfl) (by kernel_rfl) (by kernel_rfl) (fun _ _ _ h => h) (Or.inl ⟨by kernel_rfl, ?hy25⟩) (by assumption) ?rest25
                  case hy25 => (intro w hSw; (try dsimp only at hSw); go_simp; first | done | with_reducible rfl)
                  simp only [Act.put, List.setIfInBounds_toArray]
                  refine wpAnyH_take (i := 26) (v := ?v26) rfl (by kernel_rfl) (by kernel_rfl) (by kernel_rfl) (fun _ _ _ h => h) (Or.inl ⟨by kernel_rfl, ?hy26⟩) (by assumption) ?rest26
                  case hy26 => (intro w hSw; (try dsimp only at hSw); go_simp; first | done | with_reducible rfl)
                  simp only [Act.put]
                  refine wpAnyH_done (by kernel_rfl) ?_ _
                  go_wp2_with fail
                  go_roundw
                  case rel => exact ⟨h + 1, by omega, by go_num, below_two hbel hHeld24.2⟩
                  case measure => simp only [intOf]; omega
                · have hgt : 55203 < z := by
                    have := HNS.out
                    simp [isSyl] at this
                    omega
                  have g1 : decide (44032 ≤ z) = true := by simp; omega
                  have g2 : decide (z ≤ 55203) = false := by simp; omega
                  refine wp_region_held_drew (S := fun x => x.cell? ⟨b, off + h, none⟩ = some (.int .i64 z) ∧ Below wr.heap.size wr x) (by kernel_rfl) (HKeep.out _ _ s0 (Below.drew (Below.refl _ _))) (fun hHeld => ?_)
                  refine wpAnyH_take (i := 0) (v := ?vb0) rfl (by kernel_rfl) (by kernel_rfl) (by kernel_rfl) (fun _ _ _ h => h) (Or.inl ⟨by kernel_rfl, ?hyb0⟩) (by assumption) ?restb0
                  case hyb0 => (intro w hSw; (try dsimp only at hSw); go_simp; first | done | with_reducible rfl)
                  simp only [Act.put, List.setIfInBounds_toArray]
                  refine wpAnyH_take (i := 1) (v := ?vb1) rfl (by kernel_rfl) (by kernel_rfl) (by kernel_rfl) (fun _ _ _ h => h) (Or.inl ⟨by kernel_rfl, ?hyb1⟩) (by assumption) ?restb1
                  case hyb1 => (intro w hSw; (try dsimp only at hSw); go_simp; first | done | with_reducible rfl)
                  simp only [Act.put]
                  refine wpAnyH_take (i := 2) (v := ?vb2) rfl (by kernel_rfl) (by kernel_rfl) (by kernel_rfl) (fun _ _ _ h => h) (Or.inl ⟨by kernel_rfl, ?hyb2⟩) (by assumption) ?restb2
                  case hyb2 => (intro w hSw; (try dsimp only at hSw); go_simp; first | done | with_reducible rfl)
                  simp only [Act.put]
                  refine wpAnyH_take (i := 3) (v := ?vb3) rfl (by kernel_rfl) (by kernel_rfl) (by kernel_rfl) (fun _ _ _ h => h) (Or.inl ⟨by kernel_rfl, ?hyb3⟩) (by assumption) ?restb3
                  case hyb3 => (intro w hSw; (try dsimp only at hSw); go_simp; first | done | with_reducible rfl)
                  simp only [Act.put]
                  refine wpAnyH_take (i := 4) (v := .bool true) rfl (by kernel_rfl) (by kernel_rfl) (by kernel_rfl) (fun _ _ _ h => h) (Or.inl ⟨by kernel_rfl, ?hyb4⟩) (by assumption) ?restb4
                  case hyb4 => (intro w hSw; (try dsimp only at hSw); go_simp; first | done | exact g1 | go_num | (simp; omega))
                  simp only [Act.put]
                  refine wpAnyH_take (i := 5) (v := ?vb5) rfl (by kernel_rfl) (by kernel_rfl) (by kernel_rfl) (fun _ _ _ h => h) (Or.inl ⟨by kernel_rfl, ?hyb5⟩) (by assumption) ?restb5
                  case hyb5 => (intro w hSw; (try dsimp only at hSw); go_simp; first | done | with_reducible rfl)
                  simp only [Act.put]
                  refine wpAnyH_take (i := 6) (v := ?vb6) rfl (by kernel_rfl) (by kernel_rfl) (by kernel_rfl) (fun _ _ _ h => h) (Or.inl ⟨by kernel_rfl, ?hyb6⟩) (by assumption) ?restb6
                  case hyb6 => (intro w hSw; (try dsimp only at hSw); go_simp; first | done | with_reducible rfl)
                  simp only [Act.put]
                  refine wpAnyH_take (i := 7) (v := ?vb7) rfl (by kernel_rfl) (by kernel_rfl) (by kernel_rfl) (fun _ _ _ h => h) (Or.inl ⟨by kernel_rfl, ?hyb7⟩) (by assumption) ?restb7
                  case hyb7 => (intro w hSw; (try dsimp only at hSw); go_simp; first | done | with_reducible rfl)
                  simp only [Act.put]
                  refine wpAnyH_take (i := 8) (v := ?vb8) rfl (by kernel_rfl) (by kernel_rfl) (by kernel_rfl) (fun _ _ _ h => h) (Or.inl ⟨by kernel_rfl, ?hyb8⟩) (by assumption) ?restb8
                  case hyb8 => (intro w hSw; (try dsimp only at hSw); go_simp; first | done | with_reducible rfl)
                  simp only [Act.put]
                  refine wpAnyH_take (i := 9) (v := ?vb9) rfl (by kernel_rfl) (by kernel_rfl) (by kernel_rfl) (fun _ _ _ h => h) (Or.inl ⟨by kernel_rfl, ?hyb9⟩) (by assumption) ?restb9
                  case hyb9 => (intro w hSw; (try dsimp only at hSw); go_simp; first | done | with_reducible rfl)
                  simp only [Act.put]
                  refine wpAnyH_take (i := 10) (v := .bool false) rfl (by kernel_rfl) (by kernel_rfl) (by kernel_rfl) (fun _ _ _ h => h) (Or.inl ⟨by kernel_rfl, ?hyb10⟩) (by assumption) ?restb10
                  case hyb10 => (intro w hSw; (try dsimp only at hSw); go_simp; first | done | exact g2 | go_num | (simp; omega))
                  simp only [Act.put]
                  refine wpAnyH_take (i := 11) (v := ?vb11) rfl (by kernel_rfl) (by kernel_rfl) (by kernel_rfl) (fun _ _ _ h => h) (Or.inl ⟨by kernel_rfl, ?hyb11⟩) (by assumption) ?restb11
                  case hyb11 => (intro w hSw; (try dsimp only at hSw); go_simp; first | done | with_reducible rfl)
                  simp only [Act.put]
                  refine wpAnyH_take (i := 12) (v := ?vb12) rfl (by kernel_rfl) (by kernel_rfl) (by kernel_rfl) (fun _ _ _ h => h) (Or.inl ⟨by kernel_rfl, ?hyb12⟩) (by assumption) ?restb12
                  case hyb12 => (intro w hSw; (try dsimp only at hSw); go_simp; first | done | with_reducible rfl)
                  simp only [Act.put]
                  refine wpAnyH_take (i := 13) (v := ?vb13) rfl (by kernel_rfl) (by kernel_rfl) (by kernel_rfl) (fun _ _ _ h => h) (Or.inl ⟨by kernel_rfl, ?hyb13⟩) (by assumption) ?restb13
                  case hyb13 => (intro w hSw; (try dsimp only at hSw); go_simp; first | done | with_reducible rfl)
                  simp only [Act.put]
                  refine wpAnyH_take (i := 14) (v := ?vb14) rfl (by kernel_rfl) (by kernel_rfl) (by kernel_rfl) (fun _ _ _ h => h) (Or.inl ⟨by kernel_rfl, ?hyb14⟩) (by assumption) ?restb14
                  case hyb14 => (intro w hSw; (try dsimp only at hSw); go_simp; first | done | with_reducible rfl)
                  simp only [Act.put]
                  refine wpAnyH_take (i := 15) (v := ?vb15) rfl (by kernel_rfl) (by kernel_rfl) (by kernel_rfl) (fun _ _ _ h => h) (Or.inl ⟨by kernel_rfl, ?hyb15⟩) (by assumption) ?restb15
                  case hyb15 => (intro w hSw; (try dsimp only at hSw); go_simp; first | done | with_reducible rfl)
                  simp only [Act.put]
                  refine wpAnyH_take (i := 16) (v := ?vb16) rfl (by kernel_rfl) (by kernel_rfl) (by kernel_rfl) (fun _ _ _ h => h) (Or.inl ⟨by kernel_rfl, ?hyb16⟩) (by assumption) ?restb16
                  case hyb16 => (intro w hSw; (try dsimp only at hSw); go_simp; first | done | with_reducible rfl)
                  simp only [Act.put]
                  refine wpAnyH_take (i := 17) (v := ?vb17) rfl (by kernel_rfl) (by kernel_rfl) (by kernel_rfl) (fun _ _ _ h => h) (Or.inl ⟨by kernel_rfl, ?hyb17⟩) (by assumption) ?restb17
                  case hyb17 => (intro w hSw; (try dsimp only at hSw); go_simp; first | done | with_reducible rfl)
                  simp only [Act.put]
                  refine wpAnyH_take (i := 19) (v := ?vb19) rfl (by kernel_rfl) (by kernel_rfl) (by kernel_rfl) (fun _ _ _ h => h) (Or.inl ⟨by kernel_rfl, ?hyb19⟩) (by assumption) ?restb19
                  case hyb19 => (intro w hSw; (try dsimp only at hSw); go_simp; first | done | with_reducible rfl)
                  simp only [Act.put]
                  refine wpAnyH_take (i := 20) (v := ?vb20) rfl (by kernel_rfl) (by kernel_rfl) (by kernel_rfl) (fun _ _ _ h => h) (Or.inl ⟨by kernel_rfl, ?hyb20⟩) (by assumption) ?restb20
                  case hyb20 => (intro w hSw; (try dsimp only at hSw); go_simp; first | done | with_reducible rfl)
                  simp only [Act.put]
                  refine wpAnyH_take (i := 21) (v := ?vb21) rfl (by kernel_rfl) (by kernel_rfl) (by kernel_rfl) (fun _ _ _ h => h) (Or.inl ⟨by kernel_rfl, ?hyb21⟩) (by assumption) ?restb21
                  case hyb21 => (intro w hSw; (try dsimp only at hSw); go_simp; first | done | with_reducible rfl)
                  simp only [Act.put]
                  refine wpAnyH_take (i := 22) (v := .int .i64 ((h : Int) + 1)) rfl (by kernel_rfl) (by kernel_rfl) (by kernel_rfl) (fun _ _ _ h => h) (Or.inl ⟨by kernel_rfl, ?hyb22⟩) (by assumption) ?restb22
                  case hyb22 => (intro w hSw; (try dsimp only at hSw); go_simp; first | done | exact wrapI (by omega))
                  simp only [Act.put]
                  refine wpAnyH_take (i := 23) (v := .slice (some ⟨b, off + h, none⟩) 1 (c9 - h)) rfl (by kernel_rfl) (by kernel_rfl) (by kernel_rfl) (fun _ _ _ h => h) (Or.inl ⟨by kernel_rfl, ?hyb23⟩) (by assumption) ?restb23
                  case hyb23 => (intro w hSw; (try dsimp only at hSw); go_simp; first | done | (rw [if_pos (by omega), if_neg (by omega)]))
                  simp only [Act.put]
                  refine wpAnyH_ready (rs := [18]) (by kernel_rfl) (by simp) ?_
                  refine AllReadyH.cons rfl (fun K hK => ?_) AllReadyH.nil
                  go_simp
                  go_wp2_with (go_at_call 21; refine (HPZ.out _ (by assumption)).mono ?_; rintro e w11 ⟨a11, k11, c11, rfl, hown11, hb11⟩)
                  refine hK.out _ _ (HKeep.out _ _ (by assumption) (below_call (by assumption) (by assumption))) (fun hHeld18 => ?_)
                  clear hK K
                  refine wpAnyH_ready (rs := [24]) (by kernel_rfl) (by simp) ?_
                  refine AllReadyH.cons rfl (fun K hK => ?_) AllReadyH.nil
                  go_simp
                  go_wp2_with (go_at_call 22; refine (sameInts_any _ _ [z] [z] _ _ _ hown11.ints (HI.out _ hHeld18 _) (by simp) (by simp)).mono ?_; rintro e w12 ⟨rfl, hb12⟩; rw [show decide ([z] = [z]) = true by simp])
                  refine hK.out _ _ (HKeep.out _ _ hHeld18 (below_call hHeld18 hb12)) (fun hHeld24 => ?_)
                  clear hK K
                  refine wpAnyH_take (i := 25) (v := ?vb25) rfl (by kernel_rfl) (by kernel_rfl) (by kernel_rfl) (fun _ _ _ h => h) (Or.inl ⟨by kernel_rfl, ?hyb25⟩) (by assumption) ?restb25
                  case hyb25 => (intro w hSw; (try dsimp only at hSw); go_simp; first | done | with_reducible rfl)
                  simp only [Act.put, List.setIfInBounds_toArray]
                  refine wpAnyH_take (i := 26) (v := ?vb26) rfl (by kernel_rfl) (by kernel_rfl) (by kernel_rfl) (fun _ _ _ h => h) (Or.inl ⟨by kernel_rfl, ?hyb26⟩) (by assumption) ?restb26
                  case hyb26 => (intro w hSw; (try dsimp only at hSw); go_simp; first | done | with_reducible rfl)
                  simp only [Act.put]
                  refine wpAnyH_done (by kernel_rfl) ?_ _
                  go_wp2_with fail
                  go_roundw
                  case rel => exact ⟨h + 1, by omega, by go_num, below_two hbel hHeld24.2⟩
                  case measure => simp only [intOf]; omega
              · obtain rfl : h = k9 := by omega
                go_wp2_with fail
                go_roundw
                case rel => exact ⟨k + 1, by omega, by go_num, below_two HB10.out hbel⟩
                case measure => simp only [intOf]; omega
      · obtain rfl : k = k2 + zs.length := by omega
        have hgr := hg8.below hbel
        go_wp2_with fail
        refine (awake_any wr hgr).mono ?_
        rintro e w9 ⟨rfl, hb9⟩
        go_wp2_with fail
        go_ret
        exact ⟨rfl, below_two HB8.out (below_two hbel hb9)⟩

end Go.Proofs.YtpmckfmjegehgaaGreatDoor
