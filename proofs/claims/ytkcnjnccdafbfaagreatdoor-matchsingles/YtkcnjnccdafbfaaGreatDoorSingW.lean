/- What MatchSingles does (a contract; nothing is claimed here). -/
import Derived.Test.YtkcnjnccdafbfaaGreatDoorTailW
namespace Go.Proofs.YtkcnjnccdafbfaaGreatDoor
open Go.RowKit Go.Vf Go.Maps

set_option maxHeartbeats 16000000 in
set_option maxRecDepth 20000 in
theorem singles_walk (m e : ByteArray) (hm : m.size ≤ 281474976710656) (he : e.size ≤ 281474976710656) (a : Option Addr) (k c : Nat) (zs : List Int) (w : World) (hg : Glob w) (ha : Lst w a k c zs) :
    Calls Tryz.prog 4 #[.agg #[.string m, .string e], .slice a k c] w fun r w' => r = .returned (.bool true) ∧ Below w.heap.size w w' := by
  obtain ⟨w0, hw0, hb0, c0, c1⟩ := box_new w m e
  have hbo := both_any m e hm he w0 (hg.below hb0)
  go_enter Tryz.func4, Tryz.ntmps4
  go_wp2_with fail
  rw [← hw0]
  clear hw0
  go_wp2_with fail
  refine hbo.mono ?_
  rintro r w1 ⟨hb1, hcase⟩
  have hb01 := hb0.trans (hb1.mono hb0.size)
  have hg1 := hg.below hb01
  clear hbo c0 c1
  rcases hcase with ⟨L, F, E, bd, T, rfl, hL, hT, hd, me, ml, val, ht⟩ | ⟨d, t, rfl, _⟩
  · have ha1 := ha.below hb01
    have hf1 := few_any hd ha1
    by_cases hfa : (flatR F zs).length ≤ 1000
    · rw [decide_eq_true hfa] at hf1
      go_wp2_with fail
      refine hf1.mono ?_
      rintro r w2 ⟨rfl, hb2⟩
      have hb02 := hb01.trans (hb2.mono hb01.size)
      have hd2 := hd.below hb2
      have ht2 := ht.below hb2
      have ha2 := ha1.below hb2
      have hg2 := hg1.below hb2
      obtain ⟨hokE, hndE, hlE⟩ := loadT_ok hT
      clear hf1 ha1 hd ht hg1 hb01 hb1 hb2 hb0
      go_wp2_with fail
      refine (entries_any T me ml val E w2 ht2 hlE hndE).mono ?_
      rintro r w3 ⟨v3, vs3, es, rfl, hE3, _, hperm, hb3⟩
      have hin3 := hE3.inn
      obtain ⟨a3, c3, rfl⟩ := hin3.val
      have hb03 := hb02.trans (hb3.mono hb02.size)
      have hd3 := hd2.below hb3
      have ht3 := ht2.below hb3
      have ha3 := ha2.below hb3
      have hg3 := hg2.below hb3
      have hesl : es.length ≤ 4096 := by rw [hperm.length_eq]; exact hlE
      have hfnd : (∀ x ∈ es, x.1.length = 1) → ∀ q, fndT E q = true → q.length = 1 := fun h q hq => by
        unfold fndT at hq
        obtain ⟨l, hl⟩ := Option.isSome_iff_exists.1 hq
        exact h (q, l) (hperm.mem_iff.2 (findT_some hl))
      have hes4 : ∀ x ∈ es, x.1.length ≤ 8 := fun x hx => (rowB_len (hokE x (hperm.mem_iff.1 hx)).row).2
      obtain ⟨X, hX⟩ := formed_exists hL zs
      have hXl := few_len hd3 hfa hX
      clear hE3 hperm ha2 hd2 ht2 hg2 hb02 hb3
      go_wp2_with fail
      go_loopw [8, 10] (fun ov iv wr => ∃ (i : Nat) (b : Bool), i ≤ es.length ∧ iv = .int .i64 i ∧ ov = .bool b ∧ Hid (b = true → ∀ j (h : j < es.length), j < i → es[j].1.length = 1) ∧ wr = w3) (fun _ iv _ => es.length - (intOf iv).toNat)
      case atStart => exact ⟨0, true, by omega, rfl, rfl, fun _ j _ h => absurd h (by omega), rfl⟩
      case round =>
        obtain ⟨i, b, hi, rfl, rfl, HN, rfl⟩ := hrel
        by_cases hlt : i < es.length
        · obtain ⟨pb, po, rfl, pa, pc, ea, ec, d0, d1, hpi, hei⟩ := hin3.at hlt
          have HN2 : Hid (b = true → es[i].1.length = 1 → ∀ j (h : j < es.length), j < i + 1 → es[j].1.length = 1) := fun hb h1 j h hj => by
            rcases Nat.lt_or_ge j i with h2 | h2
            · exact HN.out hb j h h2
            · obtain rfl : j = i := by omega
              exact h1
          have h8 := hes4 _ (List.getElem_mem hlt)
          generalize hpl : es[i].1.length = pl at d0 HN2 h8
          clear HN d1 hpi hei hpl
          cases b with
          | false =>
            go_wp2_with fail
            go_roundw
            case rel => exact ⟨i + 1, false, by omega, by simp, rfl, (fun h => by cases h), trivial⟩
            case measure => simp only [intOf]; omega
          | true =>
            by_cases hp1 : pl = 1
            · have HN3 : Hid (true = true → ∀ j (h : j < es.length), j < i + 1 → es[j].1.length = 1) := fun h => HN2.out h hp1
              have hq : ((pl : Int) == 1) = true := by simp; omega
              clear HN2 hp1
              go_wp2_with fail
              go_roundw
              case rel => exact ⟨i + 1, true, by omega, by simp, by first | rfl | simp, HN3, trivial⟩
              case measure => simp only [intOf]; omega
            · have hq : ((pl : Int) == 1) = false := by simp; omega
              clear HN2 hp1
              go_wp2_with fail
              go_roundw
              case rel => exact ⟨i + 1, false, by omega, by simp, by first | rfl | simp, (fun h => by cases h), trivial⟩
              case measure => simp only [intOf]; omega
        · have hone : b = true → ∀ q, fndT E q = true → q.length = 1 := fun hb => hfnd (fun x hx => by
            obtain ⟨j, hj, rfl⟩ := List.mem_iff_getElem.1 hx
            exact HN.out hb j hj (by omega))
          have hna := ha3.numb (by omega)
          clear HN hin3 hfnd hes4 ha3
          go_wp2_with fail
          refine (form_load hL hd3 hna).mono ?_
          intro r w4 hpost
          obtain ⟨gx, kx, cx, X', rfl, hownX, hX', hb4⟩ := hpost.formed
          obtain rfl : X' = X := FormOf.same hX'.form hX.form
          have hb04 := hb03.trans (hb4.mono hb03.size)
          have hd4 := hd3.below hb4
          have ht4 := ht3.below hb4
          have hg4 := hg3.below hb4
          have hna4 := hna.below hb4
          have hkx := hownX.form1
          subst hkx
          clear hd3 ht3 hg3 hna hb03 hb4 hpost hX'
          go_wp2_with fail
          refine (steps_any hL hd4 ht4 hna4 hX.form (by omega)).mono ?_
          rintro r w5 ⟨v5, rfl, hr5, hb5⟩
          have hb05 := hb04.trans (hb5.mono hb04.size)
          have ht5 := ht4.below hb5
          have hg5 := hg4.below hb5
          have hX5 : IOwn w5 _ _ X' := own_after hownX hb5
          have R5 := hr5.rin
          obtain ⟨a5, c5, rfl, hR5⟩ := R5
          obtain ⟨hXg, hXc⟩ : gx < w5.heap.size ∧ ∀ j, j < X'.length → w5.cell? ⟨gx, j, none⟩ = some (.int .i64 (X'[j]?.getD 0)) := by
            rcases hX5.form with ⟨e, _⟩ | ⟨g', cp, e, _, h1, _, hc, _⟩
            · cases e
            · cases e; exact ⟨h1, hc⟩
          have hcX : X'.length ≤ cx := by
            rcases hX5.form with ⟨e, _⟩ | ⟨g', cp, e, _, h1, h2, hc, _⟩
            · cases e
            · cases e; exact h2
          have hX1 := hXl.2
          clear hd4 ht4 hg4 hna4 hb04 hownX hr5
          cases b with
          | true =>
            have hsing := singles (cls := classAt L) (hone rfl) X'
            rw [hsing] at hR5 ⊢
            have hln : (X'.map fun x => [x]).length = X'.length := by simp
            rw [hln]
            have hne : ((X'.length : Int) != (X'.length : Int)) = false := by simp
            clear hone hsing
            go_wp2_with fail
            go_loopw [13] (fun iv wr => ∃ i : Nat, iv = .int .i64 i ∧ i ≤ X'.length ∧ Below w5.heap.size w5 wr) (fun iv _ => X'.length - (intOf iv).toNat)
            case atStart => exact ⟨0, rfl, by omega, Below.refl _ _⟩
            case round =>
              obtain ⟨i, rfl, hi, hbr⟩ := hrel
              by_cases hlt : i < X'.length
              · obtain ⟨rb, ro, ra, rc, rfl, p1, p2⟩ := hR5 i (by simpa using hlt)
                simp only [List.getElem_map, List.length_cons, List.length_nil, Nat.zero_add] at p1 p2
                have q0 := hXc i hlt
                rw [show X'[i]?.getD 0 = X'[i] by simp [List.getElem?_eq_getElem hlt]] at q0
                obtain ⟨sb, so, hsa, q1⟩ : ∃ sb so, ra = some ⟨sb, so, none⟩ ∧ w5.cell? ⟨sb, so, none⟩ = some (.int .i64 X'[i]) := by
                  rcases p2 with ⟨_, _, e, h⟩ | ⟨sb, so, _, e, _, hc⟩
                  · cases h
                  · cases e; exact ⟨sb, so, rfl, by simpa using hc 0 (by simp)⟩
                subst hsa
                have d0 := (hbr.cell (p := ⟨gx, i, none⟩) hXg).trans q0
                have d1 := (hbr.cell (p := ⟨rb, ro + i, none⟩) (World.block_lt_of_cell? w5 _ p1)).trans p1
                have d2 := (hbr.cell (p := ⟨sb, so, none⟩) (World.block_lt_of_cell? w5 _ q1)).trans q1
                generalize X'[i] = x at d0 d2
                have hnx : (x != x) = false := by simp
                clear p1 p2 q0 q1
                go_upto_region 18 with fail
                go_region
                go_wp2_with fail
                go_roundw
                case rel => exact ⟨i + 1, by simp, by omega, hbr.drew⟩
                case measure => simp only [intOf]; omega
              · have hbf := hb05.trans (hbr.mono hb05.size)
                go_wp2_with fail
                refine (awake_any wr (hg5.below hbr)).mono ?_
                rintro r w6 ⟨rfl, hb6⟩
                go_wp2_with fail
                go_ret
                exact ⟨rfl, hbf.trans (hb6.mono hbf.size)⟩
          | false =>
            clear hone
            have hsl := stepsD_length (cls := classAt L) (fnd := fndT E) X'
            have hssh := stepsD_short (cls := classAt L) (fnd := fndT E) X'
            by_cases hX0 : X' = []
            · subst hX0
              have hs0 : stepsD (classAt L) (fndT E) [] = [] := rfl
              rw [hs0]
              simp only [List.length_nil]
              go_wp2_with fail
              refine (awake_any w5 hg5).mono ?_
              rintro r w6 ⟨rfl, hb6⟩
              go_wp2_with fail
              go_ret
              exact ⟨by simp, hb05.trans (hb6.mono hb05.size)⟩
            · have hlf := fun (r : List Int) h n h1 h2 h3 => longest_first (cls := classAt L) (fnd := fndT E) hX0 (r := r) h (n := n) h1 h2 h3
              have hcons := stepsD_cons (cls := classAt L) (fnd := fndT E) hX0
              have hpos : 0 < (stepsD (classAt L) (fndT E) X').length := by rw [hcons]; simp
              obtain ⟨rb, ro, ra, rc, hra, p1, p2⟩ := hR5 0 hpos
              subst hra
              have hh0 : (stepsD (classAt L) (fndT E) X').head? = some (stepsD (classAt L) (fndT E) X')[0] := by rw [List.head?_eq_getElem?, List.getElem?_eq_getElem hpos]
              have hr1 := hssh _ (List.getElem_mem hpos)
              clear p2
              generalize (stepsD (classAt L) (fndT E) X')[0] = r0 at p1 hh0 hr1
              have hlf0 := hlf r0 hh0
              rw [Nat.add_zero] at p1
              clear hlf hcons hssh hR5 hh0
              generalize (stepsD (classAt L) (fndT E) X').length = ln at hpos hsl ⊢
              have hne : ((ln : Int) == 0) = false := by simp; omega
              have HLF : Hid (∀ n, r0.length < n → n ≤ X'.length → n ≤ 8 → fndT E (X'.take n) = false) := hlf0
              clear hlf0
              go_wp2_with fail
              go_loopw [14] (fun nv wr => ∃ n : Nat, nv = .int .i64 n ∧ r0.length < n ∧ n ≤ 1001 ∧ Below w5.heap.size w5 wr) (fun nv _ => 1001 - (intOf nv).toNat)
              case atStart => exact ⟨r0.length + 1, by simp, by omega, by omega, Below.refl _ _⟩
              case round =>
                obtain ⟨n, rfl, hn0, hn1, hbr⟩ := hrel
                have hbf := hb05.trans (hbr.mono hb05.size)
                by_cases hnl : n ≤ X'.length
                · by_cases hn8 : n ≤ 8
                  · have hfd := HLF.out n hn0 hnl hn8
                    have hXr : IOwn wr _ _ X' := own_after hX5 hbr
                    have htk := hXr.take (m := n) hnl
                    have hln : (X'.take n).length ≤ 4611686018427387904 := by rw [List.length_take]; omega
                    have hfb := find_b T me ml _ val E _ (X'.take n) wr (ht5.below hbr) (Nat.le_refl _) htk.ints hln
                    rw [hfd] at hfb
                    have hd1 : decide ((n : Int) ≤ (X'.length : Int)) = true := by simp; omega
                    have hd2 : decide ((n : Int) ≤ 8) = true := by simp; omega
                    have hncx : n ≤ cx := by omega
                    clear hfd hXr htk hln
                    go_wp2_with fail
                    refine hfb.mono ?_
                    rintro r w6 ⟨u, rfl, hb6⟩
                    go_wp2_with fail
                    go_roundw
                    case rel => exact ⟨n + 1, by simp, by omega, by omega, hbr.trans (hb6.mono hbr.size)⟩
                    case measure => simp only [intOf]; omega
                  · have hd1 : decide ((n : Int) ≤ (X'.length : Int)) = true := by simp; omega
                    have hd2 : decide ((n : Int) ≤ 8) = false := by simp; omega
                    go_wp2_with fail
                    refine (awake_any wr (hg5.below hbr)).mono ?_
                    rintro r w6 ⟨rfl, hb6⟩
                    go_wp2_with fail
                    go_ret
                    exact ⟨rfl, hbf.trans (hb6.mono hbf.size)⟩
                · have hd1 : decide ((n : Int) ≤ (X'.length : Int)) = false := by simp; omega
                  have hd3 : ¬ ((n : Int) ≤ (X'.length : Int)) := by omega
                  go_wp2_with fail
                  refine (awake_any wr (hg5.below hbr)).mono ?_
                  rintro r w6 ⟨rfl, hb6⟩
                  go_wp2_with fail
                  go_ret
                  exact ⟨rfl, hbf.trans (hb6.mono hbf.size)⟩
    · rw [decide_eq_false hfa] at hf1
      go_wp2_with fail
      refine hf1.mono ?_
      rintro r w2 ⟨rfl, hb2⟩
      have hb02 := hb01.trans (hb2.mono hb01.size)
      go_wp2_with fail
      refine (awake_any w2 (hg1.below hb2)).mono ?_
      rintro r w3 ⟨rfl, hb3⟩
      go_wp2_with fail
      go_ret
      exact ⟨rfl, hb02.trans (hb3.mono hb02.size)⟩
  · go_wp2_with fail
    refine (awake_any w1 hg1).mono ?_
    rintro r w2 ⟨rfl, hb2⟩
    go_wp2_with fail
    go_ret
    exact ⟨rfl, hb01.trans (hb2.mono hb01.size)⟩
end Go.Proofs.YtkcnjnccdafbfaaGreatDoor
