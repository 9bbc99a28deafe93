/- What MatchTails does (a contract; nothing is claimed here). -/
import Derived.Test.YtkcnjnccdafbfaaGreatDoorJ15
import Derived.Test.YtkcnjnccdafbfaaGreatDoorJ16
import Derived.Test.YtkcnjnccdafbfaaGreatDoorTEntE
namespace Go.Proofs.YtkcnjnccdafbfaaGreatDoor
open Go.RowKit Go.Vf Go.Maps

theorem box_new (w : World) (m e : ByteArray) : ∃ w0, w0 = w.alloc (.cells #[.string m, .string e] 23) ∧ Below w.heap.size w w0 ∧ w0.cell? ⟨w.heap.size, 0, none⟩ = some (.string m) ∧ w0.cell? ⟨w.heap.size, 1, none⟩ = some (.string e) :=
  ⟨_, rfl, (Below.refl _ w).alloc (Nat.le_refl _) _, (Blk.new w 23 #[.string m, .string e]).cell 0, (Blk.new w 23 #[.string m, .string e]).cell 1⟩
theorem formed_exists {t : List UInt8} {L : List Mk} {F : Int → List Int} (h : loadR t = .ok (L, F)) (zs : List Int) : ∃ X, Formed L F zs X := by
  obtain ⟨X, h1, h2, h3⟩ := form_exists (cls := classAt L) (fun q => (load_cls h q).1) (flatR F zs)
  exact ⟨X, h1, h3, h2⟩
theorem few_len {w : World} {bd : Nat} {L : List Mk} {F : Int → List Int} (h : DataAt w bd L F) {zs X : List Int} (hf : (flatR F zs).length ≤ 1000) (hX : Formed L F zs X) : zs.length ≤ 1000 ∧ X.length ≤ 1000 := by
  have := flat_len h zs
  have := hX.len
  omega

set_option maxHeartbeats 16000000 in
set_option maxRecDepth 20000 in
theorem tails_walk (m e : ByteArray) (hm : m.size ≤ 281474976710656) (he : e.size ≤ 281474976710656) (a b : Option Addr) (k c k2 c2 : Nat) (zs ys : List Int) (w : World) (hg : Glob w) (ha : Lst w a k c zs) (hb : Lst w b k2 c2 ys) :
    Calls Tryz.prog 5 #[.agg #[.string m, .string e], .slice a k c, .slice b k2 c2] w fun r w' => r = .returned (.bool true) ∧ Below w.heap.size w w' := by
  obtain ⟨w0, hw0, hb0, c0, c1⟩ := box_new w m e
  have hbo := both_any m e hm he w0 (hg.below hb0)
  go_enter Tryz.func5, Tryz.ntmps5
  go_wp2_with fail
  rw [← hw0]
  clear hw0
  go_wp2_with fail
  refine hbo.mono ?_
  rintro r w1 ⟨hb1, hcase⟩
  have hb01 := hb0.trans (hb1.mono hb0.size)
  have hg1 := hg.below hb01
  clear hbo c0 c1
  rcases hcase with ⟨L, F, E, bd, T, rfl, hL, hT, hd, me, ml, val, ht⟩ | ⟨d, t, rfl, _⟩
  · have ha1 := ha.below hb01
    have hy1 := hb.below hb01
    have hf1 := few_any hd ha1
    by_cases hfa : (flatR F zs).length ≤ 1000
    · rw [decide_eq_true hfa] at hf1
      go_wp2_with fail
      refine hf1.mono ?_
      rintro r w2 ⟨rfl, hb2⟩
      have hb02 := hb01.trans (hb2.mono hb01.size)
      have hd2 := hd.below hb2
      have ht2 := ht.below hb2
      have ha2 := ha1.below hb2
      have hy2 := hy1.below hb2
      have hg2 := hg1.below hb2
      have hf2 := few_any hd2 hy2
      clear hf1 ha1 hy1 hd ht hg1 hb01 hb1 hb2 hb0
      by_cases hfb : (flatR F ys).length ≤ 1000
      · rw [decide_eq_true hfb] at hf2
        go_wp2_with fail
        refine hf2.mono ?_
        rintro r w3 ⟨rfl, hb3⟩
        have hb03 := hb02.trans (hb3.mono hb02.size)
        have hd3 := hd2.below hb3
        have ht3 := ht2.below hb3
        have ha3 := ha2.below hb3
        have hy3 := hy2.below hb3
        have hg3 := hg2.below hb3
        obtain ⟨X, hX⟩ := formed_exists hL zs
        have hXl := few_len hd3 hfa hX
        clear hf2 ha2 hy2 hd2 ht2 hg2 hb02 hb3
        have hyn := hy3.numb (by have := flat_len hd3 ys; omega)
        go_wp2_with fail
        refine (form_load hL hd3 hyn).mono ?_
        intro r w4 hpost
        obtain ⟨gy, ky, cy, Y, rfl, hownY, hY, hb4⟩ := hpost.formed
        have hYl := few_len hd3 hfb hY
        have hb04 := hb03.trans (hb4.mono hb03.size)
        have hd4 := hd3.below hb4
        have ht4 := ht3.below hb4
        have ha4 := ha3.below hb4
        have hy4 := hy3.below hb4
        have hg4 := hg3.below hb4
        have hkY := hownY.form1
        have hYI := formed_in hL hy3.int hY
        clear ha3 hy3 hd3 ht3 hg3 hb03 hb4 hpost hyn
        have haw := awake_any w4 hg4
        obtain ⟨bb, hbb⟩ : ∃ bb, bb = (match Y with | [] => false | y :: _ => (classAt L y != 0)) := ⟨_, rfl⟩
        have HBB : Hid _ := hbb
        have HKY : Hid (ky = Y.length) := hkY
        clear hbb hkY
        go_upto_region 5 with fail
        go_cut [52] from 42 to 52 (fun v wx => v = .bool bb ∧ wx = w4)
        case first =>
          cases Y with
          | nil =>
            have hb0 : bb = false := HBB.out
            have hlp : ¬ ((0 : Int) < (ky : Int)) := by have := HKY.out; simp at this; omega
            clear HBB HKY
            subst hb0
            go_wp2_with fail
            go_meet
            exact ⟨rfl, rfl⟩
          | cons y Y' =>
            have hb0 : bb = (classAt L y != 0) := HBB.out
            have hy0 : w4.cell? ⟨gy, 0, none⟩ = some (.int .i64 y) := by
              rcases hownY.form with ⟨e, _⟩ | ⟨g', cp, e, _, _, _, hc, _⟩
              · cases e
              · cases e; simpa using hc 0 (by simp)
            have hcl := class_any bd L F y w4 (hYI y (by simp)) hd4
            have hlp : 0 < ky := by have := HKY.out; simp at this; omega
            clear HBB HKY
            subst hb0
            go_wp2_with fail
            refine hcl.mono ?_
            rintro r w5 ⟨rfl, rfl⟩
            go_wp2_with fail
            go_meet
            exact ⟨rfl, rfl⟩
        case rest =>
          obtain ⟨rfl, rfl⟩ := hcut
          cases bb with
          | true =>
            go_wp2_with fail
            refine haw.mono ?_
            rintro r w5 ⟨rfl, hb5⟩
            go_wp2_with fail
            go_ret
            exact ⟨rfl, hb04.trans (hb5.mono hb04.size)⟩
          | false =>
            have hYh : ∀ y, Y.head? = some y → classAt L y = 0 := fun y hy => by
              cases Y with
              | nil => cases hy
              | cons z Y' =>
                obtain rfl : z = y := by simpa using hy
                have := HBB.out
                simpa using this
            clear HBB haw
            obtain ⟨hokE, hndE, hlE⟩ := loadT_ok hT
            go_wp2_with fail
            refine (entries_any T me ml val E wc ht4 hlE hndE).mono ?_
            rintro r w5 ⟨v5, vs5, es, rfl, hE5, _, hperm, hb5⟩
            have hin5 := hE5.inn
            obtain ⟨a5, c5, rfl⟩ := hin5.val
            have hb05 := hb04.trans (hb5.mono hb04.size)
            have hd5 := hd4.below hb5
            have ht5 := ht4.below hb5
            have ha5 := ha4.below hb5
            have hy5 := hy4.below hb5
            have hg5 := hg4.below hb5
            have hesl : es.length ≤ 4096 := by rw [hperm.length_eq]; exact hlE
            have hes8 : ∀ x ∈ es, x.1.length ≤ 8 := fun x hx => (rowB_len (hokE x (hperm.mem_iff.1 hx)).row).2
            have hfnd : ∀ q, fndT E q = true → ∃ x ∈ es, q.length = x.1.length := fun q hq => by
              unfold fndT at hq
              obtain ⟨l, hl⟩ := Option.isSome_iff_exists.1 hq
              exact ⟨(q, l), hperm.mem_iff.2 (findT_some hl), rfl⟩
            clear hE5 hperm ha4 hy4 hd4 ht4 hg4 hb04 hb5 hownY hYI
            go_wp2_with fail
            go_loopw [11, 13] (fun lv iv wr => ∃ (i n : Nat), i ≤ es.length ∧ iv = .int .i64 i ∧ lv = .int .i64 n ∧ n ≤ 8 ∧ Hid (∀ j (h : j < es.length), j < i → es[j].1.length ≤ n) ∧ wr = w5) (fun _ iv _ => es.length - (intOf iv).toNat)
            case atStart => exact ⟨0, 0, by omega, rfl, rfl, by omega, fun j _ h => absurd h (by omega), rfl⟩
            case round =>
              obtain ⟨i, n, hi, rfl, rfl, hn8, HN, rfl⟩ := hrel
              by_cases hlt : i < es.length
              · obtain ⟨pb, po, rfl, pa, pc, ea, ec, d0, d1, hpi, hei⟩ := hin5.at hlt
                have h8 := hes8 _ (List.getElem_mem hlt)
                have HN2 : Hid (∀ j (h : j < es.length), j < i + 1 → es[j].1.length ≤ max n es[i].1.length) := fun j h hj => by
                  rcases Nat.lt_or_ge j i with h1 | h1
                  · have := HN.out j h h1; omega
                  · obtain rfl : j = i := by omega
                    omega
                generalize hpl : es[i].1.length = pl at d0 h8 HN2
                have hmx : max (n : Int) (pl : Int) = ((max n pl : Nat) : Int) := by omega
                clear HN d1 hpi hei hpl
                go_wp2_with fail
                go_roundw
                case rel => exact ⟨i + 1, max n pl, by omega, by simp, by first | rfl | simp, by omega, HN2, trivial⟩
                case measure => simp only [intOf]; omega
              · have hmax : ∀ q, fndT E q = true → q.length ≤ n := fun q hq => by
                  obtain ⟨x, hx, e⟩ := hfnd q hq
                  obtain ⟨j, hj, rfl⟩ := List.mem_iff_getElem.1 hx
                  rw [e]
                  exact HN.out j hj (by omega)
                clear HN hin5
                have hzl : zs.length ≤ 1000 := hXl.1
                have hyl : ys.length ≤ 1000 := hYl.1
                have HO0 : Aside (IOwn wr wr.heap.size (.slice none 0 0) []) := IOwn.nil _ _
                have HIA : Aside (Ints wr.heap.size wr (.slice a k c) zs) := ha5.ints
                go_upto_region 15 with (first | (at_builtin; refine wpList_append_any rfl _ _ rfl wr.heap.size _ [] rfl HO0.out zs _ _ rfl HIA.out (by simp; omega) (Nat.le_refl _) ?_; intro a6 c6 w6 hown6 hb6 _ _))
                have hsz6 : wr.heap.size ≤ w6.heap.size := hb6.size
                have HO6 : Aside (IOwn w6 wr.heap.size (.slice a6 zs.length c6) zs) := by show IOwn _ _ _ _; simpa using hown6
                have HIB : Aside (Ints wr.heap.size w6 (.slice b k2 c2) ys) := hy5.ints.below hb6 (Nat.le_refl _)
                clear hown6
                go_upto_region 16 with (first | (at_builtin; refine wpList_append_any rfl _ _ rfl wr.heap.size _ zs rfl HO6.out ys _ _ rfl HIB.out (by omega) hsz6 ?_; intro a7 c7 w7 hown7 hb7 _ _))
                have hb57 : Below wr.heap.size wr w7 := hb6.trans hb7
                have hown7' : IOwn w7 wr.heap.size (.slice a7 (zs.length + ys.length) c7) (zs ++ ys) := hown7
                have hnum7 := hown7'.numb (by
                  intro q hq
                  rcases List.mem_append.1 hq with h | h
                  · exact ha5.int q h
                  · exact hy5.int q h) (by simp; omega)
                clear HO0 HIA HO6 HIB hown7 hown7' hb6 hb7 hsz6
                have hd7 := hd5.below hb57
                have ht7 := ht5.below hb57
                have ha7 := ha5.below hb57
                have hg7 := hg5.below hb57
                have hb07 := hb05.trans (hb57.mono hb05.size)
                obtain ⟨B, hB⟩ := formed_exists hL (zs ++ ys)
                have hBXY : B = X ++ Y := hX.parted hL hY hB (by
                  cases Y with
                  | nil => exact .inr (.inl rfl)
                  | cons y Y' => exact .inr (.inr (.inr (by simpa using hYh y rfl))))
                have htl := tails (cls := classAt L) (fnd := fndT E) Y hYh n hmax X
                rw [← hBXY] at htl
                have hBl : B.length ≤ 2000 := by rw [hBXY, List.length_append]; have := hXl.2; have := hYl.2; omega
                clear hd5 ht5 ha5 hg5 hy5 hb05 hb57 hBXY hmax hfnd hes8
                go_wp2_with fail
                refine (steps_any hL hd7 ht7 (ha7.numb (by omega)) hX.form (by omega)).mono ?_
                rintro r w8 ⟨v8, rfl, hr8, hb8⟩
                have hb08 := hb07.trans (hb8.mono hb07.size)
                have hd8 := hd7.below hb8
                have ht8 := ht7.below hb8
                have hn8' := hnum7.below hb8
                have hg8 := hg7.below hb8
                clear hd7 ht7 hg7 hnum7 ha7 hb07
                go_wp2_with fail
                refine (steps_any hL hd8 ht8 hn8' hB.form (by simp; omega)).mono ?_
                rintro r w9 ⟨v9, rfl, hr9, hb9⟩
                have hb09 := hb08.trans (hb9.mono hb08.size)
                have hg9 := hg8.below hb9
                have R8 := hr8.rin.go hb9
                have R9 := hr9.rin
                have hl8 := stepsD_length (cls := classAt L) (fnd := fndT E) X
                have hs8 := stepsD_short (cls := classAt L) (fnd := fndT E) X
                have hX1 := hXl.2
                generalize stepsD (classAt L) (fndT E) X = rs at htl R8 hl8 hs8
                have hl9 := stepsD_length (cls := classAt L) (fnd := fndT E) B
                generalize stepsD (classAt L) (fndT E) B = ss at htl R9 hl9
                obtain ⟨a8, c8, rfl, hR8⟩ := R8
                obtain ⟨a9, c9, rfl, hR9⟩ := R9
                have hss : ss.length ≤ 2000 := by omega
                clear hr8 hr9 hd8 ht8 hn8' hb08 hg8 hb8 hb9
                go_wp2_with fail
                go_loopw [17] (fun iv wr => ∃ i : Nat, iv = .int .i64 i ∧ i ≤ rs.length ∧ Below w9.heap.size w9 wr) (fun iv _ => rs.length - (intOf iv).toNat)
                case atStart => exact ⟨0, rfl, by omega, Below.refl _ _⟩
                case round =>
                  obtain ⟨i, rfl, hi, hbr⟩ := hrel
                  by_cases hlt : i + n < rs.length
                  · have h1 := htl i hlt
                    have hi1 : i < rs.length := by omega
                    rw [List.getElem?_eq_getElem hi1] at h1
                    obtain ⟨hi2, hEq⟩ := List.getElem?_eq_some_iff.1 h1
                    obtain ⟨b8, o8, x8, y8, rfl, p1, p2⟩ := hR8 i hi1
                    obtain ⟨b9, o9, x9, y9, rfl, q1, q2⟩ := hR9 i hi2
                    rw [hEq] at q1 q2
                    have d1 := (hbr.cell (p := ⟨b8, o8 + i, none⟩) (World.block_lt_of_cell? w9 _ p1)).trans p1
                    have d2 := (hbr.cell (p := ⟨b9, o9 + i, none⟩) (World.block_lt_of_cell? w9 _ q1)).trans q1
                    have hsr := hs8 _ (List.getElem_mem hi1)
                    generalize rs[i] = r at d1 d2 p2 q2 hsr
                    have hsa : ∀ n, Calls Tryz.prog 17 #[.slice x8 r.length y8, .slice x9 r.length y9] (wr.drewN n) fun e w' => e = .returned (.bool true) ∧ ∃ m, w' = (wr.drewN n).drewN m := fun n => by
                      have hbd := hbr.trans ((below_drewQ wr n).mono hbr.size)
                      have := sameInts_q _ _ r r _ _ (wr.drewN n) (p2.below hbd (Nat.le_refl _)) (q2.below hbd (Nat.le_refl _)) (by omega) (by omega)
                      rw [show decide (r = r) = true by simp] at this
                      exact this
                    have hltz : (i : Int) + (n : Int) < (rs.length : Int) := by omega
                    have hge : decide ((ss.length : Int) ≤ (i : Int)) = false := by simp; omega
                    have hge2 : ¬ ((ss.length : Int) ≤ (i : Int)) := by omega
                    clear h1 p1 p2 q1 q2 hEq
                    go_upto_region 21 with fail
                    go_cut [107] from 84 to 107 (fun v wx => v = .bool false ∧ Aside (Below wr.heap.size wr wx))
                    case first =>
                      go_quiet (first | (go_at_call 17; refine Calls.quiet_of (hsa _)))
                      go_wp2_with fail
                      go_meet
                      exact ⟨by simp, below_drewQ wr _⟩
                    case rest =>
                      obtain ⟨rfl, HW⟩ := hcut
                      have hbc := hbr.trans (HW.out.mono hbr.size)
                      clear hsa d1 d2
                      go_wp2_with fail
                      go_roundw
                      case rel => exact ⟨i + 1, by simp, by omega, hbc⟩
                      case measure => simp only [intOf]; omega
                  · have hltz : ¬ ((i : Int) + (n : Int) < (rs.length : Int)) := by omega
                    have hbf := hb09.trans (hbr.mono hb09.size)
                    go_wp2_with fail
                    refine (awake_any wr (hg9.below hbr)).mono ?_
                    rintro r w10 ⟨rfl, hb10⟩
                    go_wp2_with fail
                    go_ret
                    exact ⟨rfl, hbf.trans (hb10.mono hbf.size)⟩
      · rw [decide_eq_false hfb] at hf2
        go_wp2_with fail
        refine hf2.mono ?_
        rintro r w3 ⟨rfl, hb3⟩
        have hb03 := hb02.trans (hb3.mono hb02.size)
        go_wp2_with fail
        refine (awake_any w3 (hg2.below hb3)).mono ?_
        rintro r w4 ⟨rfl, hb4⟩
        go_wp2_with fail
        go_ret
        exact ⟨rfl, hb03.trans (hb4.mono hb03.size)⟩
    · rw [decide_eq_false hfa] at hf1
      go_wp2_with fail
      refine hf1.mono ?_
      rintro r w2 ⟨rfl, hb2⟩
      have hb02 := hb01.trans (hb2.mono hb01.size)
      go_wp2_with fail
      refine (awake_any w2 (hg1.below hb2)).mono ?_
      rintro r w3 ⟨rfl, hb3⟩
      go_wp2_with fail
      go_ret
      exact ⟨rfl, hb02.trans (hb3.mono hb02.size)⟩
  · go_wp2_with fail
    refine (awake_any w1 hg1).mono ?_
    rintro r w2 ⟨rfl, hb2⟩
    go_wp2_with fail
    go_ret
    exact ⟨rfl, hb01.trans (hb2.mono hb01.size)⟩
end Go.Proofs.YtkcnjnccdafbfaaGreatDoor
