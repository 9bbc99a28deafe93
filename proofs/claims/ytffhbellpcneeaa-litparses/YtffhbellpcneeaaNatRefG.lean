/- What the document's answer for Print does (a contract; nothing is claimed here). -/
import Derived.Test.YtffhbellpcneeaaJ13
namespace Go.Proofs.Ytffhbellpcneeaa
open Go.RowKit Go.Vf

set_option maxHeartbeats 8000000 in
set_option maxRecDepth 20000 in
theorem rprint_true (m : ByteArray) (hm : m.size ≤ 255) (M : Nat) (HV : Hid (hvl m.data.toList = M)) (hpos : M ≠ 0) (hhead : m.data.toList.head? ≠ some 0) (hdb : (decD M).length ≤ 765) (h0 : 0 < m.size) (HC : Hid (chk true m.data.toList = 0)) (w : World) :
    Calls Try.prog 45 #[numV true m] w fun e w' => e = .returned (.tuple #[.string (bs ([45] ++ (decD M).reverse)), .int .i64 0]) ∧ Below w.heap.size w w' := by
  have hl : m.data.toList.length = m.size := (Lib.size_eq m).symm
  have hm0 : ((m.size : Int) == 0) = false := by simp only [beq_eq_false_iff_ne, ne_eq]; omega
  go_enter Try.func45, Try.ntmps45
  go_wp2_with fail
  refine (rcheck_any true m (by omega) _).mono ?_
  rintro e w1 ⟨rfl, hb1⟩
  obtain ⟨hc0, hc1, hc2⟩ := box_num hb1 (h := w.heap.size) (v0 := .bool true) (v1 := .string m) ⟨by simp, by simp, by simp⟩
  rw [HC.out]
  clear HC
  obtain ⟨cap0, wc, hcv, hcap, hrow0, hbel0, hsz0⟩ := run_bytes_ex (P := Try.prog) w1 9 61 5 m Try.underlying9 Try.underlying61 Try.underlying5
  go_wp2
  clear hcv
  go_loopw [5, 6] (fun x v wr => ∃ (off n cap : Nat) (pre l acc : List UInt8), x = .slice (some ⟨w1.heap.size, off, none⟩) n cap ∧ l.length = n ∧ n ≤ cap ∧ off + n ≤ 255 ∧ (0 < n → pre.length = off ∧ BRow wr w1.heap.size (pre ++ l)) ∧ Hid (l.head? ≠ some 0) ∧ BOwn 5 wr (w1.heap.size + 1) v acc ∧ Hid (acc ++ decD (hvl l) = decD M) ∧ Below w1.heap.size w1 wr ∧ w1.heap.size + 1 ≤ wr.heap.size) (fun _ v _ => (decD M).length - sliceN v)
  case atStart => exact ⟨0, m.size, cap0, [], m.data.toList, [], rfl, hl, hcap, by omega, fun _ => ⟨rfl, hrow0⟩, hhead, BOwn.nil _ _ _, by show _ = _; rw [HV.out]; rfl, hbel0, by omega⟩
  case round =>
    obtain ⟨off, n, cap, pre, l, acc, rfl, hln, hncap, hoff, hrow, Hhd, hown, HT, hbel, hsz⟩ := hrel
    have c0 := (hbel.cell (p := ⟨w.heap.size, 0, none⟩) hc2).trans hc0
    have hacl : acc.length ≤ (decD M).length := by rw [← HT.out, List.length_append]; omega
    by_cases hn : ¬ 0 < n
    · obtain rfl : l = [] := List.eq_nil_of_length_eq_zero (by omega)
      have ht : acc = decD M := by have := HT.out; rwa [show hvl [] = 0 from rfl, decD_zero, List.append_nil] at this
      clear HT hrow Hhd
      subst ht
      rcases hown.form with ⟨_, h0⟩ | ⟨gb, capb, rfl, hgb1, hcb1, hcb2, hrb⟩
      · exact absurd (decD_nil.1 h0) hpos
      have hgb : gb < wr.heap.size := (World.ownsRow.lt hown gb rfl).2
      obtain ⟨V, rfl⟩ : ∃ V, V = wr := ⟨_, rfl⟩
      go_wp2_with (at_builtin; refine wpList_append_byte rfl (.tmp 68) (.tmp 69) 61 rfl 5 Try.underlying61 info5 V.heap.size _ _ rfl (BOwn.nil 5 V V.heap.size) 45 _ rfl 1 rfl (by simp) (Nat.le_refl _) V.heap.size V (Below.refl _ _) (Nat.le_refl _) ?_; intro vA wA hoA hbA hsA)
      go_loopw [10, 11] (fun v i wr' => ∃ k : Nat, k ≤ (decD M).length ∧ i = .int .i64 (((decD M).length : Int) - 1 - (k : Int)) ∧ BOwn 5 wr' V.heap.size v ([45] ++ (decD M).reverse.take k) ∧ Below V.heap.size V wr' ∧ V.heap.size ≤ wr'.heap.size) (fun _ i _ => (intOf i + 1).toNat)
      case atStart => exact ⟨0, Nat.zero_le _, by go_num, by simpa using hoA, hbA, hsA⟩
      case round =>
        obtain ⟨k, hk, rfl, hown2, hbel2, hsz2⟩ := hrel
        by_cases hlt : k < (decD M).length
        · obtain ⟨j, hj⟩ : ∃ j, j + k + 1 = (decD M).length := ⟨(decD M).length - 1 - k, by omega⟩
          have ej : (((decD M).length : Int) - 1 - (k : Int)) = (j : Int) := by omega
          obtain ⟨y, hy⟩ : ∃ y, (decD M)[j]'(by omega) = y := ⟨_, rfl⟩
          have hcell := (brow_below hrb hbel2 hgb).cell j (by omega)
          rw [hy] at hcell
          have HRV : Hid ([45] ++ (decD M).reverse.take (k + 1) = ([45] ++ (decD M).reverse.take k) ++ [y]) := by
            show _ = _
            rw [rev_take (decD M) j k hj, hy, List.append_assoc]
          have hlen2 : ([45] ++ (decD M).reverse.take k).length ≤ 1099511627776 := by
            rw [List.length_append, List.length_take, List.length_reverse]; simp; omega
          have hjl : j < (decD M).length := by omega
          rw [ej]
          clear ej
          go_wp2_with (at_builtin; refine wpList_append_byte rfl (.tmp 78) (.tmp 83) 61 rfl 5 Try.underlying61 info5 V.heap.size _ _ rfl hown2 y _ rfl 1 rfl hlen2 hsz2 V.heap.size V hbel2 (Nat.le_refl _) ?_; intro v' w3 hown3 hbel3 hsz3)
          go_roundw
          case rel => exact ⟨k + 1, by omega, by go_num, by rw [HRV.out]; exact hown3, hbel3, hsz3⟩
          case measure => simp only [intOf]; omega
        · obtain rfl : k = (decD M).length := by omega
          rw [List.take_of_length_le (by rw [List.length_reverse]; exact Nat.le_refl _)] at hown2
          have ei : (((decD M).length : Int) - 1 - ((decD M).length : Int)) = -1 := by omega
          rw [ei]
          have hcv := run_string_own (P := Try.prog) wr 61 9 5 Try.underlying61 Try.underlying5 Try.underlying9 _ _ _ hown2
          go_wp2
          go_ret2
          exact ⟨rfl, below_next (below_box hb1) (hbel.trans (hbel2.mono (by omega)))⟩
    · obtain ⟨hpo, hrow⟩ := hrow (by omega)
      have hlpos : hvl l ≠ 0 := hvl_pos Hhd.out (fun h => by rw [h] at hln; simp at hln; omega)
      obtain ⟨hv1, hv2⟩ := divL_val (show 0 < 10 by decide) l 0 (by decide)
      have hqn := divL_length 10 l 0
      obtain ⟨⟨q, C⟩, hqC⟩ : ∃ z, divL 10 0 l = z := ⟨_, rfl⟩
      rw [hqC] at hv1 hv2 hqn
      simp only at hv1 hv2 hqn
      rw [Nat.zero_mul, Nat.zero_add] at hv1
      have HT1 : Hid ((acc ++ [UInt8.ofNat (48 + C)]) ++ decD (hvl q) = decD M) := by
        show _ = _
        rw [← HT.out, decD_pos hlpos, show hvl l % 10 = C by omega, show hvl l / 10 = hvl q by omega]
        simp
      have hacl1 : acc.length < (decD M).length := by
        have := congrArg List.length HT1.out
        rw [List.length_append, List.length_append, List.length_singleton] at this
        omega
      have hsN : sliceN u6 = acc.length := by
        rcases hown.form with ⟨rfl, h0⟩ | ⟨gb, capb, rfl, _⟩
        · rw [h0]; rfl
        · rfl
      clear HT hv1
      obtain ⟨V, rfl⟩ : ∃ V, V = wr := ⟨_, rfl⟩
      go_wp2
      go_loopw [7, 8] (fun x i wr' => ∃ k c : Nat, k ≤ n ∧ i = .int .i64 k ∧ x = .int .i64 c ∧ c < 10 ∧ Hid (divL 10 c (l.drop k) = (q.drop k, C)) ∧ BRow wr' w1.heap.size (pre ++ (q.take k ++ l.drop k)) ∧ OnlyAt w1.heap.size V wr') (fun _ i _ => n - (intOf i).toNat)
      case atStart => exact ⟨0, 0, Nat.zero_le _, rfl, rfl, by omega, by simpa [Hid] using hqC, by simpa using hrow, OnlyAt.refl _ _⟩
      case round =>
        obtain ⟨k, c, hk, rfl, rfl, hc, HQ, hrow, honly⟩ := hrel
        by_cases hlt : k < n
        · obtain ⟨x, hx, hkl⟩ : ∃ x, l[k]'(by omega) = x ∧ l.drop k = x :: l.drop (k + 1) := ⟨_, rfl, List.drop_eq_getElem_cons (by omega)⟩
          have hx255 := x.toNat_lt
          have hq := HQ.out
          rw [hkl, divL, show c * 256 + x.toNat = 256 * c + x.toNat by omega, Prod.mk.injEq, List.drop_eq_getElem_cons (show k < q.length by omega), List.cons.injEq] at hq
          obtain ⟨⟨hq1, hq2⟩, hq3⟩ := hq
          have HQ2 : Hid (divL 10 ((256 * c + x.toNat) % 10) (l.drop (k + 1)) = (q.drop (k + 1), C)) := Prod.ext hq2 hq3
          have hmix := mix_length (a := q) (l := l) hqn k (by omega)
          have hg := mix_get hqn k (by omega) (by omega)
          rw [hx] at hg
          have hcell := hrow.cell (off + k) (by rw [List.length_append]; omega)
          rw [List.getElem_append_right (by omega)] at hcell
          simp only [hpo, Nat.add_sub_cancel_left] at hcell
          rw [hg] at hcell
          have hfr := hrow.free (off + k) (by rw [List.length_append]; omega)
          have hst := hrow.set (off + k) (q[k]'(by omega))
          rw [List.set_append_right _ _ (by omega), hpo, Nat.add_sub_cancel_left, mix_set hqn k (by omega), ← hq1, UInt8.toNat_ofNat_of_lt' (show (256 * c + x.toNat) / 10 < 256 by omega)] at hst
          have hon := honly.setCell (off + k) (.int .u8 (((256 * c + x.toNat) / 10 : Nat) : Int))
          clear hrow hmix hg hq1 hq2 hq3 hkl HQ hqC
          go_wp2
          go_roundw
          case rel => exact ⟨k + 1, (256 * c + x.toNat) % 10, by omega, by go_num, by go_num, by omega, HQ2, hst, hon⟩
          case measure => simp [intOf]; omega
        · have hq := HQ.out
          rw [List.drop_of_length_le (by omega), divL] at hq
          have hcC : c = C := (Prod.mk.injEq .. ▸ hq).2
          rw [← hcC] at HT1 hv2
          rw [List.take_of_length_le (by omega), List.drop_of_length_le (by omega), List.append_nil] at hrow
          have hown1 := honly.own hown (Nat.lt_succ_self _)
          have hbel1 := hbel.trans honly.below
          have hsz1 : w1.heap.size + 1 ≤ wr.heap.size := by have := honly.size; omega
          have HX : Hid ((48 + (c : Int)) = ((UInt8.ofNat (48 + c)).toNat : Int)) := by show _ = _; rw [ofNat_int (show 48 + c < 256 by omega)]; omega
          have hlen : acc.length ≤ 1099511627776 := by omega
          have hbr := Below.refl (w1.heap.size + 1) wr
          obtain ⟨U, rfl⟩ : ∃ U, U = wr := ⟨_, rfl⟩
          clear HQ hq hqC hcC honly hown hbel hsz
          go_wp2_with (at_builtin; refine wpList_append_byte rfl (.tmp 49) (.tmp 53) 61 rfl 5 Try.underlying61 info5 (w1.heap.size + 1) _ _ rfl hown1 (UInt8.ofNat (48 + c)) _ HX.out 1 rfl hlen hsz1 (w1.heap.size + 1) U hbr (Nat.le_refl _) ?_; intro v3 w3 hown3 hbel3 hsz3)
          have hrow3 := brow_below hrow hbel3 (Nat.lt_succ_self _)
          have hbel4 := hbel1.trans (hbel3.mono (Nat.le_succ _))
          have hsN3 : sliceN v3 = acc.length + 1 := by
            have e1 : (acc ++ [UInt8.ofNat (48 + c)]).length = acc.length + 1 := by rw [List.length_append, List.length_singleton]
            rw [← e1]
            rcases hown3.form with ⟨rfl, h0⟩ | ⟨gb, capb, rfl, _⟩
            · rw [h0]; rfl
            · rfl
          clear hbel3 hbr
          go_loopw [5] (fun x wr'' => ∃ (off n cap : Nat) (pre l : List UInt8), x = .slice (some ⟨w1.heap.size, off, none⟩) n cap ∧ l.length = n ∧ n ≤ cap ∧ off + n ≤ 255 ∧ (0 < n → pre.length = off ∧ BRow w3 w1.heap.size (pre ++ l)) ∧ Hid (stripL l = stripL q) ∧ w3 = wr'') (fun x _ => sliceN x)
          case atStart => exact ⟨off, n, cap, pre, q, rfl, by omega, hncap, hoff, fun _ => ⟨hpo, hrow3⟩, rfl, rfl⟩
          case round =>
            obtain ⟨off2, n2, cap2, pre2, l2, rfl, hl2, hnc2, hoff2, hrw2, HS2, rfl⟩ := hrel
            by_cases hn2 : ¬ 0 < n2
            · obtain rfl : l2 = [] := List.eq_nil_of_length_eq_zero (by omega)
              have HT3 : Hid ((acc ++ [UInt8.ofNat (48 + c)]) ++ decD (hvl []) = decD M) := by
                show _ = _
                rw [← HT1.out, ← stripL_val q, ← HS2.out]
                rfl
              clear HS2 hrw2
              go_wp2
              go_roundw
              case rel => exact ⟨off2, n2, cap2, [], [], _, rfl, hl2, by omega, by omega, fun h => absurd h hn2, by simp [Hid], hown3, HT3, hbel4, hsz3⟩
              case measure => rw [hsN3, hsN]; omega
            · obtain ⟨hp2, hrow4⟩ := hrw2 (by omega)
              obtain ⟨y, t, rfl⟩ : ∃ x t, l2 = x :: t := by
                cases l2 with
                | nil => exfalso; simp at hl2; omega
                | cons x t => exact ⟨x, t, rfl⟩
              have hcc := hrow4.cell off2 (by rw [List.length_append]; simp only [List.length_cons]; omega)
              rw [List.getElem_append_right (by omega)] at hcc
              simp only [hp2, Nat.sub_self, List.getElem_cons_zero] at hcc
              by_cases hy : y.toNat = 0
              · have hy0 : y = 0 := UInt8.toNat_inj.1 hy
                have htl := run_tail w3 w1.heap.size off2 n2 cap2 (by omega)
                have HS3 : Hid (stripL t = stripL q) := by
                  show _ = _
                  rw [← HS2.out, hy0, stripL_zero]
                have hrow5 : BRow w3 w1.heap.size ((pre2 ++ [y]) ++ t) := by rw [List.append_assoc]; exact hrow4
                have hl3 : t.length = n2 - 1 := by simp only [List.length_cons] at hl2; omega
                clear HS2 hrow4 hy0
                by_cases hc1 : cap2 = 1
                · subst hc1
                  obtain rfl : n2 = 1 := by omega
                  clear htl
                  go_wp2
                  go_roundw
                  case rel => exact ⟨off2, 0, 0, [], t, rfl, hl3, by omega, by omega, fun h => absurd h (by decide), HS3, trivial⟩
                  case measure => simp only [sliceN]; omega
                · rw [if_neg hc1] at htl
                  go_wp2
                  go_roundw
                  case rel => exact ⟨off2 + 1, n2 - 1, cap2 - 1, pre2 ++ [y], t, rfl, hl3, by omega, by omega, fun h => ⟨by rw [List.length_append, List.length_singleton, hp2], hrow5⟩, HS3, trivial⟩
                  case measure => simp only [sliceN]; omega
              · have hy0 : y ≠ 0 := fun h => hy (by rw [h]; rfl)
                have hs2 : stripL (y :: t) = y :: t := stripL_self (by simp [hy0])
                have HT3 : Hid ((acc ++ [UInt8.ofNat (48 + c)]) ++ decD (hvl (y :: t)) = decD M) := by
                  show _ = _
                  rw [← HT1.out, ← stripL_val q, ← HS2.out, hs2]
                clear HS2 hs2
                go_wp2
                go_roundw
                case rel => exact ⟨off2, n2, cap2, pre2, y :: t, _, rfl, hl2, hnc2, hoff2, fun _ => ⟨hp2, hrow4⟩, by simp [Hid, hy0], hown3, HT3, hbel4, hsz3⟩
                case measure => rw [hsN3, hsN]; omega

set_option maxHeartbeats 8000000 in
set_option maxRecDepth 20000 in
theorem rprint_false (m : ByteArray) (hm : m.size ≤ 255) (M : Nat) (HV : Hid (hvl m.data.toList = M)) (hpos : M ≠ 0) (hhead : m.data.toList.head? ≠ some 0) (hdb : (decD M).length ≤ 765) (h0 : 0 < m.size) (HC : Hid (chk false m.data.toList = 0)) (w : World) :
    Calls Try.prog 45 #[numV false m] w fun e w' => e = .returned (.tuple #[.string (bs ((decD M).reverse)), .int .i64 0]) ∧ Below w.heap.size w w' := by
  have hl : m.data.toList.length = m.size := (Lib.size_eq m).symm
  have hm0 : ((m.size : Int) == 0) = false := by simp only [beq_eq_false_iff_ne, ne_eq]; omega
  go_enter Try.func45, Try.ntmps45
  go_wp2_with fail
  refine (rcheck_any false m (by omega) _).mono ?_
  rintro e w1 ⟨rfl, hb1⟩
  obtain ⟨hc0, hc1, hc2⟩ := box_num hb1 (h := w.heap.size) (v0 := .bool false) (v1 := .string m) ⟨by simp, by simp, by simp⟩
  rw [HC.out]
  clear HC
  obtain ⟨cap0, wc, hcv, hcap, hrow0, hbel0, hsz0⟩ := run_bytes_ex (P := Try.prog) w1 9 61 5 m Try.underlying9 Try.underlying61 Try.underlying5
  go_wp2
  clear hcv
  go_loopw [5, 6] (fun x v wr => ∃ (off n cap : Nat) (pre l acc : List UInt8), x = .slice (some ⟨w1.heap.size, off, none⟩) n cap ∧ l.length = n ∧ n ≤ cap ∧ off + n ≤ 255 ∧ (0 < n → pre.length = off ∧ BRow wr w1.heap.size (pre ++ l)) ∧ Hid (l.head? ≠ some 0) ∧ BOwn 5 wr (w1.heap.size + 1) v acc ∧ Hid (acc ++ decD (hvl l) = decD M) ∧ Below w1.heap.size w1 wr ∧ w1.heap.size + 1 ≤ wr.heap.size) (fun _ v _ => (decD M).length - sliceN v)
  case atStart => exact ⟨0, m.size, cap0, [], m.data.toList, [], rfl, hl, hcap, by omega, fun _ => ⟨rfl, hrow0⟩, hhead, BOwn.nil _ _ _, by show _ = _; rw [HV.out]; rfl, hbel0, by omega⟩
  case round =>
    obtain ⟨off, n, cap, pre, l, acc, rfl, hln, hncap, hoff, hrow, Hhd, hown, HT, hbel, hsz⟩ := hrel
    have c0 := (hbel.cell (p := ⟨w.heap.size, 0, none⟩) hc2).trans hc0
    have hacl : acc.length ≤ (decD M).length := by rw [← HT.out, List.length_append]; omega
    by_cases hn : ¬ 0 < n
    · obtain rfl : l = [] := List.eq_nil_of_length_eq_zero (by omega)
      have ht : acc = decD M := by have := HT.out; rwa [show hvl [] = 0 from rfl, decD_zero, List.append_nil] at this
      clear HT hrow Hhd
      subst ht
      rcases hown.form with ⟨_, h0⟩ | ⟨gb, capb, rfl, hgb1, hcb1, hcb2, hrb⟩
      · exact absurd (decD_nil.1 h0) hpos
      have hgb : gb < wr.heap.size := (World.ownsRow.lt hown gb rfl).2
      obtain ⟨V, rfl⟩ : ∃ V, V = wr := ⟨_, rfl⟩
      go_wp2
      go_loopw [10, 11] (fun v i wr' => ∃ k : Nat, k ≤ (decD M).length ∧ i = .int .i64 (((decD M).length : Int) - 1 - (k : Int)) ∧ BOwn 5 wr' V.heap.size v ((decD M).reverse.take k) ∧ Below V.heap.size V wr' ∧ V.heap.size ≤ wr'.heap.size) (fun _ i _ => (intOf i + 1).toNat)
      case atStart => exact ⟨0, Nat.zero_le _, by go_num, BOwn.nil _ _ _, Below.refl _ _, Nat.le_refl _⟩
      case round =>
        obtain ⟨k, hk, rfl, hown2, hbel2, hsz2⟩ := hrel
        by_cases hlt : k < (decD M).length
        · obtain ⟨j, hj⟩ : ∃ j, j + k + 1 = (decD M).length := ⟨(decD M).length - 1 - k, by omega⟩
          have ej : (((decD M).length : Int) - 1 - (k : Int)) = (j : Int) := by omega
          obtain ⟨y, hy⟩ : ∃ y, (decD M)[j]'(by omega) = y := ⟨_, rfl⟩
          have hcell := (brow_below hrb hbel2 hgb).cell j (by omega)
          rw [hy] at hcell
          have HRV : Hid ((decD M).reverse.take (k + 1) = ((decD M).reverse.take k) ++ [y]) := by
            show _ = _
            rw [rev_take (decD M) j k hj, hy]
          have hlen2 : ((decD M).reverse.take k).length ≤ 1099511627776 := by
            rw [List.length_take, List.length_reverse]; omega
          have hjl : j < (decD M).length := by omega
          rw [ej]
          clear ej
          go_wp2_with (at_builtin; refine wpList_append_byte rfl (.tmp 78) (.tmp 83) 61 rfl 5 Try.underlying61 info5 V.heap.size _ _ rfl hown2 y _ rfl 1 rfl hlen2 hsz2 V.heap.size V hbel2 (Nat.le_refl _) ?_; intro v' w3 hown3 hbel3 hsz3)
          go_roundw
          case rel => exact ⟨k + 1, by omega, by go_num, by rw [HRV.out]; exact hown3, hbel3, hsz3⟩
          case measure => simp only [intOf]; omega
        · obtain rfl : k = (decD M).length := by omega
          rw [List.take_of_length_le (by rw [List.length_reverse]; exact Nat.le_refl _)] at hown2
          have ei : (((decD M).length : Int) - 1 - ((decD M).length : Int)) = -1 := by omega
          rw [ei]
          have hcv := run_string_own (P := Try.prog) wr 61 9 5 Try.underlying61 Try.underlying5 Try.underlying9 _ _ _ hown2
          go_wp2
          go_ret2
          exact ⟨rfl, below_next (below_box hb1) (hbel.trans (hbel2.mono (by omega)))⟩
    · obtain ⟨hpo, hrow⟩ := hrow (by omega)
      have hlpos : hvl l ≠ 0 := hvl_pos Hhd.out (fun h => by rw [h] at hln; simp at hln; omega)
      obtain ⟨hv1, hv2⟩ := divL_val (show 0 < 10 by decide) l 0 (by decide)
      have hqn := divL_length 10 l 0
      obtain ⟨⟨q, C⟩, hqC⟩ : ∃ z, divL 10 0 l = z := ⟨_, rfl⟩
      rw [hqC] at hv1 hv2 hqn
      simp only at hv1 hv2 hqn
      rw [Nat.zero_mul, Nat.zero_add] at hv1
      have HT1 : Hid ((acc ++ [UInt8.ofNat (48 + C)]) ++ decD (hvl q) = decD M) := by
        show _ = _
        rw [← HT.out, decD_pos hlpos, show hvl l % 10 = C by omega, show hvl l / 10 = hvl q by omega]
        simp
      have hacl1 : acc.length < (decD M).length := by
        have := congrArg List.length HT1.out
        rw [List.length_append, List.length_append, List.length_singleton] at this
        omega
      have hsN : sliceN u6 = acc.length := by
        rcases hown.form with ⟨rfl, h0⟩ | ⟨gb, capb, rfl, _⟩
        · rw [h0]; rfl
        · rfl
      clear HT hv1
      obtain ⟨V, rfl⟩ : ∃ V, V = wr := ⟨_, rfl⟩
      go_wp2
      go_loopw [7, 8] (fun x i wr' => ∃ k c : Nat, k ≤ n ∧ i = .int .i64 k ∧ x = .int .i64 c ∧ c < 10 ∧ Hid (divL 10 c (l.drop k) = (q.drop k, C)) ∧ BRow wr' w1.heap.size (pre ++ (q.take k ++ l.drop k)) ∧ OnlyAt w1.heap.size V wr') (fun _ i _ => n - (intOf i).toNat)
      case atStart => exact ⟨0, 0, Nat.zero_le _, rfl, rfl, by omega, by simpa [Hid] using hqC, by simpa using hrow, OnlyAt.refl _ _⟩
      case round =>
        obtain ⟨k, c, hk, rfl, rfl, hc, HQ, hrow, honly⟩ := hrel
        by_cases hlt : k < n
        · obtain ⟨x, hx, hkl⟩ : ∃ x, l[k]'(by omega) = x ∧ l.drop k = x :: l.drop (k + 1) := ⟨_, rfl, List.drop_eq_getElem_cons (by omega)⟩
          have hx255 := x.toNat_lt
          have hq := HQ.out
          rw [hkl, divL, show c * 256 + x.toNat = 256 * c + x.toNat by omega, Prod.mk.injEq, List.drop_eq_getElem_cons (show k < q.length by omega), List.cons.injEq] at hq
          obtain ⟨⟨hq1, hq2⟩, hq3⟩ := hq
          have HQ2 : Hid (divL 10 ((256 * c + x.toNat) % 10) (l.drop (k + 1)) = (q.drop (k + 1), C)) := Prod.ext hq2 hq3
          have hmix := mix_length (a := q) (l := l) hqn k (by omega)
          have hg := mix_get hqn k (by omega) (by omega)
          rw [hx] at hg
          have hcell := hrow.cell (off + k) (by rw [List.length_append]; omega)
          rw [List.getElem_append_right (by omega)] at hcell
          simp only [hpo, Nat.add_sub_cancel_left] at hcell
          rw [hg] at hcell
          have hfr := hrow.free (off + k) (by rw [List.length_append]; omega)
          have hst := hrow.set (off + k) (q[k]'(by omega))
          rw [List.set_append_right _ _ (by omega), hpo, Nat.add_sub_cancel_left, mix_set hqn k (by omega), ← hq1, UInt8.toNat_ofNat_of_lt' (show (256 * c + x.toNat) / 10 < 256 by omega)] at hst
          have hon := honly.setCell (off + k) (.int .u8 (((256 * c + x.toNat) / 10 : Nat) : Int))
          clear hrow hmix hg hq1 hq2 hq3 hkl HQ hqC
          go_wp2
          go_roundw
          case rel => exact ⟨k + 1, (256 * c + x.toNat) % 10, by omega, by go_num, by go_num, by omega, HQ2, hst, hon⟩
          case measure => simp [intOf]; omega
        · have hq := HQ.out
          rw [List.drop_of_length_le (by omega), divL] at hq
          have hcC : c = C := (Prod.mk.injEq .. ▸ hq).2
          rw [← hcC] at HT1 hv2
          rw [List.take_of_length_le (by omega), List.drop_of_length_le (by omega), List.append_nil] at hrow
          have hown1 := honly.own hown (Nat.lt_succ_self _)
          have hbel1 := hbel.trans honly.below
          have hsz1 : w1.heap.size + 1 ≤ wr.heap.size := by have := honly.size; omega
          have HX : Hid ((48 + (c : Int)) = ((UInt8.ofNat (48 + c)).toNat : Int)) := by show _ = _; rw [ofNat_int (show 48 + c < 256 by omega)]; omega
          have hlen : acc.length ≤ 1099511627776 := by omega
          have hbr := Below.refl (w1.heap.size + 1) wr
          obtain ⟨U, rfl⟩ : ∃ U, U = wr := ⟨_, rfl⟩
          clear HQ hq hqC hcC honly hown hbel hsz
          go_wp2_with (at_builtin; refine wpList_append_byte rfl (.tmp 49) (.tmp 53) 61 rfl 5 Try.underlying61 info5 (w1.heap.size + 1) _ _ rfl hown1 (UInt8.ofNat (48 + c)) _ HX.out 1 rfl hlen hsz1 (w1.heap.size + 1) U hbr (Nat.le_refl _) ?_; intro v3 w3 hown3 hbel3 hsz3)
          have hrow3 := brow_below hrow hbel3 (Nat.lt_succ_self _)
          have hbel4 := hbel1.trans (hbel3.mono (Nat.le_succ _))
          have hsN3 : sliceN v3 = acc.length + 1 := by
            have e1 : (acc ++ [UInt8.ofNat (48 + c)]).length = acc.length + 1 := by rw [List.length_append, List.length_singleton]
            rw [← e1]
            rcases hown3.form with ⟨rfl, h0⟩ | ⟨gb, capb, rfl, _⟩
            · rw [h0]; rfl
            · rfl
          clear hbel3 hbr
          go_loopw [5] (fun x wr'' => ∃ (off n cap : Nat) (pre l : List UInt8), x = .slice (some ⟨w1.heap.size, off, none⟩) n cap ∧ l.length = n ∧ n ≤ cap ∧ off + n ≤ 255 ∧ (0 < n → pre.length = off ∧ BRow w3 w1.heap.size (pre ++ l)) ∧ Hid (stripL l = stripL q) ∧ w3 = wr'') (fun x _ => sliceN x)
          case atStart => exact ⟨off, n, cap, pre, q, rfl, by omega, hncap, hoff, fun _ => ⟨hpo, hrow3⟩, rfl, rfl⟩
          case round =>
            obtain ⟨off2, n2, cap2, pre2, l2, rfl, hl2, hnc2, hoff2, hrw2, HS2, rfl⟩ := hrel
            by_cases hn2 : ¬ 0 < n2
            · obtain rfl : l2 = [] := List.eq_nil_of_length_eq_zero (by omega)
              have HT3 : Hid ((acc ++ [UInt8.ofNat (48 + c)]) ++ decD (hvl []) = decD M) := by
                show _ = _
                rw [← HT1.out, ← stripL_val q, ← HS2.out]
                rfl
              clear HS2 hrw2
              go_wp2
              go_roundw
              case rel => exact ⟨off2, n2, cap2, [], [], _, rfl, hl2, by omega, by omega, fun h => absurd h hn2, by simp [Hid], hown3, HT3, hbel4, hsz3⟩
              case measure => rw [hsN3, hsN]; omega
            · obtain ⟨hp2, hrow4⟩ := hrw2 (by omega)
              obtain ⟨y, t, rfl⟩ : ∃ x t, l2 = x :: t := by
                cases l2 with
                | nil => exfalso; simp at hl2; omega
                | cons x t => exact ⟨x, t, rfl⟩
              have hcc := hrow4.cell off2 (by rw [List.length_append]; simp only [List.length_cons]; omega)
              rw [List.getElem_append_right (by omega)] at hcc
              simp only [hp2, Nat.sub_self, List.getElem_cons_zero] at hcc
              by_cases hy : y.toNat = 0
              · have hy0 : y = 0 := UInt8.toNat_inj.1 hy
                have htl := run_tail w3 w1.heap.size off2 n2 cap2 (by omega)
                have HS3 : Hid (stripL t = stripL q) := by
                  show _ = _
                  rw [← HS2.out, hy0, stripL_zero]
                have hrow5 : BRow w3 w1.heap.size ((pre2 ++ [y]) ++ t) := by rw [List.append_assoc]; exact hrow4
                have hl3 : t.length = n2 - 1 := by simp only [List.length_cons] at hl2; omega
                clear HS2 hrow4 hy0
                by_cases hc1 : cap2 = 1
                · subst hc1
                  obtain rfl : n2 = 1 := by omega
                  clear htl
                  go_wp2
                  go_roundw
                  case rel => exact ⟨off2, 0, 0, [], t, rfl, hl3, by omega, by omega, fun h => absurd h (by decide), HS3, trivial⟩
                  case measure => simp only [sliceN]; omega
                · rw [if_neg hc1] at htl
                  go_wp2
                  go_roundw
                  case rel => exact ⟨off2 + 1, n2 - 1, cap2 - 1, pre2 ++ [y], t, rfl, hl3, by omega, by omega, fun h => ⟨by rw [List.length_append, List.length_singleton, hp2], hrow5⟩, HS3, trivial⟩
                  case measure => simp only [sliceN]; omega
              · have hy0 : y ≠ 0 := fun h => hy (by rw [h]; rfl)
                have hs2 : stripL (y :: t) = y :: t := stripL_self (by simp [hy0])
                have HT3 : Hid ((acc ++ [UInt8.ofNat (48 + c)]) ++ decD (hvl (y :: t)) = decD M) := by
                  show _ = _
                  rw [← HT1.out, ← stripL_val q, ← HS2.out, hs2]
                clear HS2 hs2
                go_wp2
                go_roundw
                case rel => exact ⟨off2, n2, cap2, pre2, y :: t, _, rfl, hl2, hnc2, hoff2, fun _ => ⟨hp2, hrow4⟩, by simp [Hid, hy0], hown3, HT3, hbel4, hsz3⟩
                case measure => rw [hsN3, hsN]; omega

set_option maxHeartbeats 1000000 in
theorem rprint_any (b : Bool) (m : ByteArray) (hm : m.size ≤ 17179869184) (w : World) :
    Calls Try.prog 45 #[numV b m] w fun e w' => e = printE b m.data.toList ∧ Below w.heap.size w w' := by
  have hl : m.data.toList.length = m.size := (Lib.size_eq m).symm
  by_cases hc : chk b m.data.toList = 0
  · obtain ⟨h255, hhd, hnb⟩ := chk_zero hc
    by_cases h0 : m.size = 0
    · have hn : m.data.toList = [] := List.eq_nil_of_length_eq_zero (by omega)
      have hR : printE b m.data.toList = .returned (.tuple #[.string (bs [48]), .int .i64 0]) := by rw [printE, hc, if_pos rfl, hn]; rfl
      rw [hR]
      have HC : Hid (chk b m.data.toList = 0) := hc
      clear hR hnb hhd h255 hn hc hl
      go_enter Try.func45, Try.ntmps45
      go_wp2_with fail
      refine (rcheck_any b m hm _).mono ?_
      rintro e w1 ⟨rfl, hb1⟩
      obtain ⟨hc0, hc1, hc2⟩ := box_num hb1 (h := w.heap.size) (v0 := .bool b) (v1 := .string m) ⟨by simp, by simp, by simp⟩
      rw [HC.out]
      go_wp2
      go_ret2
      exact ⟨rfl, below_box hb1⟩
    · have hne : m.data.toList ≠ [] := fun h => h0 (by rw [← hl, h]; rfl)
      have he2 : m.data.toList.isEmpty = false := by simpa using hne
      have hpos := hvl_pos hhd hne
      have hdb := decD_bound h255
      cases b
      · have hR : printE false m.data.toList = .returned (.tuple #[.string (bs (decD (hvl m.data.toList)).reverse), .int .i64 0]) := by rw [printE, hc, if_pos rfl, printL, he2]; rfl
        rw [hR]
        exact rprint_false m (by omega) _ rfl hpos hhd hdb (by omega) hc w
      · have hR : printE true m.data.toList = .returned (.tuple #[.string (bs ([45] ++ (decD (hvl m.data.toList)).reverse)), .int .i64 0]) := by rw [printE, hc, if_pos rfl, printL, he2]; rfl
        rw [hR]
        exact rprint_true m (by omega) _ rfl hpos hhd hdb (by omega) hc w
  · have hR : printE b m.data.toList = .returned (.tuple #[.string (bs []), .int .i64 (chk b m.data.toList)]) := by simp [printE, hc]
    rw [hR]
    clear hR hl
    generalize hcc : chk b m.data.toList = c at hc ⊢
    go_enter Try.func45, Try.ntmps45
    go_wp2_with fail
    refine (rcheck_any b m hm _).mono ?_
    rintro e w1 ⟨rfl, hb1⟩
    rw [hcc]
    go_wp2
    go_ret2
    exact ⟨rfl, below_box hb1⟩
end Go.Proofs.Ytffhbellpcneeaa
