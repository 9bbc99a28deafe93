/- What dovetailref04.may and text do (contracts; nothing is claimed here). -/
import Derived.Test.YtpmckfmjegehgaaGreatDoorRefD
namespace Go.Proofs.YtpmckfmjegehgaaGreatDoor
open Go.RowKit Go.Vf Go.Maps

set_option maxHeartbeats 2000000 in
set_option maxRecDepth 20000 in
theorem refMay_any (n₀ : Nat) (m : PM) (a : Option Addr) (k cap : Nat) (w : World) (hn₀ : n₀ ≤ w.heap.size) (hin : Ints n₀ w (.slice a k cap) m.parts) (hl : m.parts.length ≤ 4611686018427387904) :
    Calls Tryz.prog 40 #[.agg #[.int .i64 m.point, .int .i64 m.cls, .slice a k cap]] w fun e w' => e = .returned (.bool (mayPM m)) ∧ Below w.heap.size w w' := by
  obtain ⟨pt, cl, ps⟩ := m
  simp only at hin hl ⊢
  obtain ⟨_, _, he⟩ := hin.val
  simp only [Value.slice.injEq] at he
  have HK : Hid (k = ps.length) := he.2.1
  clear he
  have hb0 := (Below.refl w.heap.size w).alloc (Nat.le_refl _) (.cells #[.int .i64 pt, .int .i64 cl, .slice a k cap] 36)
  have hbn := Blk.new w 36 #[.int .i64 pt, .int .i64 cl, .slice a k cap]
  have hin0 : Ints n₀ (w.alloc (.cells #[.int .i64 pt, .int .i64 cl, .slice a k cap] 36)) (.slice a k cap) ps := hin.below hb0 hn₀
  have hsz0 : w.heap.size < (w.alloc (.cells #[.int .i64 pt, .int .i64 cl, .slice a k cap] 36)).heap.size := by simp
  go_enter Tryz.func40, Tryz.ntmps40
  go_upto_region 1 with fail
  generalize w.alloc (.cells #[.int .i64 pt, .int .i64 cl, .slice a k cap] 36) = W at hb0 hbn hin0 hsz0 ⊢
  have e0 : W.cell? ⟨w.heap.size, 0, none⟩ = some (.int .i64 pt) := hbn.cell 0
  have e1 : W.cell? ⟨w.heap.size, 1, none⟩ = some (.int .i64 cl) := hbn.cell 1
  have e2 : W.cell? ⟨w.heap.size, 2, none⟩ = some (.slice a k cap) := hbn.cell 2
  have hP := isPoint_any pt W
  have hS := syllable_any pt W
  cases h1 : isPt pt with
  | false =>
    rw [h1] at hP
    go_wp2_with fail
    refine hP.mono ?_
    rintro e w1 ⟨rfl, rfl⟩
    go_wp2_with fail
    go_ret
    exact ⟨by simp [mayPM, mayB_eq, h1], hb0⟩
  | true =>
    rw [h1] at hP
    cases h2 : isSyl pt with
    | true =>
      rw [h2] at hS
      go_wp2_with fail
      refine hP.mono ?_
      rintro e w1 ⟨rfl, rfl⟩
      go_wp2_with fail
      refine hS.mono ?_
      rintro e w1 ⟨rfl, rfl⟩
      go_wp2_with fail
      go_ret
      exact ⟨by simp [mayPM, mayB_eq, h2], hb0⟩
    | false =>
      rw [h2] at hS
      have HM : Hid (mayPM ⟨pt, cl, ps⟩ = (ps.all mayB && (decide (0 ≤ cl) && decide (cl ≤ 254)))) := by
        show _ = _
        simp [mayPM, mayB_eq, h1, h2]
      by_cases c0 : cl < 0
      · go_wp2_with fail
        refine hP.mono ?_
        rintro e w1 ⟨rfl, rfl⟩
        go_wp2_with fail
        refine hS.mono ?_
        rintro e w1 ⟨rfl, rfl⟩
        go_wp2_with fail
        go_ret
        exact ⟨by rw [HM.out]; simp; omega, hb0⟩
      · by_cases c1 : 254 < cl
        · go_wp2_with fail
          refine hP.mono ?_
          rintro e w1 ⟨rfl, rfl⟩
          go_wp2_with fail
          refine hS.mono ?_
          rintro e w1 ⟨rfl, rfl⟩
          go_wp2_with fail
          go_ret
          exact ⟨by rw [HM.out]; simp; omega, hb0⟩
        · have HM2 : Hid (mayPM ⟨pt, cl, ps⟩ = ps.all mayB) := by
            show _ = _
            rw [HM.out, show decide (0 ≤ cl) = true by simp; omega, show decide (cl ≤ 254) = true by simp; omega]
            simp
          have HW : Hid (W.heap.size = W.heap.size) := rfl
          clear HM
          go_wp2_with fail
          refine hP.mono ?_
          rintro e w1 ⟨rfl, rfl⟩
          go_wp2_with fail
          refine hS.mono ?_
          rintro e w1 ⟨rfl, rfl⟩
          go_wp2_with fail
          clear hP hS e0 e1
          go_loopw [3] (fun i wr => ∃ j : Nat, j ≤ k ∧ i = .int .i64 j ∧ Hid ((ps.drop j).all mayB = ps.all mayB) ∧ wr = W) (fun i _ => k - (intOf i).toNat)
          case atStart => exact ⟨0, by omega, rfl, by show _ = _; simp, rfl⟩
          case round =>
            obtain ⟨j, hj, rfl, HJ, rfl⟩ := hrel
            by_cases hlt : j < k
            · have hltp : j < ps.length := by rw [← HK.out]; exact hlt
              obtain ⟨b, off, hao, hnk, hblt, hcell⟩ := hin0.cell (fun e => by rw [e] at hltp; simp at hltp)
              subst hao
              have hcj := hcell j hltp
              rw [show ps[j]?.getD 0 = ps[j] by simp [List.getElem?_eq_getElem hltp]] at hcj
              have hJ := HJ.out
              rw [all_drop ps j hltp] at hJ
              generalize ps[j] = q at hcj hJ
              clear hcell hnk
              have hPq := isPoint_any q wr
              have hSq := syllable_any q wr
              rw [mayB_eq] at hJ
              have hkk : k ≤ 4611686018427387904 := by rw [HK.out]; exact hl
              cases g1 : isPt q with
              | false =>
                rw [g1] at hPq hJ
                have HF : Hid (ps.all mayB = false) := hJ.symm
                clear hJ
                go_wp2_with fail
                refine hPq.mono ?_
                rintro e w1 ⟨rfl, rfl⟩
                go_wp2_with fail
                go_ret
                exact ⟨by rw [HM2.out, HF.out]; rfl, hb0⟩
              | true =>
                rw [g1] at hPq hJ
                cases g2 : isSyl q with
                | true =>
                  rw [g2] at hSq hJ
                  have HF : Hid (ps.all mayB = false) := hJ.symm
                  clear hJ
                  go_wp2_with fail
                  refine hPq.mono ?_
                  rintro e w1 ⟨rfl, rfl⟩
                  go_wp2_with fail
                  refine hSq.mono ?_
                  rintro e w1 ⟨rfl, rfl⟩
                  go_wp2_with fail
                  go_ret
                  exact ⟨by rw [HM2.out, HF.out]; rfl, hb0⟩
                | false =>
                  rw [g2] at hSq hJ
                  have HT : Hid ((ps.drop (j + 1)).all mayB = ps.all mayB) := by
                    show _ = _
                    rw [← hJ]; simp
                  clear hJ
                  go_wp2_with fail
                  refine hPq.mono ?_
                  rintro e w1 ⟨rfl, rfl⟩
                  go_wp2_with fail
                  refine hSq.mono ?_
                  rintro e w1 ⟨rfl, rfl⟩
                  go_wp2_with fail
                  go_roundw
                  case rel => exact ⟨j + 1, by omega, by go_num, HT, trivial⟩
                  case measure => simp only [intOf]; omega
            · have HT : Hid (ps.all mayB = true) := by
                show _ = _
                rw [← HJ.out, List.drop_of_length_le (by rw [← HK.out]; omega)]; rfl
              go_wp2_with fail
              go_ret
              exact ⟨by rw [HM2.out, HT.out]; rfl, hb0⟩

/-! ### text -/
theorem bs_append (a : List UInt8) (b : ByteArray) (l : List UInt8) (h : b = bsz l) : bsz a ++ b = bsz (a ++ l) := by rw [h, bsz_append]

set_option maxHeartbeats 2000000 in
set_option maxRecDepth 20000 in
theorem refText_any (n₀ u c : Nat) (us : List Nat) (hu : u ≤ 1114111) (hc : c ≤ 254) (hus : ∀ q ∈ us, q ≤ 1114111) (hul : us.length ≤ 65536) (a : Option Addr) (k cap : Nat) (w : World) (hn₀ : n₀ ≤ w.heap.size) (hin : Ints n₀ w (.slice a k cap) (us.map fun q : Nat => (q : Int))) :
    Calls Tryz.prog 41 #[.agg #[.int .i64 (u : Int), .int .i64 (c : Int), .slice a k cap]] w fun e w' => e = .returned (.string (bsz (markS u c us))) ∧ Below w.heap.size w w' := by
  obtain ⟨_, _, he⟩ := hin.val
  simp only [Value.slice.injEq, List.length_map] at he
  have HK : Hid (k = us.length) := he.2.1
  clear he
  have hb0 := (Below.refl w.heap.size w).alloc (Nat.le_refl _) (.cells #[.int .i64 (u : Int), .int .i64 (c : Int), .slice a k cap] 36)
  have hbn := Blk.new w 36 #[.int .i64 (u : Int), .int .i64 (c : Int), .slice a k cap]
  have hin0 : Ints n₀ (w.alloc (.cells #[.int .i64 (u : Int), .int .i64 (c : Int), .slice a k cap] 36)) (.slice a k cap) (us.map fun q : Nat => (q : Int)) := hin.below hb0 hn₀
  have hsz0 : w.heap.size < (w.alloc (.cells #[.int .i64 (u : Int), .int .i64 (c : Int), .slice a k cap] 36)).heap.size := by simp
  go_enter Tryz.func41, Tryz.ntmps41
  go_upto_region 1 with fail
  generalize w.alloc (.cells #[.int .i64 (u : Int), .int .i64 (c : Int), .slice a k cap] 36) = W at hb0 hbn hin0 hsz0 ⊢
  have e0 : W.cell? ⟨w.heap.size, 0, none⟩ = some (.int .i64 (u : Int)) := hbn.cell 0
  have e1 : W.cell? ⟨w.heap.size, 1, none⟩ = some (.int .i64 (c : Int)) := hbn.cell 1
  have e2 : W.cell? ⟨w.heap.size, 2, none⟩ = some (.slice a k cap) := hbn.cell 2
  have s0 : (W.drew.cell? ⟨w.heap.size, 0, none⟩ = some (.int .i64 (u : Int)) ∧ W.drew.cell? ⟨w.heap.size, 1, none⟩ = some (.int .i64 (c : Int))) ∧ Below W.heap.size W W.drew := ⟨⟨e0, e1⟩, Below.drew (Below.refl _ _)⟩
  have HKeep : Hid (∀ x y : World, ((x.cell? ⟨w.heap.size, 0, none⟩ = some (.int .i64 (u : Int)) ∧ x.cell? ⟨w.heap.size, 1, none⟩ = some (.int .i64 (c : Int))) ∧ Below W.heap.size W x) → Below W.heap.size x y → ((y.cell? ⟨w.heap.size, 0, none⟩ = some (.int .i64 (u : Int)) ∧ y.cell? ⟨w.heap.size, 1, none⟩ = some (.int .i64 (c : Int))) ∧ Below W.heap.size W y)) := fun x y h1 h2 => ⟨⟨(h2.cell (p := ⟨w.heap.size, 0, none⟩) hsz0).trans h1.1.1, (h2.cell (p := ⟨w.heap.size, 1, none⟩) hsz0).trans h1.1.2⟩, h1.2.trans h2⟩
  have HD : Hid (∀ x : World, Calls Tryz.prog 60 #[.int .i64 (u : Int)] x fun e w' => e = .returned (.string (bsz (pointS u))) ∧ x = w') := fun x => digits_any u (by omega) x
  have HT : Hid (∀ x : World, Calls Tryz.prog 61 #[.int .i64 (c : Int)] x fun e w' => e = .returned (.string (bsz (Lib.itoa (c : Int)))) ∧ Below x.heap.size x w') := fun x => ten_any c hc x
  obtain ⟨PU, hpu⟩ : ∃ PU, bsz (pointS u) = PU := ⟨_, rfl⟩
  obtain ⟨IC, hic⟩ : ∃ IC, bsz (Lib.itoa (c : Int)) = IC := ⟨_, rfl⟩
  have hz1 : PU.size ≤ 6 := by rw [← hpu, bsz_size]; exact (pointS_len u hu).1
  have hz2 : IC.size ≤ 21 := by rw [← hic, bsz_size]; exact itoa_len c hc
  rw [hpu] at HD
  rw [hic] at HT
  have HPRE : Hid ((PU ++ ⟨#[59]⟩ ++ IC ++ ⟨#[59]⟩ : ByteArray) = bsz (pointS u ++ [59] ++ Lib.itoa (c : Int) ++ [59])) := by
    show _ = _
    rw [← hpu, ← hic, show (⟨#[59]⟩ : ByteArray) = bsz [59] from rfl, bsz_append, bsz_append, bsz_append]
  clear hpu hic
  go_cut [3] from 5 to 13 (fun v wx => v = .string (PU ++ ⟨#[59]⟩ ++ IC ++ ⟨#[59]⟩) ∧ Below W.heap.size W wx)
  case first =>
    go_region_held (fun x => (x.cell? ⟨w.heap.size, 0, none⟩ = some (.int .i64 (u : Int)) ∧ x.cell? ⟨w.heap.size, 1, none⟩ = some (.int .i64 (c : Int))) ∧ Below W.heap.size W x) (first | exact s0 | assumption | exact HKeep.out _ _ (by assumption) (below_call (by assumption) (by assumption))) (first | (go_at_call 60; refine (HD.out _).mono ?_; rintro e w1 ⟨rfl, rfl⟩) | (go_at_call 61; refine (HT.out _).mono ?_; rintro e w2 ⟨rfl, hb2⟩))
    all_goals go_wp2_with fail
    all_goals go_meet
    all_goals exact ⟨rfl, (by assumption : (_ ∧ Below W.heap.size W _)).2⟩
  case rest =>
    obtain ⟨rfl, hbc⟩ := hcut
    have hin1 := hin0.below hbc (show n₀ ≤ W.heap.size by omega)
    have hbn1 := hbn.below hbc hbn.lt
    have f2 : wc.cell? ⟨w.heap.size, 2, none⟩ = some (.slice a k cap) := hbn1.cell 2
    have hzz : (PU ++ ⟨#[59]⟩ ++ IC ++ ⟨#[59]⟩ : ByteArray).size ≤ 29 := by
      simp only [ByteArray.size_append]
      rw [show (⟨#[59]⟩ : ByteArray).size = 1 from rfl]
      omega
    have HB : Hid (Below w.heap.size w wc) := hb0.trans (hbc.mono (by omega))
    have hcz : w.heap.size < wc.heap.size := by have := hbc.size; omega
    generalize (PU ++ ⟨#[59]⟩ ++ IC ++ ⟨#[59]⟩ : ByteArray) = pre at HPRE hzz ⊢
    clear hz1 hz2 HD HT HKeep s0 e0 e1 e2 hbn hbn1 hin0 hbc
    have hkl : k ≤ 65536 := by rw [HK.out]; exact hul
    go_wp2_with fail
    go_loopw [3, 4] (fun v i wr => ∃ (j : Nat) (sb : ByteArray), j ≤ k ∧ i = .int .i64 j ∧ v = .string sb ∧ Hid (sb = bsz (pointS u ++ [59] ++ Lib.itoa (c : Int) ++ [59] ++ joinS (us.take j))) ∧ sb.size ≤ 29 + 7 * j ∧ wr = wc) (fun _ i _ => k - (intOf i).toNat)
    case atStart => exact ⟨0, pre, by omega, rfl, rfl, by show _ = _; rw [HPRE.out]; simp [joinS], by omega, rfl⟩
    case round =>
      obtain ⟨j, sb, hj, rfl, rfl, HS, hsb, rfl⟩ := hrel
      by_cases hlt : j < k
      · have hltp : j < us.length := by rw [← HK.out]; exact hlt
        have hltm : j < (us.map fun q : Nat => (q : Int)).length := by rw [List.length_map]; exact hltp
        obtain ⟨b, off, hao, hnk, hblt, hcell⟩ := hin1.cell (fun e => by rw [e] at hltm; simp at hltm)
        subst hao
        have hcj := hcell j hltm
        rw [show (us.map fun q : Nat => (q : Int))[j]?.getD 0 = ((us[j] : Nat) : Int) by simp [List.getElem?_eq_getElem hltp]] at hcj
        have hJ := joinS_step us j hltp
        have hq := hus _ (List.getElem_mem hltp)
        generalize us[j] = q at hcj hJ hq
        clear hcell hnk hltm
        have hdq := digits_any q (by omega) wr
        have hzq := (pointS_len q hq).1
        obtain ⟨PQ, hpq⟩ : ∃ PQ, bsz (pointS q) = PQ := ⟨_, rfl⟩
        rw [hpq] at hdq
        have hz3 : PQ.size ≤ 6 := by rw [← hpq, bsz_size]; exact hzq
        by_cases h0 : j = 0
        · subst h0
          rw [Nat.add_zero] at hcj
          have HJ : Hid (sb ++ PQ = bsz (pointS u ++ [59] ++ Lib.itoa (c : Int) ++ [59] ++ joinS (us.take 1))) := by
            show _ = _
            rw [hJ, HS.out, ← hpq, bsz_append]; simp
          clear hpq hJ hzq
          go_wp2_with fail
          refine hdq.mono ?_
          rintro e w1 ⟨rfl, rfl⟩
          go_wp2_with fail
          go_roundw
          case rel => exact ⟨1, sb ++ PQ, by omega, by go_num, rfl, HJ, by rw [ByteArray.size_append]; omega, trivial⟩
          case measure => simp only [intOf]; omega
        · have HJ : Hid (sb ++ ⟨#[32]⟩ ++ PQ = bsz (pointS u ++ [59] ++ Lib.itoa (c : Int) ++ [59] ++ joinS (us.take (j + 1)))) := by
            show _ = _
            rw [hJ, HS.out, ← hpq, show (⟨#[32]⟩ : ByteArray) = bsz [32] from rfl, bsz_append, bsz_append, if_pos (by omega)]; simp
          clear hpq hJ hzq
          go_wp2_with fail
          refine hdq.mono ?_
          rintro e w1 ⟨rfl, rfl⟩
          go_wp2_with fail
          go_roundw
          case rel => exact ⟨j + 1, sb ++ ⟨#[32]⟩ ++ PQ, by omega, by go_num, rfl, HJ, by rw [ByteArray.size_append, ByteArray.size_append, show (⟨#[32]⟩ : ByteArray).size = 1 from rfl]; omega, trivial⟩
          case measure => simp only [intOf]; omega
      · have HE : Hid (bsz (markS u c us) = sb) := by
          show _ = _
          have := HS.out
          rw [List.take_of_length_le (by rw [← HK.out]; omega)] at this
          rw [this]; rfl
        go_wp2_with fail
        go_ret
        exact ⟨by rw [HE.out]; rfl, HB.out⟩

end Go.Proofs.YtpmckfmjegehgaaGreatDoor
