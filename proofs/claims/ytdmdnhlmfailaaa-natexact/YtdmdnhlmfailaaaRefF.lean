/- What the document's answer for Put does (a contract; nothing is claimed here). -/
import Derived.Test.YtdmdnhlmfailaaaRefA
import Derived.Test.YtdmdnhlmfailaaaMathQ
namespace Go.Proofs.Ytdmdnhlmfailaaa
open Go.RowKit Go.Vf

set_option maxHeartbeats 4000000 in
theorem rput_any (b : Bool) (m : ByteArray) (hm : m.size ≤ 17179869184) (w : World) :
    Calls Try.prog 27 #[numV b m] w fun e w' => e = putE b m.data.toList ∧ Below w.heap.size w w' := by
  have hl : m.data.toList.length = m.size := (Lib.size_eq m).symm
  by_cases hc : chk b m.data.toList = 0
  · have hle : m.size ≤ 255 := by rw [← hl]; exact (chk_zero hc).1
    obtain ⟨k, hk⟩ : ∃ k, m.size = k := ⟨_, rfl⟩
    have hR : putE b m.data.toList = .returned (.tuple #[.string (bs (headL b k ++ turnB b m.data.toList)), .int .i64 0]) := by
      rw [putE, hc, if_pos rfl, putL, hl, hk]
    rw [hR]
    clear hR
    have HC : Hid (chk b m.data.toList = 0) := hc
    clear hc
    go_enter Try.func27, Try.ntmps27
    go_wp2_with fail
    refine (rcheck_any b m hm _).mono ?_
    rintro e w1 ⟨rfl, hb1⟩
    obtain ⟨hc0, hc1, hc2⟩ := box_num hb1 (h := w.heap.size) (v0 := .bool b) (v1 := .string m) ⟨by simp, by simp, by simp⟩
    rw [HC.out]
    clear HC
    cases b
    · by_cases hk1 : 126 < k
      · have HHD : Hid (headL false k = [255, UInt8.ofNat k]) := by show _ = _; simp only [headL, if_true, if_false, hk1, Bool.false_eq_true]
        have HB : Hid ((k : Int) = ((UInt8.ofNat k).toNat : Int)) := (ofNat_int (by omega)).symm
        go_wp2_with (first | (at_builtin; refine wpList_append_byte rfl (.tmp 44) (.tmp 45) 60 rfl 5 Try.underlying60 info5 w1.heap.size _ _ rfl (BOwn.nil 5 w1 w1.heap.size) 255 _ rfl 1 rfl (by simp) (Nat.le_refl _) w1.heap.size w1 (Below.refl _ _) (Nat.le_refl _) ?_; intro va wa hoa hba hsa) | (at_builtin; refine wpList_append_byte rfl (.tmp 47) (.tmp 50) 60 rfl 5 Try.underlying60 info5 w1.heap.size _ _ rfl hoa (UInt8.ofNat k) _ HB.out 1 rfl (by simp) hsa w1.heap.size w1 hba (Nat.le_refl _) ?_; intro vb wb hob hbb hsb))
        go_loopw [6, 7] (fun v i wr => ∃ i' : Nat, i' ≤ k ∧ i = .int .i64 i' ∧ BOwn 5 wr w1.heap.size v (headL false k ++ (turnB false m.data.toList).take i') ∧ Below w1.heap.size w1 wr ∧ w1.heap.size ≤ wr.heap.size) (fun _ i _ => k - (intOf i).toNat)
        case atStart => exact ⟨0, Nat.zero_le _, rfl, by rw [HHD.out, List.take_zero, List.append_nil]; exact hob, hbb, hsb⟩
        case round =>
          obtain ⟨i, hi, rfl, hown, hbel, hsz⟩ := hrel
          have c0 := (hbel.cell (p := ⟨w.heap.size, 0, none⟩) hc2).trans hc0
          have c1 := (hbel.cell (p := ⟨w.heap.size, 1, none⟩) hc2).trans hc1
          by_cases hlt : i < k
          · have hiA : i < m.size := by omega
            have HT : Hid (headL false k ++ (turnB false m.data.toList).take (i + 1) = (headL false k ++ (turnB false m.data.toList).take i) ++ [m[i]]) := by
              show _ = _
              rw [List.take_succ_eq_append_getElem (by rw [turn_length]; omega), List.append_assoc]
              congr 3
            have hln : (headL false k ++ (turnB false m.data.toList).take i).length ≤ 1099511627776 := by
              have h1 := headL_length false k
              rw [bs_size] at h1
              rw [List.length_append, List.length_take, turn_length]
              omega
            have hmi := m[i].toNat_lt
            have HX : Hid ((m[i].toNat : Int) = (m[i].toNat : Int)) := rfl
            go_wp2_with (at_builtin; refine wpList_append_byte rfl (.tmp 74) (.tmp 76) 60 rfl 5 Try.underlying60 info5 w1.heap.size _ _ rfl hown m[i] _ HX.out 1 rfl hln hsz w1.heap.size w1 hbel (Nat.le_refl _) ?_; intro v' w3 hown3 hbel3 hsz3)
            go_roundw
            case rel => exact ⟨i + 1, by omega, by go_num, by rw [HT.out]; exact hown3, hbel3, hsz3⟩
            case measure => simp [intOf]; omega
          · rw [List.take_of_length_le (by rw [turn_length]; omega)] at hown
            have hcv := run_string_own (P := Try.prog) wr 60 9 5 Try.underlying60 Try.underlying5 Try.underlying9 _ _ _ hown
            go_wp2
            go_ret2
            exact ⟨rfl, below_next (below_box hb1) hbel⟩
      · have HHD : Hid (headL false k = [UInt8.ofNat (128 + k)]) := by show _ = _; simp only [headL, if_false, hk1, Bool.false_eq_true]
        have HB : Hid ((128 + (k : Int)) = ((UInt8.ofNat (128 + k)).toNat : Int)) := by show _ = _; rw [ofNat_int (show 128 + k < 256 by omega)]; omega
        go_wp2_with ((at_builtin; refine wpList_append_byte rfl (.tmp 34) (.tmp 38) 60 rfl 5 Try.underlying60 info5 w1.heap.size _ _ rfl (BOwn.nil 5 w1 w1.heap.size) (UInt8.ofNat (128 + k)) _ HB.out 1 rfl (by simp) (Nat.le_refl _) w1.heap.size w1 (Below.refl _ _) (Nat.le_refl _) ?_; intro vb wb hob hbb hsb))
        go_loopw [6, 7] (fun v i wr => ∃ i' : Nat, i' ≤ k ∧ i = .int .i64 i' ∧ BOwn 5 wr w1.heap.size v (headL false k ++ (turnB false m.data.toList).take i') ∧ Below w1.heap.size w1 wr ∧ w1.heap.size ≤ wr.heap.size) (fun _ i _ => k - (intOf i).toNat)
        case atStart => exact ⟨0, Nat.zero_le _, rfl, by rw [HHD.out, List.take_zero, List.append_nil]; exact hob, hbb, hsb⟩
        case round =>
          obtain ⟨i, hi, rfl, hown, hbel, hsz⟩ := hrel
          have c0 := (hbel.cell (p := ⟨w.heap.size, 0, none⟩) hc2).trans hc0
          have c1 := (hbel.cell (p := ⟨w.heap.size, 1, none⟩) hc2).trans hc1
          by_cases hlt : i < k
          · have hiA : i < m.size := by omega
            have HT : Hid (headL false k ++ (turnB false m.data.toList).take (i + 1) = (headL false k ++ (turnB false m.data.toList).take i) ++ [m[i]]) := by
              show _ = _
              rw [List.take_succ_eq_append_getElem (by rw [turn_length]; omega), List.append_assoc]
              congr 3
            have hln : (headL false k ++ (turnB false m.data.toList).take i).length ≤ 1099511627776 := by
              have h1 := headL_length false k
              rw [bs_size] at h1
              rw [List.length_append, List.length_take, turn_length]
              omega
            have hmi := m[i].toNat_lt
            have HX : Hid ((m[i].toNat : Int) = (m[i].toNat : Int)) := rfl
            go_wp2_with (at_builtin; refine wpList_append_byte rfl (.tmp 74) (.tmp 76) 60 rfl 5 Try.underlying60 info5 w1.heap.size _ _ rfl hown m[i] _ HX.out 1 rfl hln hsz w1.heap.size w1 hbel (Nat.le_refl _) ?_; intro v' w3 hown3 hbel3 hsz3)
            go_roundw
            case rel => exact ⟨i + 1, by omega, by go_num, by rw [HT.out]; exact hown3, hbel3, hsz3⟩
            case measure => simp [intOf]; omega
          · rw [List.take_of_length_le (by rw [turn_length]; omega)] at hown
            have hcv := run_string_own (P := Try.prog) wr 60 9 5 Try.underlying60 Try.underlying5 Try.underlying9 _ _ _ hown
            go_wp2
            go_ret2
            exact ⟨rfl, below_next (below_box hb1) hbel⟩
    · by_cases hk1 : 126 < k
      · have HHD : Hid (headL true k = [1, UInt8.ofNat (255 - k)]) := by show _ = _; simp only [headL, if_true, hk1]
        have HB : Hid ((255 - (k : Int)) = ((UInt8.ofNat (255 - k)).toNat : Int)) := by show _ = _; rw [ofNat_int (show 255 - k < 256 by omega)]; omega
        go_wp2_with (first | (at_builtin; refine wpList_append_byte rfl (.tmp 17) (.tmp 18) 60 rfl 5 Try.underlying60 info5 w1.heap.size _ _ rfl (BOwn.nil 5 w1 w1.heap.size) 1 _ rfl 1 rfl (by simp) (Nat.le_refl _) w1.heap.size w1 (Below.refl _ _) (Nat.le_refl _) ?_; intro va wa hoa hba hsa) | (at_builtin; refine wpList_append_byte rfl (.tmp 20) (.tmp 24) 60 rfl 5 Try.underlying60 info5 w1.heap.size _ _ rfl hoa (UInt8.ofNat (255 - k)) _ HB.out 1 rfl (by simp) hsa w1.heap.size w1 hba (Nat.le_refl _) ?_; intro vb wb hob hbb hsb))
        go_loopw [6, 7] (fun v i wr => ∃ i' : Nat, i' ≤ k ∧ i = .int .i64 i' ∧ BOwn 5 wr w1.heap.size v (headL true k ++ (turnB true m.data.toList).take i') ∧ Below w1.heap.size w1 wr ∧ w1.heap.size ≤ wr.heap.size) (fun _ i _ => k - (intOf i).toNat)
        case atStart => exact ⟨0, Nat.zero_le _, rfl, by rw [HHD.out, List.take_zero, List.append_nil]; exact hob, hbb, hsb⟩
        case round =>
          obtain ⟨i, hi, rfl, hown, hbel, hsz⟩ := hrel
          have c0 := (hbel.cell (p := ⟨w.heap.size, 0, none⟩) hc2).trans hc0
          have c1 := (hbel.cell (p := ⟨w.heap.size, 1, none⟩) hc2).trans hc1
          by_cases hlt : i < k
          · have hiA : i < m.size := by omega
            have HT : Hid (headL true k ++ (turnB true m.data.toList).take (i + 1) = (headL true k ++ (turnB true m.data.toList).take i) ++ [(255 - m[i])]) := by
              show _ = _
              rw [List.take_succ_eq_append_getElem (by rw [turn_length]; omega), List.append_assoc]
              congr 3
              simp [turnB, flipL]
              rfl
            have hln : (headL true k ++ (turnB true m.data.toList).take i).length ≤ 1099511627776 := by
              have h1 := headL_length true k
              rw [bs_size] at h1
              rw [List.length_append, List.length_take, turn_length]
              omega
            have hmi := m[i].toNat_lt
            have HX : Hid ((255 - (m[i].toNat : Int)) = ((255 - m[i]).toNat : Int)) := (flip_toNat _).symm
            go_wp2_with (at_builtin; refine wpList_append_byte rfl (.tmp 74) (.tmp 76) 60 rfl 5 Try.underlying60 info5 w1.heap.size _ _ rfl hown (255 - m[i]) _ HX.out 1 rfl hln hsz w1.heap.size w1 hbel (Nat.le_refl _) ?_; intro v' w3 hown3 hbel3 hsz3)
            go_roundw
            case rel => exact ⟨i + 1, by omega, by go_num, by rw [HT.out]; exact hown3, hbel3, hsz3⟩
            case measure => simp [intOf]; omega
          · rw [List.take_of_length_le (by rw [turn_length]; omega)] at hown
            have hcv := run_string_own (P := Try.prog) wr 60 9 5 Try.underlying60 Try.underlying5 Try.underlying9 _ _ _ hown
            go_wp2
            go_ret2
            exact ⟨rfl, below_next (below_box hb1) hbel⟩
      · have HHD : Hid (headL true k = [UInt8.ofNat (128 - k)]) := by show _ = _; simp only [headL, if_true, if_false, hk1]
        have HB : Hid ((128 - (k : Int)) = ((UInt8.ofNat (128 - k)).toNat : Int)) := by show _ = _; rw [ofNat_int (show 128 - k < 256 by omega)]; omega
        go_wp2_with ((at_builtin; refine wpList_append_byte rfl (.tmp 55) (.tmp 59) 60 rfl 5 Try.underlying60 info5 w1.heap.size _ _ rfl (BOwn.nil 5 w1 w1.heap.size) (UInt8.ofNat (128 - k)) _ HB.out 1 rfl (by simp) (Nat.le_refl _) w1.heap.size w1 (Below.refl _ _) (Nat.le_refl _) ?_; intro vb wb hob hbb hsb))
        go_loopw [6, 7] (fun v i wr => ∃ i' : Nat, i' ≤ k ∧ i = .int .i64 i' ∧ BOwn 5 wr w1.heap.size v (headL true k ++ (turnB true m.data.toList).take i') ∧ Below w1.heap.size w1 wr ∧ w1.heap.size ≤ wr.heap.size) (fun _ i _ => k - (intOf i).toNat)
        case atStart => exact ⟨0, Nat.zero_le _, rfl, by rw [HHD.out, List.take_zero, List.append_nil]; exact hob, hbb, hsb⟩
        case round =>
          obtain ⟨i, hi, rfl, hown, hbel, hsz⟩ := hrel
          have c0 := (hbel.cell (p := ⟨w.heap.size, 0, none⟩) hc2).trans hc0
          have c1 := (hbel.cell (p := ⟨w.heap.size, 1, none⟩) hc2).trans hc1
          by_cases hlt : i < k
          · have hiA : i < m.size := by omega
            have HT : Hid (headL true k ++ (turnB true m.data.toList).take (i + 1) = (headL true k ++ (turnB true m.data.toList).take i) ++ [(255 - m[i])]) := by
              show _ = _
              rw [List.take_succ_eq_append_getElem (by rw [turn_length]; omega), List.append_assoc]
              congr 3
              simp [turnB, flipL]
              rfl
            have hln : (headL true k ++ (turnB true m.data.toList).take i).length ≤ 1099511627776 := by
              have h1 := headL_length true k
              rw [bs_size] at h1
              rw [List.length_append, List.length_take, turn_length]
              omega
            have hmi := m[i].toNat_lt
            have HX : Hid ((255 - (m[i].toNat : Int)) = ((255 - m[i]).toNat : Int)) := (flip_toNat _).symm
            go_wp2_with (at_builtin; refine wpList_append_byte rfl (.tmp 74) (.tmp 76) 60 rfl 5 Try.underlying60 info5 w1.heap.size _ _ rfl hown (255 - m[i]) _ HX.out 1 rfl hln hsz w1.heap.size w1 hbel (Nat.le_refl _) ?_; intro v' w3 hown3 hbel3 hsz3)
            go_roundw
            case rel => exact ⟨i + 1, by omega, by go_num, by rw [HT.out]; exact hown3, hbel3, hsz3⟩
            case measure => simp [intOf]; omega
          · rw [List.take_of_length_le (by rw [turn_length]; omega)] at hown
            have hcv := run_string_own (P := Try.prog) wr 60 9 5 Try.underlying60 Try.underlying5 Try.underlying9 _ _ _ hown
            go_wp2
            go_ret2
            exact ⟨rfl, below_next (below_box hb1) hbel⟩
  · have hR : putE b m.data.toList = .returned (.tuple #[.string (bs []), .int .i64 (chk b m.data.toList)]) := by simp [putE, hc]
    rw [hR]
    clear hR hl
    generalize hcc : chk b m.data.toList = c at hc ⊢
    go_enter Try.func27, Try.ntmps27
    go_wp2_with fail
    refine (rcheck_any b m hm _).mono ?_
    rintro e w1 ⟨rfl, hb1⟩
    rw [hcc]
    go_wp2
    go_ret2
    exact ⟨rfl, below_box hb1⟩
end Go.Proofs.Ytdmdnhlmfailaaa
