/- What nat.Put does (a contract; nothing is claimed here). -/
import Derived.Deep.RegionHeld
import Derived.Test.YtgefbgpfjbbeaaaGreatDoorJ4
import Derived.Test.YtgefbgpfjbbeaaaGreatDoorJ5
namespace Go.Proofs.YtgefbgpfjbbeaaaGreatDoor
open Go.RowKit Go.Vf

set_option maxHeartbeats 400000 in
set_option maxRecDepth 20000 in
theorem turned_any (s : ByteArray) (w : World) (hs : s.size ≤ 17179869184) :
    Calls Tryz.prog 194 #[.string s] w fun e w' => e = .returned (.string (bs (flipL s.data.toList))) ∧ Below w.heap.size w w' := by
  obtain ⟨cap, wc, hcv, hcap, hrow0, hbel0, hsz0⟩ := run_bytes_ex (P := Tryz.prog) w 9 155 5 s Tryz.underlying9 Tryz.underlying155 Tryz.underlying5
  have hl : s.data.toList.length = s.size := (Lib.size_eq s).symm
  go_enter Tryz.func194, Tryz.ntmps194
  go_wp2
  clear hcv
  go_loopw [9] (fun i wr => ∃ k : Nat, k ≤ s.size ∧ i = .int .i64 k ∧ BRow wr w.heap.size ((flipL s.data.toList).take k ++ s.data.toList.drop k) ∧ Below w.heap.size w wr) (fun i _ => s.size - (intOf i).toNat)
  case atStart => exact ⟨0, Nat.zero_le _, rfl, by simpa using hrow0, hbel0⟩
  case round =>
    obtain ⟨k, hk, rfl, hrow, hbel⟩ := hrel
    by_cases hlt : k < s.size
    · have hkl : k < s.data.toList.length := by omega
      have hfl := flipL_length s.data.toList
      have hlen := mix_length hfl k (by omega)
      have hb := s[k].toNat_lt
      have hc := hrow.cell k (by omega)
      rw [mix_get hfl k hkl (by omega), show s.data.toList[k] = s[k] from rfl] at hc
      have hf := hrow.free k (by omega)
      have hnew := hrow.set k ((flipL s.data.toList)[k]'(by omega))
      rw [mix_set hfl k hkl, show (flipL s.data.toList)[k]'(by omega) = 255 - s[k] by simp [flipL]; rfl, flip_toNat] at hnew
      have HB := hbel.setCell (p := ⟨w.heap.size, k, none⟩) (Nat.le_refl _) (.int .u8 (255 - (s[k].toNat : Int)))
      clear hrow hlen
      go_wp2
      go_roundw
      case rel => exact ⟨k + 1, by omega, by go_num, hnew, HB⟩
      case measure => simp [intOf]; omega
    · have hk' : k = s.size := by omega
      subst hk'
      have hcv := run_string_row (P := Tryz.prog) wr 155 9 5 Tryz.underlying155 Tryz.underlying5 Tryz.underlying9 w.heap.size s.size cap _ (by simp [flipL_length]) hrow
      have hfull : List.take s.size ((flipL s.data.toList).take s.size ++ s.data.toList.drop s.size) = flipL s.data.toList := by
        rw [List.drop_of_length_le (by omega), List.append_nil, List.take_take, Nat.min_self, List.take_of_length_le (by rw [flipL_length, ← Lib.size_eq]; exact Nat.le_refl _)]
      rw [hfull] at hcv
      go_wp2
      go_ret
      exact ⟨rfl, hbel⟩
set_option maxHeartbeats 400000 in
set_option maxRecDepth 20000 in
theorem aboveHead_any (n : Nat) (hn : n ≤ 255) (w : World) :
    Calls Tryz.prog 195 #[.int .i64 (n : Int)] w fun e w' => e = .returned (.string (bs (headL false n))) ∧ Below w.heap.size w w' := by
  by_cases h : 126 < n
  · have hcv := run_string_cells (P := Tryz.prog) w 155 9 5 Tryz.underlying155 Tryz.underlying5 Tryz.underlying9 [255, UInt8.ofNat n] #[.int .u8 255, .int .u8 (n : Int)] (by simp only [cellsL, List.map_cons, List.map_nil, ofNat_int (show n < 256 by omega)]; rfl) 2 2 rfl
    have hR : headL false n = [255, UInt8.ofNat n] := by simp [headL, h]
    rw [hR]
    clear hR
    go_enter Tryz.func195, Tryz.ntmps195
    go_wp2
    go_ret
    exact ⟨rfl, (Below.refl _ _).alloc (Nat.le_refl _) _⟩
  · have hcv := run_string_cells (P := Tryz.prog) w 155 9 5 Tryz.underlying155 Tryz.underlying5 Tryz.underlying9 [UInt8.ofNat (128 + n)] #[.int .u8 (128 + (n : Int))] (by simp only [cellsL, List.map_cons, List.map_nil, ofNat_int (show 128 + n < 256 by omega)]; simp) 1 1 rfl
    have hR : headL false n = [UInt8.ofNat (128 + n)] := by simp only [headL, h, if_false, Bool.false_eq_true]
    rw [hR]
    clear hR
    generalize UInt8.ofNat (128 + n) = x at hcv ⊢
    go_enter Tryz.func195, Tryz.ntmps195
    go_wp2
    go_ret
    exact ⟨rfl, (Below.refl _ _).alloc (Nat.le_refl _) _⟩
set_option maxHeartbeats 400000 in
set_option maxRecDepth 20000 in
theorem belowHead_any (n : Nat) (hn : n ≤ 255) (w : World) :
    Calls Tryz.prog 193 #[.int .i64 (n : Int)] w fun e w' => e = .returned (.string (bs (headL true n))) ∧ Below w.heap.size w w' := by
  by_cases h : 126 < n
  · have hcv := run_string_cells (P := Tryz.prog) w 155 9 5 Tryz.underlying155 Tryz.underlying5 Tryz.underlying9 [1, UInt8.ofNat (255 - n)] #[.int .u8 1, .int .u8 (255 - (n : Int))] (by simp only [cellsL, List.map_cons, List.map_nil, ofNat_int (show 255 - n < 256 by omega), Int.ofNat_sub hn]; rfl) 2 2 rfl
    have hR : headL true n = [1, UInt8.ofNat (255 - n)] := by simp [headL, h]
    rw [hR]
    clear hR
    go_enter Tryz.func193, Tryz.ntmps193
    go_wp2
    go_ret
    exact ⟨rfl, (Below.refl _ _).alloc (Nat.le_refl _) _⟩
  · have hcv := run_string_cells (P := Tryz.prog) w 155 9 5 Tryz.underlying155 Tryz.underlying5 Tryz.underlying9 [UInt8.ofNat (128 - n)] #[.int .u8 (128 - (n : Int))] (by simp only [cellsL, List.map_cons, List.map_nil, ofNat_int (show 128 - n < 256 by omega), Int.ofNat_sub (show n ≤ 128 by omega)]; rfl) 1 1 rfl
    have hR : headL true n = [UInt8.ofNat (128 - n)] := by simp [headL, h]
    rw [hR]
    clear hR
    go_enter Tryz.func193, Tryz.ntmps193
    go_wp2
    go_ret
    exact ⟨rfl, (Below.refl _ _).alloc (Nat.le_refl _) _⟩
set_option maxHeartbeats 1000000 in
set_option maxRecDepth 20000 in
theorem put_any (b : Bool) (m : ByteArray) (hm : m.size ≤ 17179869184) (w : World) :
    Calls Tryz.prog 165 #[numV b m] w fun e w' => e = putE b m.data.toList ∧ Below w.heap.size w w' := by
  have hl : m.data.toList.length = m.size := (Lib.size_eq m).symm
  by_cases hc : chk b m.data.toList = 0
  · have hle : m.size ≤ 255 := by
      unfold chk at hc
      split at hc
      · exact absurd hc (by decide)
      · omega
    have hR : putE b m.data.toList = .returned (.tuple #[.string (bs (headL b m.size) ++ bs (turnB b m.data.toList)), .int .i64 0]) := by simp [putE, hc, putL, hl, bs_append]
    rw [hR]
    clear hR
    go_enter Tryz.func165, Tryz.ntmps165
    go_wp2_with fail
    refine (check_any b m hm _).mono ?_
    rintro e w1 ⟨rfl, hb1⟩
    have hS := box_num hb1 (h := w.heap.size) (v0 := .bool b) (v1 := .string m) ⟨by simp, by simp, by simp⟩
    obtain ⟨hc0, hc1, hc2⟩ := hS
    rw [hc]
    clear hc
    have hh := headL_length b m.size
    have hf : (bs (flipL m.data.toList)).size = m.size := by rw [bs_size, flipL_length, hl]
    cases b
    · go_wp2_with fail
      go_region_held (fun w' => w'.cell? ⟨w.heap.size, 0, none⟩ = some (.bool false) ∧ w'.cell? ⟨w.heap.size, 1, none⟩ = some (.string m) ∧ w.heap.size < w'.heap.size) (first | go_keep | exact box_num (by assumption) (by assumption)) (first | (go_at_call 195; refine (aboveHead_any m.size hle _).mono ?_; rintro e w2 ⟨rfl, hb2⟩))
      go_wp2
      go_ret2
      refine ⟨?_, below_next (below_box hb1) (below_next (Below.refl _ _).drew hb2)⟩
      simp [turnB, bs_of]
    · go_wp2_with fail
      go_region_held (fun w' => w'.cell? ⟨w.heap.size, 0, none⟩ = some (.bool true) ∧ w'.cell? ⟨w.heap.size, 1, none⟩ = some (.string m) ∧ w.heap.size < w'.heap.size) (first | go_keep | exact box_num (by assumption) (by assumption)) (first | (go_at_call 193; refine (belowHead_any m.size hle _).mono ?_; rintro e w2 ⟨rfl, hb2⟩) | (go_at_call 194; refine (turned_any m _ hm).mono ?_; rintro e w3 ⟨rfl, hb3⟩))
      go_wp2
      go_ret2
      refine ⟨?_, below_next (below_box hb1) (below_next (below_next (Below.refl _ _).drew hb2) hb3)⟩
      simp [turnB]
  · have hR : putE b m.data.toList = .returned (.tuple #[.string (bs []), .int .i64 (chk b m.data.toList)]) := by simp [putE, hc]
    rw [hR]
    clear hR hl
    generalize hcc : chk b m.data.toList = c at hc ⊢
    go_enter Tryz.func165, Tryz.ntmps165
    go_wp2_with fail
    refine (check_any b m hm _).mono ?_
    rintro e w1 ⟨rfl, hb1⟩
    rw [hcc]
    go_wp2
    go_ret2
    exact ⟨rfl, below_box hb1⟩

end Go.Proofs.YtgefbgpfjbbeaaaGreatDoor
