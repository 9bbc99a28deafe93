/- Contracts and lemmas (nothing is claimed here). -/
import Derived.Test.YtgefbgpfjbbeaaaGreatDoorProg
import Derived.Test.YtgefbgpfjbbeaaaGreatDoorJ4
import Derived.Deep.RegionLaw
namespace Go.Proofs.YtgefbgpfjbbeaaaGreatDoor
open Go.RowKit Go.Vf

theorem info5o : (Tryz.prog.info? 5).map (fun i => (i.zero, i.size, i.bytes)) = some (some (.int .u8 0), 1, 1) := by kernel_rfl
theorem size5o (w : World) : (Go.sizeOf 5).run Tryz.prog w = .ok 1 w := by kernel_rfl

theorem flip_toNatO (x : UInt8) : ((255 - x).toNat : Int) = 255 - (x.toNat : Int) := by
  have := x.toNat_lt
  rw [UInt8.toNat_sub_of_le _ _ (by rw [UInt8.le_iff_toNat_le]; have : (255 : UInt8).toNat = 255 := rfl; omega)]
  have : (255 : UInt8).toNat = 255 := rfl
  omega

set_option maxHeartbeats 400000 in
theorem flip_any (s : ByteArray) (w : World) (hs : s.size ≤ 4294967296) :
    Calls Tryz.prog 46 #[.string s] w fun e w' => e = .returned (.string (bs (flipL s.data.toList))) ∧ Below w.heap.size w w' := by
  have hmk : ∀ w : World, (Instr.makeSlice 155 (.int .i64 (s.size : Int)) (.int .i64 (s.size : Int))).run Tryz.prog w = .ok (.slice (some ⟨w.heap.size, 0, none⟩) s.size s.size) (w.alloc (.cells (madeCells #[.int .u8 0] s.size) 5)) := fun w =>
    run_make_row' (P := Tryz.prog) 155 5 (.int .u8 0) 1 Tryz.underlying155 info5o rfl .i64 .i64 s.size (by omega) (by omega) w
  have hm := BRow.made w s.size 5
  go_enter Tryz.func46, Tryz.ntmps46
  go_wp2
  go_loopw [10] (fun i wr => ∃ k : Nat, k ≤ s.size ∧ i = .int .i64 k ∧ BRow wr w.heap.size ((flipL s.data.toList).take k ++ List.replicate (s.size - k) 0) ∧ Below w.heap.size w wr) (fun i _ => s.size - (intOf i).toNat)
  case atStart => exact ⟨0, Nat.zero_le _, rfl, by simpa using hm, (Below.refl _ _).alloc (Nat.le_refl _) _⟩
  case round =>
    obtain ⟨k, hk, rfl, hrow, hbel⟩ := hrel
    have hlen : ((flipL s.data.toList).take k ++ List.replicate (s.size - k) (0 : UInt8)).length = s.size := by simp [flipL_length]; omega
    by_cases hlt : k < s.size
    · have hkl : k < (flipL s.data.toList).length := by rw [flipL_length, ← Lib.size_eq]; exact hlt
      obtain ⟨v0, hc⟩ := hrow.at_ k (by omega)
      have hf := hrow.free k (by omega)
      have hnew := hrow.set k (flipL s.data.toList)[k]
      have hsz : s.size = (flipL s.data.toList).length := by rw [flipL_length, ← Lib.size_eq]
      have HN : BRow (wr.setCell ⟨w.heap.size, k, none⟩ (.int .u8 ((255 - (s[k].toNat : Int)) % 256))) w.heap.size ((flipL s.data.toList).take (k + 1) ++ List.replicate (s.size - (k + 1)) 0) := by
        rw [hsz, ← set_fill _ _ hkl, ← hsz]
        have hx : ((flipL s.data.toList)[k].toNat : Int) = (255 - (s[k].toNat : Int)) % 256 := by
          have e : (flipL s.data.toList)[k] = 255 - s[k] := by simp [flipL]; rfl
          rw [e, flip_toNatO]
          have := s[k].toNat_lt
          omega
        rw [← hx]
        exact hnew
      have HB := hbel.setCell (p := ⟨w.heap.size, k, none⟩) (Nat.le_refl _) (.int .u8 ((255 - (s[k].toNat : Int)) % 256))
      clear hrow hnew hsz hlen hm
      go_wp2
      go_roundw
      case rel => exact ⟨k + 1, by omega, by go_num, HN, HB⟩
      case measure => simp [intOf]; omega
    · have hk' : k = s.size := by omega
      subst hk'
      have hcv := run_string_row (P := Tryz.prog) wr 155 9 5 Tryz.underlying155 Tryz.underlying5 Tryz.underlying9 w.heap.size s.size s.size _ (by omega) hrow
      have hfull : List.take s.size ((flipL s.data.toList).take s.size ++ List.replicate (s.size - s.size) (0 : UInt8)) = flipL s.data.toList := by
        rw [Nat.sub_self, List.replicate_zero, List.append_nil, List.take_take, Nat.min_self, List.take_of_length_le (by rw [flipL_length, ← Lib.size_eq]; exact Nat.le_refl _)]
      rw [hfull] at hcv
      go_wp2
      go_ret
      exact ⟨rfl, hbel⟩
end Go.Proofs.YtgefbgpfjbbeaaaGreatDoor

namespace Go.Proofs.YtgefbgpfjbbeaaaGreatDoor
open Go.RowKit Go.Vf

theorem take_snoc (s : ByteArray) (k : Nat) (h : k < s.size) : s.data.toList.take (k + 1) = s.data.toList.take k ++ [s[k]] := by
  rw [List.take_succ_eq_append_getElem (by simpa using h)]; rfl

theorem byte_zero (x : UInt8) : ((x.toNat : Int) == 0) = decide (x = 0) := by
  rw [Bool.eq_iff_iff]; simp [← UInt8.toNat_inj]

set_option maxHeartbeats 400000 in
theorem zeros_any (s : ByteArray) (w : World) (hs : s.size ≤ 4294967296) :
    Calls Tryz.prog 67 #[.string s] w fun e w' => e = .returned (.int .i64 (zerosL s.data.toList : Nat)) ∧ w = w' := by
  go_enter Tryz.func67, Tryz.ntmps67
  go_wp2
  go_loop [3, 7] (fun n i => ∃ k : Nat, k ≤ s.size ∧ i = .int .i64 k ∧ n = .int .i64 (zerosL (s.data.toList.take k) : Nat)) (fun _ i => s.size - (intOf i).toNat)
  case atStart => exact ⟨0, Nat.zero_le _, rfl, rfl⟩
  case round =>
    obtain ⟨k, hk, rfl, rfl⟩ := hrel
    have hz := zerosL_le (s.data.toList.take k)
    have hl : (s.data.toList.take k).length ≤ k := List.length_take_le _ _
    by_cases hlt : k < s.size
    · have HS : Hid (zerosL (s.data.toList.take (k + 1)) = zerosL (s.data.toList.take k) + if s[k] = 0 then 1 else 0) := by rw [take_snoc s k hlt]; exact zerosL_snoc _ _
      by_cases h0 : s[k] = 0
      · have hb : ((s[k].toNat : Int) == 0) = true := by rw [byte_zero]; simpa using h0
        have HS2 : Hid (zerosL (s.data.toList.take (k + 1)) = zerosL (s.data.toList.take k) + 1) := by have := HS.out; rw [if_pos h0] at this; exact this
        clear HS h0
        go_wp2
        go_round
        case rel => exact ⟨k + 1, by omega, by go_num, by rw [HS2.out]; go_num⟩
        case measure => simp [intOf]; omega
      · have hb : ((s[k].toNat : Int) == 0) = false := by rw [byte_zero]; simpa using h0
        have HS2 : Hid (zerosL (s.data.toList.take (k + 1)) = zerosL (s.data.toList.take k)) := by have := HS.out; rw [if_neg h0] at this; exact this
        clear HS h0
        go_wp2
        go_round
        case rel => exact ⟨k + 1, by omega, by go_num, by rw [HS2.out]⟩
        case measure => simp [intOf]; omega
    · have hk' : k = s.size := by omega
      have HF : Hid (s.data.toList.take k = s.data.toList) := List.take_of_length_le (by rw [← Lib.size_eq]; omega)
      clear hk'
      go_wp2
      go_ret
      exact ⟨by rw [HF.out]; rfl, rfl⟩

set_option maxHeartbeats 1000000 in
theorem escape_any (s : ByteArray) (w : World) (hs : s.size ≤ 4294967296) :
    Calls Tryz.prog 45 #[.string s] w fun e w' => e = .returned (.string (bs (esc s.data.toList))) ∧ Below w.heap.size w w' := by
  obtain ⟨N, hN⟩ : ∃ N, N = s.size + zerosL s.data.toList + 2 := ⟨_, rfl⟩
  have hz := zerosL_le s.data.toList
  rw [← Lib.size_eq] at hz
  have hmk : ∀ w : World, (Instr.makeSlice 155 (.int .i64 ((s.size : Int) + (zerosL s.data.toList : Int) + 2)) (.int .i64 ((s.size : Int) + (zerosL s.data.toList : Int) + 2))).run Tryz.prog w = .ok (.slice (some ⟨w.heap.size, 0, none⟩) N N) (w.alloc (.cells (madeCells #[.int .u8 0] N) 5)) := fun w => by
    have h := run_make_row' (P := Tryz.prog) 155 5 (.int .u8 0) 1 Tryz.underlying155 info5o rfl .i64 .i64 N (by omega) (by omega) w
    rwa [show (N : Int) = (s.size : Int) + (zerosL s.data.toList : Int) + 2 by omega] at h
  have hm := BRow.made w N 5
  have HN : Hid (N = s.size + zerosL s.data.toList + 2) := hN
  have hN1 : N ≤ 8589934594 := by omega
  clear hN
  go_enter Tryz.func45, Tryz.ntmps45
  go_wp2_with (go_at_call 67; refine (zeros_any s _ hs).mono ?_; rintro e w' ⟨rfl, rfl⟩)
  have HI : (inner s.data.toList).length + 2 = N := by rw [inner_length, HN.out, ← Lib.size_eq]
  go_loopw [4, 5, 16] (fun n f i wr => ∃ (k fr : Nat) (acc : List UInt8), k ≤ s.size ∧ i = .int .i64 k ∧ f = .int .i64 fr ∧ n = .int .i64 (acc.length : Nat) ∧ EscInv s.data.toList k fr acc ∧ BRow wr w.heap.size (fill acc N) ∧ Below w.heap.size w wr) (fun _ _ i _ => s.size - (intOf i).toNat)
  case atStart => exact ⟨0, 0, [], Nat.zero_le _, rfl, rfl, rfl, EscInv.zero _, by rw [fill_nil]; exact hm, (Below.refl _ _).alloc (Nat.le_refl _) _⟩
  case round =>
    obtain ⟨k, fr, acc, hk, rfl, rfl, rfl, hinv, hrow, hbel⟩ := hrel
    have hfr : fr ≤ k := hinv.1
    have hlen := hinv.length (by rw [← Lib.size_eq]; exact hk)
    have hle := inner_take_le s.data.toList k
    have hn : acc.length ≤ N := by omega
    have hcut : ∀ W, (Instr.slice 155 (.slice (some ⟨w.heap.size, 0, none⟩) N N) (some (.int .i64 (acc.length : Int))) none none).run Tryz.prog W = .ok (cutV w.heap.size N acc.length) W := fun W => run_cut W 155 5 Tryz.underlying155 size5o w.heap.size N acc.length hn
    clear hm hmk
    by_cases hlt : k < s.size
    · have hkl : k < s.data.toList.length := by rw [← Lib.size_eq]; exact hlt
      by_cases h0 : s[k] = 0
      · have hb : ((s[k].toNat : Int) == 0) = true := by rw [byte_zero]; simpa using h0
        have hinv2 := hinv.null hkl h0
        clear h0
        have hw1 : IntKind.i64.wrap ((k : Int) + 1) = (k : Int) + 1 := IntWalk.i64_in _ ⟨by omega, by omega⟩
        have hf1 : (fr : Int) ≤ (k : Int) + 1 := by omega
        have hf2 : (k : Int) + 1 ≤ (s.size : Int) := by omega
        obtain ⟨m, hm⟩ : ∃ m, m = k + 1 - fr := ⟨_, rfl⟩
        have hts : (s.extract fr (k + 1)).size = m := by rw [Lib.size_eq, Lib.extract_data]; simp; omega
        obtain ⟨acc2, ha2⟩ : ∃ acc2, acc2 = acc ++ (s.extract fr (k + 1)).data.toList := ⟨_, rfl⟩
        have hl2 : acc2.length = acc.length + m := by rw [ha2, List.length_append, ← Lib.size_eq, hts]
        have hlen3 := hinv2.length (by omega)
        have hle3 := inner_take_le s.data.toList (k + 1)
        have hinv3 : EscInv s.data.toList (k + 1) (k + 1) (acc2 ++ [255]) := by rw [ha2, Lib.extract_data]; exact hinv2
        have hlen4 := hinv3.length (by omega)
        simp only [List.length_append, List.length_singleton] at hlen4
        have hfit : acc.length + m ≤ N := by omega
        have hn2 : acc.length + m < N := by omega
        have hw2 : IntKind.i64.wrap ((acc.length : Int) + (m : Int)) = ((acc.length + m : Nat) : Int) := by rw [IntWalk.i64_in _ ⟨by omega, by omega⟩]; omega
        have HT : Hid ((s.extract fr (k + 1)).size = m) := hts
        have HA : Hid (acc2 = acc ++ (s.extract fr (k + 1)).data.toList) := ha2
        have HL : Hid (acc2.length = acc.length + m) := hl2
        have hkm : m ≤ k + 1 := by omega
        clear hts ha2 hl2 hm hlen3 hle3 hlen4 hinv2 hlen hle hinv
        go_wp2
        go_region_law (refine step_copy_fill rfl (.tmp 26) (.tmp 31) 155 9 rfl 5 Tryz.underlying155 size5o w.heap.size N acc (by simp [Act.eval, Act.put]) (s.extract fr (k + 1)) (by simp [Act.eval, Act.put]) m HT.out acc2 HA.out hfit hrow.drew w.heap.size w hbel.drew (Nat.le_refl _) ?_; intro w2 hrow2 hbel2 HS2)
        have hl2' := fill_length acc2 N (by rw [HL.out]; omega)
        obtain ⟨v0, hc⟩ := hrow2.at_ (acc.length + m) (by omega)
        have hf := hrow2.free (acc.length + m) (by omega)
        have hnew := hrow2.push (acc.length + m) HL.out.symm hn2 255 255 rfl
        have HB := hbel2.setCell (p := ⟨w.heap.size, acc.length + m, none⟩) (Nat.le_refl _) (.int .u8 255)
        clear hrow2 hbel2 hrow hbel hl2'
        go_wp2
        go_roundw
        case rel => exact ⟨k + 1, k + 1, acc2 ++ [255], by omega, by go_num, by go_num, by rw [List.length_append, HL.out]; go_num, hinv3, hnew, HB⟩
        case measure => simp [intOf]; omega
      · have hb : ((s[k].toNat : Int) == 0) = false := by rw [byte_zero]; simpa using h0
        have hinv2 := hinv.other hkl h0
        clear h0 hlen hle hinv
        go_wp2
        go_roundw
        case rel => exact ⟨k + 1, fr, acc, by omega, by go_num, rfl, rfl, hinv2, hrow, hbel⟩
        case measure => simp [intOf]; omega
    · have hk' : k = s.data.toList.length := by rw [← Lib.size_eq]; omega
      rw [hk'] at hinv
      have hend := hinv.done
      have hf1 : (fr : Int) ≤ (s.size : Int) := by omega
      obtain ⟨m, hm⟩ : ∃ m, m = s.size - fr := ⟨_, rfl⟩
      have hts : (s.extract fr s.size).size = m := by rw [Lib.size_eq, Lib.extract_data]; simp; omega
      have hacc : inner s.data.toList = acc ++ (s.extract fr s.size).data.toList := by
        rw [← hend, Lib.extract_data, List.take_of_length_le (by simp)]
      have hl2 : (inner s.data.toList).length = acc.length + m := by rw [hacc, List.length_append, ← Lib.size_eq, hts]
      have hfit : acc.length + m ≤ N := by omega
      have hn2 : acc.length + m + 2 = N := by omega
      have hw2 : IntKind.i64.wrap ((acc.length : Int) + (m : Int)) = ((acc.length + m : Nat) : Int) := by rw [IntWalk.i64_in _ ⟨by omega, by omega⟩]; omega
      have HT : Hid ((s.extract fr s.size).size = m) := hts
      have HA : Hid (inner s.data.toList = acc ++ (s.extract fr s.size).data.toList) := hacc
      have HL : Hid ((inner s.data.toList).length = acc.length + m) := hl2
      have HN2 : Hid (acc.length + m + 2 = N) := hn2
      have hn3 : acc.length + m + 1 < N := by omega
      clear hts hacc hl2 hm hlen hle hinv hend hk' hn2 HI
      go_wp2
      go_region_law (refine step_copy_fill rfl (.tmp 45) (.tmp 48) 155 9 rfl 5 Tryz.underlying155 size5o w.heap.size N acc (by simp [Act.eval, Act.put]) (s.extract fr s.size) (by simp [Act.eval, Act.put]) m HT.out (inner s.data.toList) HA.out hfit hrow.drew w.heap.size w hbel.drew (Nat.le_refl _) ?_; intro w2 hrow2 hbel2 HS2)
      have hll := fill_length (inner s.data.toList) N (by rw [HL.out]; omega)
      obtain ⟨v0, hc⟩ := hrow2.at_ (acc.length + m) (by omega)
      have hf := hrow2.free (acc.length + m) (by omega)
      have hr3 := hrow2.push (acc.length + m) HL.out.symm (by omega) 0 0 rfl
      have hb3 := hbel2.setCell (p := ⟨w.heap.size, acc.length + m, none⟩) (Nat.le_refl _) (.int .u8 0)
      have hl3 : (inner s.data.toList ++ [0]).length = acc.length + m + 1 := by rw [List.length_append, HL.out]; rfl
      have hll3 := fill_length (inner s.data.toList ++ [0]) N (by omega)
      obtain ⟨v1, hc3⟩ := hr3.at_ (acc.length + m + 1) (by omega)
      have hf3 := hr3.free (acc.length + m + 1) (by omega)
      have hr4 := hr3.push (acc.length + m + 1) hl3.symm (by omega) 1 1 rfl
      have hb4 := hb3.setCell (p := ⟨w.heap.size, acc.length + m + 1, none⟩) (Nat.le_refl _) (.int .u8 1)
      have hl4 : (inner s.data.toList ++ [0] ++ [1]).length = N := by rw [List.length_append, hl3, ← HN2.out]; rfl
      have hcv := run_string_row (P := Tryz.prog) _ 155 9 5 Tryz.underlying155 Tryz.underlying5 Tryz.underlying9 w.heap.size N N _ (by rw [fill_length _ _ (by omega)]; exact Nat.le_refl _) hr4
      have hfull : List.take N (fill (inner s.data.toList ++ [0] ++ [1]) N) = esc s.data.toList := by
        have h := fill_take (inner s.data.toList ++ [0] ++ [1]) N
        rw [hl4] at h
        rw [h]; simp [esc]
      rw [hfull] at hcv
      clear hrow2 hbel2 hrow hbel hll hll3 hl3 hl4 hfull hr3 hr4 hb3
      go_wp2
      go_ret
      exact ⟨rfl, hb4⟩
end Go.Proofs.YtgefbgpfjbbeaaaGreatDoor
