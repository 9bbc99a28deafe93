/- Contracts and lemmas (nothing is claimed here). -/
import Derived.Test.YtgefbgpfjbbeaaaGreatDoorJ9
import Derived.BigQuiet
import Derived.Deep.QuietTactic
namespace Go.Proofs.YtgefbgpfjbbeaaaGreatDoor
open Go.RowKit Go.Vf

theorem scan_step (op : Bool) (c : UInt8) (r : List UInt8) (h1 : ¬ (op = true ∧ c = 1)) (h2 : ¬ (op = true ∧ c ≠ 255)) : scan op (c :: r) = ((scan (c == 0) r).1 + 1, (scan (c == 0) r).2) := by
  rw [scan, if_neg h1, if_neg h2]

theorem byte_eq (x : UInt8) (n : Nat) (hn : n < 256) : ((x.toNat : Int) == (n : Int)) = decide (x = UInt8.ofNat n) := by
  rw [Bool.eq_iff_iff]
  simp [← UInt8.toNat_inj, Nat.mod_eq_of_lt hn]
  omega
theorem byte_ne (x : UInt8) (n : Nat) (hn : n < 256) : ((x.toNat : Int) != (n : Int)) = decide (x ≠ UInt8.ofNat n) := by
  rw [bne, byte_eq x n hn]; simp

end Go.Proofs.YtgefbgpfjbbeaaaGreatDoor

namespace Go.Proofs.YtgefbgpfjbbeaaaGreatDoor
open Go.RowKit Go.Vf

theorem byte_neI (x : UInt8) : ((x.toNat : Int) != 255) = decide (x ≠ 255) := byte_ne x 255 (by omega)

theorem next_row (w2 : World) (h n : Nat) (s : ByteArray) (hn : n < s.size) (R : List UInt8) (hR : R = s.data.toList.take n ++ [s[n] + 1])
    (hrow : BRow w2 h (List.take 0 (List.replicate (n + 1) 0) ++ (List.take (n + 1 - 0) s.data.toList ++ List.drop (0 + min s.size (n + 1 - 0)) (List.replicate (n + 1) 0)))) :
    w2.cell? ⟨h, n, none⟩ = some (.int .u8 (s[n].toNat : Int)) ∧ w2.frozen? ⟨h, n, none⟩ = false ∧
    (convert 155 9 (.slice (some ⟨h, 0, none⟩) (n + 1) (n + 1))).run Tryz.prog (w2.setCell ⟨h, n, none⟩ (.int .u8 (((s[n].toNat : Int) + 1) % 256))) = .ok (.string (bs R)) (w2.setCell ⟨h, n, none⟩ (.int .u8 (((s[n].toNat : Int) + 1) % 256))) := by
  have hl : n < s.data.toList.length := by rw [← Lib.size_eq]; exact hn
  have e : List.take 0 (List.replicate (n + 1) (0 : UInt8)) ++ (List.take (n + 1 - 0) s.data.toList ++ List.drop (0 + min s.size (n + 1 - 0)) (List.replicate (n + 1) 0)) = s.data.toList.take (n + 1) := by
    simp; omega
  rw [e] at hrow
  have hlen : (s.data.toList.take (n + 1)).length = n + 1 := by rw [List.length_take]; omega
  refine ⟨?_, hrow.free n (by omega), ?_⟩
  · rw [hrow.cell n (by omega)]
    simp [List.getElem_take]
    rfl
  · have h2 := hrow.set n (s[n] + 1)
    have hx : ((s[n] + 1).toNat : Int) = ((s[n].toNat : Int) + 1) % 256 := by
      rw [UInt8.toNat_add]
      have : (1 : UInt8).toNat = 1 := rfl
      omega
    rw [hx] at h2
    have hc := run_string_row (P := Tryz.prog) _ 155 9 5 Tryz.underlying155 Tryz.underlying5 Tryz.underlying9 h (n + 1) (n + 1) _ (by rw [List.length_set, hlen]; exact Nat.le_refl _) h2
    rw [hc]
    have hf : List.take (n + 1) ((s.data.toList.take (n + 1)).set n (s[n] + 1)) = R := by
      rw [List.take_of_length_le (by rw [List.length_set, hlen]; exact Nat.le_refl _), hR, List.take_succ_eq_append_getElem hl, List.set_append_right n _ (by simp; omega), List.length_take, Nat.min_eq_left (Nat.le_of_lt hl), Nat.sub_self, List.set_cons_zero]
    rw [hf]

set_option maxHeartbeats 1000000 in
theorem next_any (s : ByteArray) (w : World) (hs : s.size ≤ 4294967296) :
    Calls Tryz.prog 42 #[.string s] w fun e w' => e = .returned (.tuple #[.string (bs ((nextL s.data.toList).getD [])), .bool (nextL s.data.toList).isSome]) ∧ Below w.heap.size w w' := by
  obtain ⟨R, hR⟩ : ∃ R, nextL s.data.toList = R := ⟨_, rfl⟩
  rw [hR]
  have HR : Hid (nextL s.data.toList = R) := hR
  clear hR
  go_enter Tryz.func42, Tryz.ntmps42
  go_wp2
  go_loop [9] (fun i => ∃ k : Nat, k ≤ s.size ∧ i = .int .i64 k ∧ nextL (s.data.toList.drop (s.size - k)) = none) (fun i => s.size - (intOf i).toNat)
  case atStart => exact ⟨0, Nat.zero_le _, rfl, by rw [List.drop_eq_nil_of_le (by rw [← Lib.size_eq]; omega)]; rfl⟩
  case round =>
    obtain ⟨k, hk, rfl, hno⟩ := hrel
    by_cases hlt : k < s.size
    · obtain ⟨n, hn⟩ : ∃ n, n + 1 + k = s.size := ⟨s.size - k - 1, by omega⟩
      have hnl : n < s.data.toList.length := by rw [← Lib.size_eq]; omega
      have hns : n < s.size := by omega
      have HNO : Hid (nextL (s.data.toList.drop (n + 1)) = none) := by show _ = _; rw [show n + 1 = s.size - k by omega]; exact hno
      have he : (s.size : Int) - (k : Int) = (n : Int) + 1 := by omega
      have hw0 : (n : Int) + 1 - 1 = (n : Int) := by omega
      have HN : Hid (n + 1 + k = s.size) := hn
      have hn1 : (n : Int) ≤ 4294967296 := by omega
      clear hno hn
      by_cases h0 : s[n] = 255
      · have hb : ((s[n].toNat : Int) != 255) = false := by rw [byte_neI]; simpa using h0
        have hno2 := nextL_high s.data.toList n hnl HNO.out h0
        clear h0
        go_wp2
        go_round
        case rel => exact ⟨k + 1, by omega, by go_num, by have := HN.out; rw [show s.size - (k + 1) = n by omega]; exact hno2⟩
        case measure => simp [intOf]; omega
      · have hb : ((s[n].toNat : Int) != 255) = true := by rw [byte_neI]; simpa using h0
        have hRR := nextL_last s.data.toList n hnl HNO.out h0
        have hmk : ∀ w : World, (Instr.makeSlice 155 (.int .i64 ((n : Int) + 1)) (.int .i64 ((n : Int) + 1))).run Tryz.prog w = .ok (.slice (some ⟨w.heap.size, 0, none⟩) (n + 1) (n + 1)) (w.alloc (.cells (madeCells #[.int .u8 0] (n + 1)) 5)) := fun w =>
          run_make_row' (P := Tryz.prog) 155 5 (.int .u8 0) 1 Tryz.underlying155 info5o rfl .i64 .i64 (n + 1) (by omega) (by omega) w
        have hm := BRow.made w (n + 1) 5
        have HRR : Hid (R = some (s.data.toList.take n ++ [s[n] + 1])) := by show _ = _; rw [← HR.out, hRR]; rfl
        clear hRR h0
        obtain ⟨w2, hcp, hrow2, hbel2, _⟩ := run_copy_ex (P := Tryz.prog) _ 155 9 3 5 w.heap.size (n + 1) 0 s _ (by simp) (by omega) Tryz.underlying155 size5o hm w.heap.size w ((Below.refl _ _).alloc (Nat.le_refl _) _) (Nat.le_refl _)
        rw [cutV_zero] at hcp
        obtain ⟨q1, q2, q3⟩ := next_row w2 w.heap.size n s hns _ rfl hrow2
        clear hm hrow2
        go_wp2
        go_ret2
        exact ⟨by rw [HRR.out]; rfl, hbel2.setCell (Nat.le_refl _) _⟩
    · have hk' : k = s.size := by omega
      have HRN : Hid (R = none) := by show _ = _; rw [← HR.out]; rw [hk'] at hno; simpa using hno
      clear hno hk'
      go_wp2
      go_ret2
      exact ⟨by rw [HRN.out]; rfl, Below.refl _ _⟩
end Go.Proofs.YtgefbgpfjbbeaaaGreatDoor
