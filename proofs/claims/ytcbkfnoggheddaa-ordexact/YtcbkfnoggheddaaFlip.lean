/- What ord.Flip and what it calls do (contracts; nothing is claimed here). -/
import Derived.Test.YtcbkfnoggheddaaRows
import Derived.Test.YtcbkfnoggheddaaBytes
import Derived.Test.YtcbkfnoggheddaaMath
namespace Go.Proofs.Ytcbkfnoggheddaa
open Go.RowKit Go.Vf

theorem info5 : (Try.prog.info? 5).map (fun i => (i.zero, i.size, i.bytes)) = some (some (.int .u8 0), 1, 1) := by kernel_rfl
theorem size5 (w : World) : (Go.sizeOf 5).run Try.prog w = .ok 1 w := by kernel_rfl

theorem flip_toNat (x : UInt8) : ((255 - x).toNat : Int) = 255 - (x.toNat : Int) := by
  have := x.toNat_lt
  rw [UInt8.toNat_sub_of_le _ _ (by rw [UInt8.le_iff_toNat_le]; have : (255 : UInt8).toNat = 255 := rfl; omega)]
  have : (255 : UInt8).toNat = 255 := rfl
  omega

set_option maxHeartbeats 400000 in
theorem flip_any (s : ByteArray) (w : World) (hs : s.size ≤ 4294967296) :
    Calls Try.prog 16 #[.string s] w fun e w' => e = .returned (.string (bs (flipL s.data.toList))) ∧ Below w.heap.size w w' := by
  have hmk : ∀ w : World, (Instr.makeSlice 39 (.int .i64 (s.size : Int)) (.int .i64 (s.size : Int))).run Try.prog w = .ok (.slice (some ⟨w.heap.size, 0, none⟩) s.size s.size) (w.alloc (.cells (madeCells #[.int .u8 0] s.size) 5)) := fun w =>
    run_make_row' (P := Try.prog) 39 5 (.int .u8 0) 1 Try.underlying39 info5 rfl .i64 .i64 s.size (by omega) (by omega) w
  have hm := BRow.made w s.size 5
  go_enter Try.func16, Try.ntmps16
  go_wp2
  go_loopw [10] (fun i wr => ∃ k : Nat, k ≤ s.size ∧ i = .int .i64 k ∧ BRow wr w.heap.size ((flipL s.data.toList).take k ++ List.replicate (s.size - k) 0) ∧ Below w.heap.size w wr) (fun i _ => s.size - (intOf i).toNat)
  case atStart => exact ⟨0, Nat.zero_le _, rfl, by simpa using hm, (Below.refl _ _).alloc (Nat.le_refl _) _⟩
  case round =>
    obtain ⟨k, hk, rfl, hrow, hbel⟩ := hrel
    have hlen : ((flipL s.data.toList).take k ++ List.replicate (s.size - k) (0 : UInt8)).length = s.size := by simp [flipL_length]; omega
    by_cases hlt : k < s.size
    · have hkl : k < (flipL s.data.toList).length := by rw [flipL_length, ← Lib.size_eq]; exact hlt
      obtain ⟨v0, hc⟩ := hrow.at_ k (by omega)
      have hf := hrow.free k (by omega)
      have hnew := hrow.set k (flipL s.data.toList)[k]
      have hsz : s.size = (flipL s.data.toList).length := by rw [flipL_length, ← Lib.size_eq]
      have HN : BRow (wr.setCell ⟨w.heap.size, k, none⟩ (.int .u8 ((255 - (s[k].toNat : Int)) % 256))) w.heap.size ((flipL s.data.toList).take (k + 1) ++ List.replicate (s.size - (k + 1)) 0) := by
        rw [hsz, ← set_fill _ _ hkl, ← hsz]
        have hx : ((flipL s.data.toList)[k].toNat : Int) = (255 - (s[k].toNat : Int)) % 256 := by
          have e : (flipL s.data.toList)[k] = 255 - s[k] := by simp [flipL]; rfl
          rw [e, flip_toNat]
          have := s[k].toNat_lt
          omega
        rw [← hx]
        exact hnew
      have HB := hbel.setCell (p := ⟨w.heap.size, k, none⟩) (Nat.le_refl _) (.int .u8 ((255 - (s[k].toNat : Int)) % 256))
      clear hrow hnew hsz hlen hm
      go_wp2
      go_roundw
      case rel => exact ⟨k + 1, by omega, by go_num, HN, HB⟩
      case measure => simp [intOf]; omega
    · have hk' : k = s.size := by omega
      subst hk'
      have hcv := run_string_row (P := Try.prog) wr 39 9 5 Try.underlying39 Try.underlying5 Try.underlying9 w.heap.size s.size s.size _ (by omega) hrow
      have hfull : List.take s.size ((flipL s.data.toList).take s.size ++ List.replicate (s.size - s.size) (0 : UInt8)) = flipL s.data.toList := by
        rw [Nat.sub_self, List.replicate_zero, List.append_nil, List.take_take, Nat.min_self, List.take_of_length_le (by rw [flipL_length, ← Lib.size_eq]; exact Nat.le_refl _)]
      rw [hfull] at hcv
      go_wp2
      go_ret
      exact ⟨rfl, hbel⟩
end Go.Proofs.Ytcbkfnoggheddaa
