/- What the document's Next (package dovetailref01) comes to (a contract; nothing is claimed here). -/
import Derived.Test.YtcbkfnoggheddaaRefB
namespace Go.Proofs.Ytcbkfnoggheddaa
open Go.RowKit Go.Vf

set_option maxHeartbeats 1000000 in
theorem rnext_any (s : ByteArray) (w : World) (hs : s.size ≤ 4294967296) :
    Calls Try.prog 22 #[.string s] w fun e w' => e = .returned (.tuple #[.string (bs ((nextL s.data.toList).getD [])), .bool (nextL s.data.toList).isSome]) ∧ Below w.heap.size w w' := by
  obtain ⟨R, hR⟩ : ∃ R, nextL s.data.toList = R := ⟨_, rfl⟩
  rw [hR]
  have HR : Hid (nextL s.data.toList = R) := hR
  clear hR
  go_enter Try.func22, Try.ntmps22
  go_wp2
  go_loop [4] (fun i => ∃ n : Nat, n ≤ s.size ∧ i = .int .i64 n ∧ Hid (nextL (s.data.toList.drop n) = none)) (fun i => (intOf i).toNat)
  case atStart => exact ⟨s.size, Nat.le_refl _, rfl, by show _ = _; rw [List.drop_eq_nil_of_le (by rw [← Lib.size_eq]; omega)]; rfl⟩
  case round =>
    obtain ⟨n, hn, rfl, HNO⟩ := hrel
    cases n with
    | zero =>
      have HRN : Hid (R = none) := by show _ = _; rw [← HR.out]; simpa using HNO.out
      clear HNO
      go_wp2
      go_ret2
      exact ⟨by rw [HRN.out]; rfl, Below.refl _ _⟩
    | succ n =>
      have hns : n < s.size := by omega
      have hnl : n < s.data.toList.length := by rw [← Lib.size_eq]; omega
      have hpos : (0 : Int) < ((n + 1 : Nat) : Int) := by omega
      have hw0 : ((n + 1 : Nat) : Int) - 1 = (n : Int) := by omega
      by_cases h0 : s[n] = 255
      · have hb : ((s[n].toNat : Int) == 255) = true := by have := byte_eq s[n] 255 (by omega); rw [show ((255 : Nat) : Int) = 255 from rfl] at this; rw [this]; simpa using h0
        have HNO2 : Hid (nextL (s.data.toList.drop n) = none) := nextL_high s.data.toList n hnl HNO.out h0
        clear h0 HNO
        go_wp2
        go_round
        case rel => exact ⟨n, by omega, by go_num, HNO2⟩
        case measure => simp [intOf]
      · have hb : ((s[n].toNat : Int) == 255) = false := by have := byte_eq s[n] 255 (by omega); rw [show ((255 : Nat) : Int) = 255 from rfl] at this; rw [this]; simpa using h0
        have HRR : Hid (R = some (s.data.toList.take n ++ [s[n] + 1])) := by show _ = _; rw [← HR.out]; exact nextL_last s.data.toList n hnl HNO.out h0
        have hz : (((n + 1 : Nat) : Int) == 0) = false := by rw [beq_eq_false_iff_ne]; omega
        clear h0 HNO HR
        go_wp2
        go_loopw [5, 6] (fun v i wr => ∃ k : Nat, k ≤ n + 1 ∧ i = .int .i64 k ∧ BOwn 5 wr w.heap.size v (s.data.toList.take k) ∧ Below w.heap.size w wr ∧ w.heap.size ≤ wr.heap.size) (fun _ i _ => n + 1 - (intOf i).toNat)
        case atStart => exact ⟨0, Nat.zero_le _, rfl, BOwn.nil _ _ _, Below.refl _ _, Nat.le_refl _⟩
        case round =>
          obtain ⟨k, hk, rfl, hown, hbel, hsz⟩ := hrel
          by_cases hlt : k < n + 1
          · have hks : k < s.size := by omega
            have hlen0 : (s.data.toList.take k).length ≤ 1099511627776 := by rw [List.length_take]; omega
            have HT : Hid (s.data.toList.take (k + 1) = s.data.toList.take k ++ [s[k]]) := take_snoc s k hks
            have hlt' : (k : Int) < (n : Int) + 1 := by omega
            go_wp2_with (at_builtin; refine wpList_append_byte rfl (.tmp 27) (.tmp 31) 39 rfl 5 Try.underlying39 info5 w.heap.size _ _ rfl hown s[k] _ rfl 1 rfl hlen0 hsz w.heap.size w hbel (Nat.le_refl _) ?_; intro v1 w1 hown1 hbel1 hsz1)
            go_roundw
            case rel => exact ⟨k + 1, by omega, by go_num, by rw [HT.out]; exact hown1, hbel1, hsz1⟩
            case measure => simp [intOf]; omega
          · have hk' : k = n + 1 := by omega
            subst hk'
            have hlen : (s.data.toList.take (n + 1)).length = n + 1 := by rw [List.length_take]; omega
            rcases hown.form with ⟨_, hnil⟩ | ⟨g, cap, hv, hg, hcap, hcap2, hrow⟩
            · rw [hnil] at hlen; simp at hlen
            · rw [hlen] at hv hcap
              subst hv
              have hc := hrow.cell n (by omega)
              have hc' : wr.cell? ⟨g, n, none⟩ = some (.int .u8 (s[n].toNat : Int)) := by
                rw [hc]; simp [List.getElem_take]; rfl
              have hf := hrow.free n (by omega)
              have hset := hrow.set n (s[n] + 1)
              have hx : ((s[n] + 1).toNat : Int) = ((s[n].toNat : Int) + 1) % 256 := by
                rw [UInt8.toNat_add]
                have : (1 : UInt8).toNat = 1 := rfl
                omega
              rw [hx] at hset
              have hcv := run_string_row (P := Try.prog) _ 39 9 5 Try.underlying39 Try.underlying5 Try.underlying9 g (n + 1) cap _ (by rw [List.length_set, hlen]; exact Nat.le_refl _) hset
              have hfin : List.take (n + 1) ((s.data.toList.take (n + 1)).set n (s[n] + 1)) = s.data.toList.take n ++ [s[n] + 1] := by
                rw [List.take_of_length_le (by rw [List.length_set, hlen]; exact Nat.le_refl _), List.take_succ_eq_append_getElem hnl, List.set_append_right n _ (by simp; omega), List.length_take, Nat.min_eq_left (Nat.le_of_lt hnl), Nat.sub_self, List.set_cons_zero]
              rw [hfin] at hcv
              have hge : ¬ ((n : Int) + 1) < (n : Int) + 1 := by omega
              have HB := hbel.setCell (p := ⟨g, n, none⟩) hg (.int .u8 (((s[n].toNat : Int) + 1) % 256))
              clear hc hrow hset hfin hx hown hlen
              go_wp2
              go_ret2
              exact ⟨by rw [HRR.out]; rfl, HB⟩
end Go.Proofs.Ytcbkfnoggheddaa
