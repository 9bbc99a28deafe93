/- What the document's answers (package dovetailref01) come to (contracts; nothing is claimed here). -/
import Derived.Test.YtcbkfnoggheddaaComp
import Derived.Test.YtcbkfnoggheddaaApp
namespace Go.Proofs.Ytcbkfnoggheddaa
open Go.RowKit Go.Vf

set_option maxHeartbeats 400000 in
theorem rflip_any (s : ByteArray) (w : World) (hs : s.size ≤ 4294967296) :
    Calls Try.prog 21 #[.string s] w fun e w' => e = .returned (.string (bs (flipL s.data.toList))) ∧ Below w.heap.size w w' := by
  go_enter Try.func21, Try.ntmps21
  go_wp2
  go_loopw [3, 4] (fun v i wr => ∃ k : Nat, k ≤ s.size ∧ i = .int .i64 k ∧ BOwn 5 wr w.heap.size v ((flipL s.data.toList).take k) ∧ Below w.heap.size w wr ∧ w.heap.size ≤ wr.heap.size) (fun _ i _ => s.size - (intOf i).toNat)
  case atStart => exact ⟨0, Nat.zero_le _, rfl, BOwn.nil _ _ _, Below.refl _ _, Nat.le_refl _⟩
  case round =>
    obtain ⟨k, hk, rfl, hown, hbel, hsz⟩ := hrel
    have hfl : (flipL s.data.toList).length = s.size := by rw [flipL_length, ← Lib.size_eq]
    by_cases hlt : k < s.size
    · have hlen : ((flipL s.data.toList).take k).length ≤ 1099511627776 := by rw [List.length_take]; omega
      have hx : (255 - (s[k].toNat : Int)) % 256 = ((255 - s[k]).toNat : Int) := by
        rw [flip_toNat]
        have := s[k].toNat_lt
        omega
      have HX : Hid ((255 - (s[k].toNat : Int)) % 256 = ((255 - s[k]).toNat : Int)) := hx
      have HT : Hid ((flipL s.data.toList).take (k + 1) = (flipL s.data.toList).take k ++ [255 - s[k]]) := by
        show _ = _
        rw [List.take_succ_eq_append_getElem (by omega)]
        have e : (flipL s.data.toList)[k]'(by omega) = 255 - s[k] := by simp [flipL]; rfl
        rw [e]
      clear hx
      go_wp2_with (at_builtin; refine wpList_append_byte rfl (.tmp 11) (.tmp 16) 39 rfl 5 Try.underlying39 info5 w.heap.size _ _ rfl hown (255 - s[k]) _ HX.out 1 rfl hlen hsz w.heap.size w hbel (Nat.le_refl _) ?_; intro v' w1 hown1 hbel1 hsz1)
      go_roundw
      case rel => exact ⟨k + 1, by omega, by go_num, by rw [HT.out]; exact hown1, hbel1, hsz1⟩
      case measure => simp [intOf]; omega
    · have hfull : (flipL s.data.toList).take k = flipL s.data.toList := List.take_of_length_le (by omega)
      rw [hfull] at hown
      have hcv := run_string_own (P := Try.prog) wr 39 9 5 Try.underlying39 Try.underlying5 Try.underlying9 _ _ _ hown
      clear hown hfull
      go_wp2
      go_ret
      exact ⟨rfl, hbel⟩

theorem inner_take_snoc (s : ByteArray) (k : Nat) (h : k < s.size) : inner (s.data.toList.take (k + 1)) = inner (s.data.toList.take k) ++ (if s[k] = 0 then [0, 255] else [s[k]]) := by
  rw [take_snoc s k h, inner_append]
  by_cases h0 : s[k] = 0 <;> simp [inner, h0]

theorem inner_take_len (s : ByteArray) (k : Nat) (hs : s.size ≤ 4294967296) : (inner (s.data.toList.take k)).length ≤ 1099511627770 := by
  rw [inner_length]
  have h1 := zerosL_le (s.data.toList.take k)
  have h2 : (s.data.toList.take k).length ≤ s.size := by rw [List.length_take, ← Lib.size_eq]; omega
  omega

set_option maxHeartbeats 1000000 in
theorem rinner_any (s : ByteArray) (w : World) (hs : s.size ≤ 4294967296) :
    Calls Try.prog 28 #[.string s] w fun e w' => ∃ v, e = .returned v ∧ BOwn 5 w' w.heap.size v (inner s.data.toList) ∧ Below w.heap.size w w' ∧ w.heap.size ≤ w'.heap.size := by
  go_enter Try.func28, Try.ntmps28
  go_wp2
  go_loopw [3, 4] (fun v i wr => ∃ k : Nat, k ≤ s.size ∧ i = .int .i64 k ∧ BOwn 5 wr w.heap.size v (inner (s.data.toList.take k)) ∧ Below w.heap.size w wr ∧ w.heap.size ≤ wr.heap.size) (fun _ i _ => s.size - (intOf i).toNat)
  case atStart => exact ⟨0, Nat.zero_le _, rfl, BOwn.nil _ _ _, Below.refl _ _, Nat.le_refl _⟩
  case round =>
    obtain ⟨k, hk, rfl, hown, hbel, hsz⟩ := hrel
    by_cases hlt : k < s.size
    · have hlen := inner_take_len s k hs
      have hlen0 : (inner (s.data.toList.take k)).length ≤ 1099511627776 := by omega
      have HT := inner_take_snoc s k hlt
      by_cases h0 : s[k] = 0
      · have hb : ((s[k].toNat : Int) == 0) = true := by rw [byte_zero]; simpa using h0
        rw [if_pos h0] at HT
        have HT2 : Hid (inner (s.data.toList.take (k + 1)) = inner (s.data.toList.take k) ++ [s[k]] ++ [255]) := by show _ = _; rw [HT, h0]; simp
        clear HT h0
        have hlen1 : (inner (s.data.toList.take k) ++ [s[k]]).length ≤ 1099511627776 := by rw [List.length_append]; simp; omega
        go_wp2_with (first | (at_builtin; refine wpList_append_byte rfl (.tmp 11) (.tmp 15) 39 rfl 5 Try.underlying39 info5 w.heap.size _ _ rfl hown s[k] _ rfl 1 rfl hlen0 hsz w.heap.size w hbel (Nat.le_refl _) ?_; intro v1 w1 hown1 hbel1 hsz1) | (at_builtin; refine wpList_append_byte rfl (.tmp 21) (.tmp 22) 39 rfl 5 Try.underlying39 info5 w.heap.size _ _ rfl hown1 255 _ rfl 1 rfl hlen1 hsz1 w.heap.size w hbel1 (Nat.le_refl _) ?_; intro v2 w2 hown2 hbel2 hsz2))
        go_roundw
        case rel => exact ⟨k + 1, by omega, by go_num, by rw [HT2.out]; exact hown2, hbel2, hsz2⟩
        case measure => simp [intOf]; omega
      · have hb : ((s[k].toNat : Int) == 0) = false := by rw [byte_zero]; simpa using h0
        rw [if_neg h0] at HT
        have HT2 : Hid (inner (s.data.toList.take (k + 1)) = inner (s.data.toList.take k) ++ [s[k]]) := HT
        clear HT h0
        go_wp2_with (at_builtin; refine wpList_append_byte rfl (.tmp 11) (.tmp 15) 39 rfl 5 Try.underlying39 info5 w.heap.size _ _ rfl hown s[k] _ rfl 1 rfl hlen0 hsz w.heap.size w hbel (Nat.le_refl _) ?_; intro v1 w1 hown1 hbel1 hsz1)
        go_roundw
        case rel => exact ⟨k + 1, by omega, by go_num, by rw [HT2.out]; exact hown1, hbel1, hsz1⟩
        case measure => simp [intOf]; omega
    · have hfull : s.data.toList.take k = s.data.toList := List.take_of_length_le (by rw [← Lib.size_eq]; omega)
      rw [hfull] at hown
      clear hfull
      go_wp2
      go_ret
      exact ⟨_, rfl, hown, hbel, hsz⟩

set_option maxHeartbeats 400000 in
theorem resc_any (s : ByteArray) (w : World) (hs : s.size ≤ 4294967296) :
    Calls Try.prog 19 #[.string s] w fun e w' => e = .returned (.string (bs (esc s.data.toList))) ∧ Below w.heap.size w w' := by
  have hlen := inner_take_len s s.size hs
  rw [List.take_of_length_le (by rw [← Lib.size_eq]; exact Nat.le_refl _)] at hlen
  have hlen0 : (inner s.data.toList).length ≤ 1099511627776 := by omega
  have hlen1 : (inner s.data.toList ++ [0]).length ≤ 1099511627776 := by rw [List.length_append]; simp; omega
  have HE : Hid (inner s.data.toList ++ [0] ++ [1] = esc s.data.toList) := by show _ = _; simp [esc]
  go_enter Try.func19, Try.ntmps19
  go_wp2_with fail
  refine (rinner_any s _ hs).mono ?_
  rintro e w0 ⟨v0, rfl, hown0, hbel0, hsz0⟩
  go_wp2_with (first | (at_builtin; refine wpList_append_byte rfl (.tmp 6) (.tmp 7) 39 rfl 5 Try.underlying39 info5 w.heap.size _ _ rfl hown0 0 _ rfl 1 rfl hlen0 hsz0 w.heap.size w hbel0 (Nat.le_refl _) ?_; intro v1 w1 hown1 hbel1 hsz1) | (at_builtin; refine wpList_append_byte rfl (.tmp 9) (.tmp 10) 39 rfl 5 Try.underlying39 info5 w.heap.size _ _ rfl hown1 1 _ rfl 1 rfl hlen1 hsz1 w.heap.size w hbel1 (Nat.le_refl _) ?_; intro v2 w2 hown2 hbel2 hsz2; rw [HE.out] at hown2; have hcv := run_string_own (P := Try.prog) w2 39 9 5 Try.underlying39 Try.underlying5 Try.underlying9 _ _ _ hown2))
  go_ret
  exact ⟨rfl, hbel2⟩
end Go.Proofs.Ytcbkfnoggheddaa
