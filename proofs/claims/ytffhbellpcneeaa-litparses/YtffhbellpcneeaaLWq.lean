/- What lit's writeDigits and writeQuoted do (contracts; nothing is claimed here). -/
import Derived.Test.YtffhbellpcneeaaLWr
namespace Go.Proofs.Ytffhbellpcneeaa
open Go.RowKit Go.Vf
theorem flat_take (f : UInt8 → List UInt8) (s : ByteArray) (j : Nat) (hj : j < s.size) : (s.data.toList.take (j + 1)).flatMap f = (s.data.toList.take j).flatMap f ++ f s[j] := by
  have hl : j < s.data.toList.length := by rw [← Lib.size_eq]; exact hj
  rw [List.take_succ_eq_append_getElem hl, List.flatMap_append]
  simp
  rfl
theorem flat_le (f : UInt8 → List UInt8) (s : ByteArray) (j : Nat) : ((s.data.toList.take j).flatMap f).length ≤ (s.data.toList.flatMap f).length := by
  have := congrArg (fun l => (l.flatMap f).length) (List.take_append_drop j s.data.toList)
  simp only [List.flatMap_append, List.length_append] at this
  omega
theorem flat_all (f : UInt8 → List UInt8) (s : ByteArray) (j : Nat) (hj : ¬ j < s.size) : (s.data.toList.take j).flatMap f = s.data.toList.flatMap f := by
  rw [List.take_of_length_le (by rw [← Lib.size_eq]; omega)]

set_option maxHeartbeats 1000000 in
theorem writeDigits_lit (P base : Nat) (acc : List UInt8) (s : ByteArray) (hs : s.size ≤ 65536) (w : World) (h : Pr w P base acc) :
    Calls Try.prog 65 #[.pointer (some ⟨P, 0, none⟩), .string s] w (WrE P base acc (s.data.toList.flatMap hex2) w) := by
  go_enter Try.func65, Try.ntmps65
  go_wp2_with fail
  go_loopw [7] (fun i wr => ∃ j : Nat, j ≤ s.size ∧ i = .int .i64 (j : Int) ∧ Pr wr P base (acc ++ (s.data.toList.take j).flatMap hex2) ∧ Below P w wr) (fun i _ => s.size - (intOf i).toNat)
  case atStart => exact ⟨0, Nat.zero_le _, rfl, by simpa using h, Below.refl _ _⟩
  case round =>
    clear h
    obtain ⟨j, hj, rfl, hpr, hb⟩ := hrel
    by_cases hlt : j < s.size
    · have hd := digits_any s[j] wr
      have hft := flat_take hex2 s j hlt
      have hfl := flat_le hex2 s (j + 1)
      have hw2 := fun w' (h' : Pr w' P base (acc ++ (s.data.toList.take j).flatMap hex2)) => write_any P base _ (bs (hex2 s[j])) (by rw [bs_size]; simp [hex2]) w' h'
      simp only [bs_data] at hw2
      rw [hft] at hfl
      have HFT : Hid _ := hft
      generalize bs (hex2 s[j]) = X at *
      generalize hex2 s[j] = x at *
      generalize (s.data.toList.take j).flatMap hex2 = A at *
      clear hft
      go_wp2_with fail
      refine hd.mono ?_
      rintro _ w1 ⟨rfl, hb1⟩
      have hpr1 := hpr.keep hb1
      have hbP : Below P w w1 := hb.trans (hb1.mono (by have := hpr.lt; have := hpr.le; omega))
      have hw3 := hw2 w1 hpr1
      clear hw2 hd
      go_wp2_with fail
      refine hw3.mono ?_
      rintro e w2 hE
      rcases hE.cases with ⟨_, rfl, hb2, hp2⟩ | ⟨hbad, rfl, hb2⟩
      · go_wp2_with fail
        go_roundw
        case rel => exact ⟨j + 1, by omega, by simp, by rw [HFT.out, ← List.append_assoc]; exact hp2, hbP.trans hb2⟩
        case measure => simp only [intOf]; omega
      · refine ⟨rfl, WrE.no (hbP.trans hb2) ?_⟩
        simp only [List.length_append] at hbad hfl
        omega
    · rw [flat_all hex2 s j hlt] at hpr
      have HP : Hid _ := hpr
      clear hpr
      go_wp2_with fail
      go_end0
      exact WrE.ok hb HP.out
set_option maxHeartbeats 1000000 in
theorem writeQuoted_lit (q : UInt8) (P base : Nat) (acc : List UInt8) (s : ByteArray) (hs : s.size ≤ 65536) (w : World) (h : Pr w P base acc) :
    Calls Try.prog 66 #[.pointer (some ⟨P, 0, none⟩), .string s, .int .u8 (q.toNat : Int)] w (WrE P base acc (q :: (s.data.toList.flatMap (spelt q) ++ [q])) w) := by
  have hcv := run_string_cells (P := Try.prog) w 61 9 5 Try.underlying61 Try.underlying5 Try.underlying9 [q] #[.int .u8 q.toNat] rfl
  have hb1 := (Below.refl w.heap.size w).alloc (Nat.le_refl _) (.cells #[.int .u8 q.toNat] 5)
  have hlt1 := h.lt
  have hle1 := h.le
  have hp1 := h.keep hb1
  have hwq := fun acc' w' (h' : Pr w' P base acc') => write_any P base acc' (bs [q]) (by rw [bs_size]; simp) w' h'
  simp only [bs_data] at hwq
  have hwr := hwq acc _ hp1
  generalize bs [q] = AR at *
  have hbP : Below P w _ := hb1.mono (by omega)
  clear h hb1
  go_enter Try.func66, Try.ntmps66
  go_wp2_with fail
  generalize w.alloc (.cells #[.int .u8 q.toNat] 5) = w1 at *
  refine hwr.mono ?_
  rintro e w2 hE
  rcases hE.cases with ⟨_, rfl, hb2, hp2⟩ | ⟨hbad, rfl, hb2⟩
  · have hbP2 := hbP.trans hb2
    clear hwr hE hp1
    go_wp2_with fail
    go_loopw [16] (fun i wr => ∃ j : Nat, j ≤ s.size ∧ i = .int .i64 (j : Int) ∧ Pr wr P base (acc ++ [q] ++ (s.data.toList.take j).flatMap (spelt q)) ∧ Below P w wr) (fun i _ => s.size - (intOf i).toNat)
    case atStart => exact ⟨0, Nat.zero_le _, rfl, by simpa using hp2, hbP2⟩
    case round =>
      clear hp2 hbP2 hbP hb2
      obtain ⟨j, hj, rfl, hpr, hb⟩ := hrel
      by_cases hlt : j < s.size
      · have hd := spelt_any q s[j] wr
        have hft := flat_take (spelt q) s j hlt
        have hfl := flat_le (spelt q) s (j + 1)
        have hw2 := fun w' (h' : Pr w' P base (acc ++ [q] ++ (s.data.toList.take j).flatMap (spelt q))) => write_any P base _ (bs (spelt q s[j])) (by rw [bs_size]; have := spelt_le q s[j]; omega) w' h'
        simp only [bs_data] at hw2
        rw [hft] at hfl
        have HFT : Hid _ := hft
        generalize bs (spelt q s[j]) = X at *
        generalize spelt q s[j] = x at *
        generalize (s.data.toList.take j).flatMap (spelt q) = A at *
        clear hft hwq
        go_wp2_with fail
        refine hd.mono ?_
        rintro _ w3 ⟨rfl, hb3⟩
        have hpr1 := hpr.keep hb3
        have hbP : Below P w w3 := hb.trans (hb3.mono (by have := hpr.lt; have := hpr.le; omega))
        have hw3 := hw2 w3 hpr1
        clear hw2 hd
        go_wp2_with fail
        refine hw3.mono ?_
        rintro e w4 hE
        rcases hE.cases with ⟨_, rfl, hb4, hp4⟩ | ⟨hbad, rfl, hb4⟩
        · go_wp2_with fail
          go_roundw
          case rel => exact ⟨j + 1, by omega, by simp, by rw [HFT.out, ← List.append_assoc]; exact hp4, hbP.trans hb4⟩
          case measure => simp only [intOf]; omega
        · refine ⟨rfl, WrE.no (hbP.trans hb4) ?_⟩
          simp only [List.length_append, List.length_cons, List.length_nil] at hbad hfl ⊢
          omega
      · rw [flat_all (spelt q) s j hlt] at hpr
        have hw5 := hwq _ wr hpr
        clear hwq hpr
        go_wp2_with fail
        refine hw5.mono ?_
        rintro e w3 hE
        rcases hE.cases with ⟨_, rfl, hb4, hp4⟩ | ⟨hbad, rfl, hb4⟩
        · go_wp2_with fail
          go_end0
          exact WrE.ok (hb.trans hb4) (by simpa using hp4)
        · refine ⟨rfl, WrE.no (hb.trans hb4) ?_⟩
          simp only [List.length_append, List.length_cons, List.length_nil] at hbad ⊢
          omega
  · refine ⟨rfl, WrE.no (hbP.trans hb2) ?_⟩
    simp only [List.length_append, List.length_cons, List.length_nil] at hbad ⊢
    omega
end Go.Proofs.Ytffhbellpcneeaa
