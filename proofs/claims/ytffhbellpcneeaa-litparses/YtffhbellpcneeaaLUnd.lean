/- What lit's undigits does (contracts; nothing is claimed here). -/
import Derived.Test.YtffhbellpcneeaaJ7
namespace Go.Proofs.Ytffhbellpcneeaa
open Go.RowKit Go.Vf
theorem set_size' (w : World) (a : Addr) (v : Value) : (w.setCell a v).heap.size = w.heap.size := by simp [World.setCell]
theorem unhex_take (s : ByteArray) (j : Nat) (h : 2 * j + 1 < s.size) : unhex (s.data.toList.take (2 * (j + 1))) = unhex (s.data.toList.take (2 * j)) ++ [unh s[2 * j] s[2 * j + 1]] := by
  have gen : ∀ (j : Nat) (l : List UInt8) (h : 2 * j + 1 < l.length), unhex (l.take (2 * (j + 1))) = unhex (l.take (2 * j)) ++ [unh l[2 * j] l[2 * j + 1]] := by
    intro j
    induction j with
    | zero =>
      intro l h
      match l, h with
      | a :: b :: r, _ => simp [unhex]
    | succ j ih =>
      intro l h
      match l, h with
      | a :: b :: r, h =>
        have := ih r (by simp at h; omega)
        have e1 : (a :: b :: r).take (2 * (j + 1 + 1)) = a :: b :: r.take (2 * (j + 1)) := by
          rw [show 2 * (j + 1 + 1) = 2 * (j + 1) + 1 + 1 by omega]; rfl
        have e2 : (a :: b :: r).take (2 * (j + 1)) = a :: b :: r.take (2 * j) := by
          rw [show 2 * (j + 1) = 2 * j + 1 + 1 by omega]; rfl
        rw [e1, e2, unhex, unhex, this]
        rfl
  have := gen j s.data.toList (by rw [← Lib.size_eq]; exact h)
  rw [this]
  rfl
set_option maxHeartbeats 1000000 in
set_option maxRecDepth 20000 in
theorem undigits_any (s : ByteArray) (hs : s.size ≤ 65536) (he : s.size % 2 = 0) (w : World) : Calls Try.prog 71 #[.string s] w fun e w' => e = .returned (.string (bs (unhex s.data.toList))) ∧ Below w.heap.size w w' := by
  obtain ⟨N, hN⟩ : ∃ N, s.size = 2 * N := ⟨s.size / 2, by omega⟩
  have hdv : Int.tdiv (s.size : Int) 2 = (N : Int) := by rw [hN]; simp
  have hmk : ∀ w : World, (Instr.makeSlice 61 (.int .i64 (N : Int)) (.int .i64 (N : Int))).run Try.prog w = .ok (.slice (some ⟨w.heap.size, 0, none⟩) N N) (w.alloc (.cells (madeCells #[.int .u8 0] N) 5)) := fun w =>
    run_make_row' (P := Try.prog) 61 5 (.int .u8 0) 1 Try.underlying61 info5 rfl .i64 .i64 N (by omega) (by omega) w
  have hb1 := (Below.refl w.heap.size w).alloc (Nat.le_refl _) (.cells (madeCells #[.int .u8 0] N) 5)
  have hr1 := BRow.made w N 5
  have hs1 := alloc_size w (.cells (madeCells #[.int .u8 0] N) 5)
  have HN : Hid (s.size = 2 * N) := hN
  have hN2 : N ≤ 32768 := by omega
  clear hN he
  go_enter Try.func71, Try.ntmps71
  go_wp2_with fail
  generalize w.alloc (.cells (madeCells #[.int .u8 0] N) 5) = w1 at hb1 hr1 hs1 ⊢
  go_loopw [11] (fun i wr => ∃ (j : Nat), j ≤ N ∧ i = .int .i64 (j : Int) ∧ BRow wr w.heap.size (fill (unhex (s.data.toList.take (2 * j))) N) ∧ Below w.heap.size w wr ∧ w.heap.size < wr.heap.size) (fun i _ => N - (intOf i).toNat)
  case atStart => exact ⟨0, by omega, rfl, by simpa [unhex, fill] using hr1, hb1, by omega⟩
  case round =>
    clear hr1 hb1 hs1
    obtain ⟨j, hj, rfl, hr, hb, hlt1⟩ := hrel
    have hlen : (unhex (s.data.toList.take (2 * j))).length = j := by
      rw [unhex_length, List.length_take, ← Lib.size_eq, HN.out]; omega
    by_cases hlt : j < N
    · have key : ∀ m (i0 : m < s.size) (hz : m + 1 < s.size) (W : World), m = 2 * j → BRow W w.heap.size (fill (unhex (s.data.toList.take (2 * j))) N) →
          BRow (W.setCell ⟨w.heap.size, j, none⟩ (.int .u8 ((unh (s[m]'i0) (s[m + 1]'hz)).toNat : Int))) w.heap.size (fill (unhex (s.data.toList.take (2 * (j + 1)))) N) := by
        rintro m i0 hz W rfl h
        rw [unhex_take s j hz]
        exact h.push j hlen.symm hlt _ _ rfl
      have hfl : (fill (unhex (s.data.toList.take (2 * j))) N).length = N := fill_length _ _ (by omega)
      obtain ⟨v0, d0⟩ := hr.at_ j (by rw [hfl]; exact hlt)
      have f0 := hr.free j (by rw [hfl]; exact hlt)
      obtain ⟨m, hm⟩ : ∃ m, m = 2 * j := ⟨_, rfl⟩
      have hz : m + 1 < s.size := by rw [HN.out]; omega
      have i0 : m < s.size := by omega
      have hpush : ∀ (W : World), BRow W w.heap.size (fill (unhex (s.data.toList.take (2 * j))) N) → BRow (W.setCell ⟨w.heap.size, j, none⟩ (.int .u8 ((unh (s[m]'i0) (s[m + 1]'hz)).toNat : Int))) w.heap.size (fill (unhex (s.data.toList.take (2 * (j + 1)))) N) := fun W => key m i0 hz W hm
      have e2 : (2 : Int) * (j : Int) = (m : Int) := by omega
      have ho := or_unh (s[m]'i0) (s[m + 1]'hz)
      have j0 : (m : Int) < (s.size : Int) := by omega
      have j1 : (m : Int) + 1 < (s.size : Int) := by omega
      have e3 : IntKind.i64.wrap ((2 : Int) * (j : Int)) = (m : Int) := by rw [e2]; exact IntWalk.i64_in _ (by omega)
      have e5 : IntKind.i64.wrap (m : Int) = (m : Int) := IntWalk.i64_in _ (by omega)
      have e4 : IntKind.i64.wrap ((m : Int) + 1) = (m : Int) + 1 := IntWalk.i64_in _ (by omega)
      have HR : Hid (BRow wr w.heap.size (fill (unhex (s.data.toList.take (2 * j))) N)) := hr
      clear hm key hfl hr hlen
      go_wp2_with fail
      go_region_with (first | (go_at_call 86; refine (undigit_any _ _).mono ?_; rintro _ _ ⟨rfl, rfl⟩))
      all_goals
        go_wp2_with fail
        go_roundw
        case rel => exact ⟨j + 1, by omega, by simp, (hpush wr HR.out).drew, (hb.setCell (p := ⟨w.heap.size, j, none⟩) (Nat.le_refl _) _).drew, by
          show _ < (World.setCell _ _ _).heap.size
          rw [set_size']; exact hlt1⟩
        case measure => simp only [intOf]; omega
    · have hjN : j = N := by omega
      have hlist : s.data.toList.take (2 * j) = s.data.toList := List.take_of_length_le (by rw [← Lib.size_eq, HN.out]; omega)
      rw [hlist] at hr hlen
      have hfe : fill (unhex s.data.toList) N = unhex s.data.toList := by
        unfold fill
        rw [hlen, hjN]; simp
      rw [hfe] at hr
      have hcv := run_string_row (P := Try.prog) wr 61 9 5 Try.underlying61 Try.underlying5 Try.underlying9 w.heap.size N N _ (by rw [hlen, hjN]; exact Nat.le_refl _) hr
      rw [List.take_of_length_le (by rw [hlen, hjN]; exact Nat.le_refl _)] at hcv
      clear hr hlen hfe hlist hjN
      go_wp2
      go_ret
      exact ⟨rfl, hb⟩
end Go.Proofs.Ytffhbellpcneeaa
