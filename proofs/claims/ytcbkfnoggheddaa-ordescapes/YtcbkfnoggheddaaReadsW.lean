/- The walk of OrdReads. -/
import Derived.Test.YtcbkfnoggheddaaAwake
import Derived.Deep.RegionHeld
namespace Go.Proofs.Ytcbkfnoggheddaa
open Go.RowKit Go.Vf

theorem escape_bs (t : List UInt8) (w : World) (h : t.length ≤ 4294967296) :
    Calls Try.prog 11 #[.string (bs t)] w fun e w' => e = .returned (.string (bs (esc t))) ∧ Below w.heap.size w w' := by
  have := escape_any (bs t) w (by rw [bs_size]; exact h)
  rwa [bs_data] at this

theorem bs_nil_eq : (bs []).toList.isEmpty = true := by rw [bs_toList]; rfl

set_option maxHeartbeats 400000 in
theorem reads_ok (s : ByteArray) (k n : Nat) (t : List UInt8) (hbig : ¬ (2147483647 : Int) < (s.size : Int)) (hk : k ≤ s.size) (hs : s.size ≤ 4294967296) (hn1 : (k : Int) + (n : Int) ≤ (s.size : Int)) (ht : t.length ≤ 4294967296)
    (h1 : ¬ (k : Int) < 0) (_h2 : ¬ (s.size : Int) < (k : Int)) (heq : ((bs (esc t)).toList == (s.extract k (k + n)).toList) = true) (HD : Hid (dec (s.data.toList.drop k) = (n, some t))) (w : World) :
    Calls Try.prog 6 #[.string s, .int .i64 (k : Int)] w fun e w' => e = .returned (.bool true) ∧ Below w.heap.size w w' := by
  have htn : ((k : Int) + (n : Int)).toNat = k + n := by omega
  have hn2 : (0 : Int) ≤ (k : Int) + (n : Int) := by omega
  have hn3 : (k : Int) ≤ (k : Int) + (n : Int) := by omega
  go_enter Try.func6, Try.ntmps6
  go_wp2_with fail
  refine (unescape_ok s k hk n t HD.out _ hs).mono ?_
  rintro e w1 ⟨rfl, hb1⟩
  go_wp2_with fail
  go_region_held (fun _ => True) (trivial) (first | (go_at_call 11; refine (escape_bs t _ ht).mono ?_; rintro e w2 ⟨rfl, hb2⟩) | (go_at_call 8; refine (awake_any _).mono ?_; rintro e w3 ⟨rfl, hb3⟩))
  all_goals go_wp2_with fail
  all_goals go_ret
  all_goals exact ⟨rfl, below_next (below_next hb1.drew hb2) hb3⟩

set_option maxHeartbeats 1000000 in
theorem reads_walk (s : ByteArray) (_w0 : s.size ≤ maxLen) (a : Int) (_w1 : (Lit.int .i64 a).wf = true) (w : World) :
    Calls Try.prog 6 #[.string s, .int .i64 a] w fun e w' => e = .returned (.bool true) ∧ Below w.heap.size w w' := by
  by_cases hbig : (2147483647 : Int) < (s.size : Int)
  · go_enter Try.func6, Try.ntmps6
    go_wp2_with fail
    go_ret
    exact ⟨rfl, Below.refl _ _⟩
  · have hs : s.size ≤ 4294967296 := by omega
    have hnil := bs_nil_eq
    by_cases h1 : a < 0
    · go_enter Try.func6, Try.ntmps6
      go_wp2_with fail
      refine (unescape_arg s a (.inl h1) _).mono ?_
      rintro e w1 ⟨rfl, hb1⟩
      go_wp2_with fail
      refine (awake_any _).mono ?_
      rintro e w2 ⟨rfl, hb2⟩
      go_wp2_with fail
      go_ret
      exact ⟨rfl, below_next hb1 hb2⟩
    · by_cases h2 : (s.size : Int) < a
      · go_enter Try.func6, Try.ntmps6
        go_wp2_with fail
        refine (unescape_arg s a (.inr h2) _).mono ?_
        rintro e w1 ⟨rfl, hb1⟩
        go_wp2_with fail
        refine (awake_any _).mono ?_
        rintro e w2 ⟨rfl, hb2⟩
        go_wp2_with fail
        go_ret
        exact ⟨rfl, below_next hb1 hb2⟩
      · obtain ⟨k, rfl⟩ := Int.eq_ofNat_of_zero_le (show 0 ≤ a by omega)
        have hk : k ≤ s.size := by omega
        have hle := dec_le (s.data.toList.drop k)
        obtain ⟨⟨n, o⟩, hd⟩ : ∃ r, dec (s.data.toList.drop k) = r := ⟨_, rfl⟩
        rw [hd] at hle
        simp only [List.length_drop, ← Lib.size_eq] at hle
        have hn1 : (k : Int) + (n : Int) ≤ (s.size : Int) := by omega
        have hn0 : (k : Int) ≤ (k : Int) + (n : Int) := by omega
        clear hle _w0 _w1
        cases o with
        | none =>
          have HD : Hid (dec (s.data.toList.drop k) = (n, none)) := hd
          clear hd
          go_enter Try.func6, Try.ntmps6
          go_wp2_with fail
          refine (unescape_bad s k hk n HD.out _ hs).mono ?_
          rintro e w1 ⟨rfl, hb1⟩
          go_wp2_with fail
          refine (awake_any _).mono ?_
          rintro e w2 ⟨rfl, hb2⟩
          go_wp2_with fail
          go_ret
          exact ⟨rfl, below_next hb1 hb2⟩
        | some t =>
          have heq : ((bs (esc t)).toList == (s.extract k (k + n)).toList) = true := by
            obtain ⟨r, hr, hn⟩ := dec_some hd
            rw [bs_toList, Lib.extract_toList, hr, show k + n - k = (esc t).length by simp [esc, hn], beq_iff_eq]
            have : inner t ++ 0 :: 1 :: r = esc t ++ r := by simp [esc]
            rw [this]; simp
          have ht : t.length ≤ 4294967296 := by
            obtain ⟨r, hr, hn⟩ := dec_some hd
            have := length_inner_ge t
            omega
          exact reads_ok s k n t hbig hk hs hn1 ht h1 h2 heq hd w
end Go.Proofs.Ytcbkfnoggheddaa
