/- The walk of OrdNext. -/
import Derived.Test.YtcbkfnoggheddaaReadsW
import Derived.Test.YtcbkfnoggheddaaMathB
namespace Go.Proofs.Ytcbkfnoggheddaa
open Go.RowKit Go.Vf

theorem next_none (s : ByteArray) (h : nextL s.data.toList = none) (w : World) (hs : s.size ≤ 4294967296) :
    Calls Try.prog 17 #[.string s] w fun e w' => e = .returned (.tuple #[.string (bs []), .bool false]) ∧ Below w.heap.size w w' := by
  have := next_any s w hs
  rwa [h] at this
theorem next_some (s : ByteArray) (n : List UInt8) (h : nextL s.data.toList = some n) (w : World) (hs : s.size ≤ 4294967296) :
    Calls Try.prog 17 #[.string s] w fun e w' => e = .returned (.tuple #[.string (bs n), .bool true]) ∧ Below w.heap.size w w' := by
  have := next_any s w hs
  rwa [h] at this

set_option maxHeartbeats 1000000 in
theorem nextlaw_walk (s : ByteArray) (_w0 : s.size ≤ maxLen) (t : ByteArray) (_w1 : t.size ≤ maxLen) (w : World) :
    Calls Try.prog 7 #[.string s, .string t] w fun e w' => e = .returned (.bool true) ∧ Below w.heap.size w w' := by
  clear _w0 _w1
  by_cases hbig : (1073741823 : Int) < (s.size : Int)
  · go_enter Try.func7, Try.ntmps7
    go_wp2_with fail
    go_ret
    exact ⟨rfl, Below.refl _ _⟩
  · by_cases hbig2 : (1073741823 : Int) < (t.size : Int)
    · go_enter Try.func7, Try.ntmps7
      go_wp2_with fail
      go_ret
      exact ⟨rfl, Below.refl _ _⟩
    · have hs : s.size ≤ 4294967296 := by omega
      have hs1 : s.size ≤ 17179869184 := by omega
      have ht1 : t.size ≤ 17179869184 := by omega
      have hfs : (bs (flipL s.data.toList)).size ≤ 4294967296 := by rw [bs_size, flipL_length, ← Lib.size_eq]; exact hs
      have hE : (((bs (flipL s.data.toList)).size : Int) == (s.size : Int)) = true := by rw [bs_size, flipL_length, ← Lib.size_eq]; simp
      have hF : ((bs (flipL (bs (flipL s.data.toList)).data.toList)).toList == s.toList) = true := by rw [bs_data, flipL_flipL, bs_toList, ByteArray.toList_eq]; simp
      have hnil := bs_nil_eq
      cases hR : nextL s.data.toList with
      | none =>
        have hin := begins_none s.data.toList t.data.toList hR
        have HR : Hid (nextL s.data.toList = none) := hR
        clear hR
        by_cases hA : (0 : Int) ≤ cmpL t.data.toList s.data.toList
        · have hC : beginsL t.data.toList s.data.toList = true := by rw [← hin]; simpa using hA
          clear hin
          go_enter Try.func7, Try.ntmps7
          go_wp2_with fail
          refine (next_none s HR.out _ hs).mono ?_
          rintro e w1 ⟨rfl, hb1⟩
          go_wp2_with fail
          refine (order_any _ _ _).mono ?_
          rintro e w2 ⟨rfl, rfl⟩
          go_wp2_with fail
          refine (flip_any s _ hs).mono ?_
          rintro e w3 ⟨rfl, hb3⟩
          go_wp2_with fail
          refine (begins_any t s _ ht1 hs1).mono ?_
          rintro e w4 ⟨rfl, rfl⟩
          go_wp2_with fail
          refine (flip_any _ _ hfs).mono ?_
          rintro e w5 ⟨rfl, hb5⟩
          go_wp2_with fail
          refine (awake_any _).mono ?_
          rintro e w6 ⟨rfl, hb6⟩
          go_wp2_with fail
          go_ret
          exact ⟨rfl, below_next (below_next (below_next hb1 hb3) hb5) hb6⟩
        · have hC : beginsL t.data.toList s.data.toList = false := by rw [← hin]; simpa using hA
          clear hin
          go_enter Try.func7, Try.ntmps7
          go_wp2_with fail
          refine (next_none s HR.out _ hs).mono ?_
          rintro e w1 ⟨rfl, hb1⟩
          go_wp2_with fail
          refine (order_any _ _ _).mono ?_
          rintro e w2 ⟨rfl, rfl⟩
          go_wp2_with fail
          refine (flip_any s _ hs).mono ?_
          rintro e w3 ⟨rfl, hb3⟩
          go_wp2_with fail
          refine (begins_any t s _ ht1 hs1).mono ?_
          rintro e w4 ⟨rfl, rfl⟩
          go_wp2_with fail
          refine (flip_any _ _ hfs).mono ?_
          rintro e w5 ⟨rfl, hb5⟩
          go_wp2_with fail
          refine (awake_any _).mono ?_
          rintro e w6 ⟨rfl, hb6⟩
          go_wp2_with fail
          go_ret
          exact ⟨rfl, below_next (below_next (below_next hb1 hb3) hb5) hb6⟩
      | some n =>
        have hin := begins_some s.data.toList t.data.toList n hR
        have hD : cmpL s.data.toList (bs n).data.toList < 0 := by rw [bs_data, nextL_above _ _ hR]; decide
        have HR : Hid (nextL s.data.toList = some n) := hR
        clear hR hnil
        by_cases hA : (0 : Int) ≤ cmpL t.data.toList s.data.toList
        · obtain ⟨B, hB⟩ : ∃ B, decide (cmpL t.data.toList (bs n).data.toList < 0) = B := ⟨_, rfl⟩
          have hC : beginsL t.data.toList s.data.toList = B := by rw [← hin, ← hB, bs_data]; simp [hA]
          clear hin
          cases B with
          | true =>
            have hB' : cmpL t.data.toList (bs n).data.toList < 0 := by simpa using hB
            clear hB
            go_enter Try.func7, Try.ntmps7
            go_wp2_with fail
            refine (next_some s n HR.out _ hs).mono ?_
            rintro e w1 ⟨rfl, hb1⟩
            go_wp2_with fail
            refine (order_any _ _ _).mono ?_
            rintro e w2 ⟨rfl, rfl⟩
            go_wp2_with fail
            refine (order_any _ _ _).mono ?_
            rintro e w2 ⟨rfl, rfl⟩
            go_wp2_with fail
            refine (flip_any s _ hs).mono ?_
            rintro e w3 ⟨rfl, hb3⟩
            go_wp2_with fail
            refine (begins_any t s _ ht1 hs1).mono ?_
            rintro e w4 ⟨rfl, rfl⟩
            go_wp2_with fail
            refine (order_any _ _ _).mono ?_
            rintro e w2 ⟨rfl, rfl⟩
            go_wp2_with fail
            refine (flip_any _ _ hfs).mono ?_
            rintro e w5 ⟨rfl, hb5⟩
            go_wp2_with fail
            refine (awake_any _).mono ?_
            rintro e w6 ⟨rfl, hb6⟩
            go_wp2_with fail
            go_ret
            exact ⟨rfl, below_next (below_next (below_next hb1 hb3) hb5) hb6⟩
          | false =>
            go_enter Try.func7, Try.ntmps7
            go_wp2_with fail
            refine (next_some s n HR.out _ hs).mono ?_
            rintro e w1 ⟨rfl, hb1⟩
            go_wp2_with fail
            refine (order_any _ _ _).mono ?_
            rintro e w2 ⟨rfl, rfl⟩
            go_wp2_with fail
            refine (order_any _ _ _).mono ?_
            rintro e w2 ⟨rfl, rfl⟩
            go_wp2_with fail
            refine (flip_any s _ hs).mono ?_
            rintro e w3 ⟨rfl, hb3⟩
            go_wp2_with fail
            refine (begins_any t s _ ht1 hs1).mono ?_
            rintro e w4 ⟨rfl, rfl⟩
            go_wp2_with fail
            refine (order_any _ _ _).mono ?_
            rintro e w2 ⟨rfl, rfl⟩
            go_wp2_with fail
            refine (flip_any _ _ hfs).mono ?_
            rintro e w5 ⟨rfl, hb5⟩
            go_wp2_with fail
            refine (awake_any _).mono ?_
            rintro e w6 ⟨rfl, hb6⟩
            go_wp2_with fail
            go_ret
            exact ⟨rfl, below_next (below_next (below_next hb1 hb3) hb5) hb6⟩
        · have hC : beginsL t.data.toList s.data.toList = false := by rw [← hin]; simp; intro h; exact absurd h hA
          clear hin
          go_enter Try.func7, Try.ntmps7
          go_wp2_with fail
          refine (next_some s n HR.out _ hs).mono ?_
          rintro e w1 ⟨rfl, hb1⟩
          go_wp2_with fail
          refine (order_any _ _ _).mono ?_
          rintro e w2 ⟨rfl, rfl⟩
          go_wp2_with fail
          refine (flip_any s _ hs).mono ?_
          rintro e w3 ⟨rfl, hb3⟩
          go_wp2_with fail
          refine (begins_any t s _ ht1 hs1).mono ?_
          rintro e w4 ⟨rfl, rfl⟩
          go_wp2_with fail
          refine (order_any _ _ _).mono ?_
          rintro e w2 ⟨rfl, rfl⟩
          go_wp2_with fail
          refine (flip_any _ _ hfs).mono ?_
          rintro e w5 ⟨rfl, hb5⟩
          go_wp2_with fail
          refine (awake_any _).mono ?_
          rintro e w6 ⟨rfl, hb6⟩
          go_wp2_with fail
          go_ret
          exact ⟨rfl, below_next (below_next (below_next hb1 hb3) hb5) hb6⟩
end Go.Proofs.Ytcbkfnoggheddaa
