/- The walk of OrdEscapes. -/
import Derived.Test.YtcbkfnoggheddaaReadsW
import Derived.Test.YtcbkfnoggheddaaMathB
namespace Go.Proofs.Ytcbkfnoggheddaa
open Go.RowKit Go.Vf

theorem app_data (a b : ByteArray) : (a ++ b).data.toList = a.data.toList ++ b.data.toList := by
  simp
theorem app_size (a b : ByteArray) : (a ++ b).size = a.size + b.size := by
  rw [Lib.size_eq, app_data, List.length_append, ← Lib.size_eq, ← Lib.size_eq]

theorem esc_length (l : List UInt8) : (esc l).length ≤ 2 * l.length + 2 := by
  have := zerosL_le l
  simp [esc, inner_length]
  omega

/-- What is escaped is read back, with anything ahead of it and behind. -/
theorem dec_mid (y a x : List UInt8) : dec ((y ++ esc a ++ x).drop y.length) = ((esc a).length, some a) := by
  have e : (y ++ esc a ++ x).drop y.length = inner a ++ 0 :: 1 :: x := by simp [esc]
  rw [e, dec_esc]
  simp [esc]

theorem unescape_head (a : List UInt8) (x : ByteArray) (h : (esc a).length + x.size ≤ 4294967296) (w : World) :
    Calls Try.prog 12 #[.string (bs (esc a) ++ x), .int .i64 0] w fun e w' => e = .returned (.tuple #[.string (bs a), .int .i64 ((esc a).length : Nat), .int .i64 0]) ∧ Below w.heap.size w w' := by
  have hd := dec_mid [] a x.data.toList
  have := unescape_ok (bs (esc a) ++ x) 0 (Nat.zero_le _) (esc a).length a (by rw [app_data, bs_data]; simpa using hd) w (by rw [app_size, bs_size]; exact h)
  rwa [show ((0 : Nat) : Int) = 0 from rfl, Int.zero_add] at this

theorem unescape_mid (y : ByteArray) (a : List UInt8) (x : ByteArray) (h : y.size + (esc a).length + x.size ≤ 4294967296) (w : World) :
    Calls Try.prog 12 #[.string (y ++ bs (esc a) ++ x), .int .i64 (y.size : Int)] w fun e w' => e = .returned (.tuple #[.string (bs a), .int .i64 ((y.size : Int) + ((esc a).length : Int)), .int .i64 0]) ∧ Below w.heap.size w w' := by
  have hd := dec_mid y.data.toList a x.data.toList
  exact unescape_ok (y ++ bs (esc a) ++ x) y.size (by rw [app_size, app_size]; omega) (esc a).length a (by rw [app_data, app_data, bs_data, Lib.size_eq]; exact hd) w (by rw [app_size, app_size, bs_size]; exact h)

theorem order_is (a b : ByteArray) (c : Int) (h : cmpL a.data.toList b.data.toList = c) (w : World) :
    Calls Try.prog 13 #[.string a, .string b] w fun e w' => e = .returned (.int .i64 c) ∧ w = w' := by
  have := order_any a b w
  rwa [h] at this
theorem compare_is (a b : ByteArray) (c : Int) (h : cmpL a.data.toList b.data.toList = c) (w : World) (ha : a.size ≤ 17179869184) (hb : b.size ≤ 17179869184) :
    Calls Try.prog 14 #[.string a, .string b] w fun e w' => e = .returned (.int .i64 c) ∧ Below w.heap.size w w' := by
  have := compare_any a b w ha hb
  rwa [h] at this
theorem begins_is (a b : ByteArray) (c : Bool) (h : beginsL a.data.toList b.data.toList = c) (w : World) (ha : a.size ≤ 17179869184) (hb : b.size ≤ 17179869184) :
    Calls Try.prog 15 #[.string a, .string b] w fun e w' => e = .returned (.bool c) ∧ w = w' := by
  have := begins_any a b w ha hb
  rwa [h] at this
theorem flip_bs (t : List UInt8) (w : World) (h : t.length ≤ 4294967296) :
    Calls Try.prog 16 #[.string (bs t)] w fun e w' => e = .returned (.string (bs (flipL t))) ∧ Below w.heap.size w w' := by
  have := flip_any (bs t) w (by rw [bs_size]; exact h)
  rwa [bs_data] at this

/-- Too long an argument: nothing is asked. -/
theorem escapes_big (a b x y : ByteArray) (h : 268435455 < a.size ∨ 268435455 < b.size ∨ 268435455 < x.size ∨ 268435455 < y.size) (w : World) :
    Calls Try.prog 5 #[.string a, .string b, .string x, .string y] w fun e w' => e = .returned (.bool true) ∧ Below w.heap.size w w' := by
  by_cases h1 : (268435455 : Int) < (a.size : Int)
  · go_enter Try.func5, Try.ntmps5
    go_wp2_with fail
    go_ret
    exact ⟨rfl, Below.refl _ _⟩
  · by_cases h2 : (268435455 : Int) < (b.size : Int)
    · go_enter Try.func5, Try.ntmps5
      go_wp2_with fail
      go_ret
      exact ⟨rfl, Below.refl _ _⟩
    · by_cases h3 : (268435455 : Int) < (x.size : Int)
      · go_enter Try.func5, Try.ntmps5
        go_wp2_with fail
        go_ret
        exact ⟨rfl, Below.refl _ _⟩
      · have h4 : (268435455 : Int) < (y.size : Int) := by omega
        go_enter Try.func5, Try.ntmps5
        go_wp2_with fail
        go_ret
        exact ⟨rfl, Below.refl _ _⟩

set_option maxHeartbeats 1000000 in
theorem escapes_same (a x y : ByteArray) (h1 : ¬ (268435455 : Int) < (a.size : Int)) (h3 : ¬ (268435455 : Int) < (x.size : Int)) (h4 : ¬ (268435455 : Int) < (y.size : Int)) (w : World) :
    Calls Try.prog 5 #[.string a, .string a, .string x, .string y] w fun e w' => e = .returned (.bool true) ∧ Below w.heap.size w w' := by
  have hla := esc_length a.data.toList
  rw [← Lib.size_eq] at hla
  have hsa : a.size ≤ 4294967296 := by omega
  have hp := bs_size (esc a.data.toList)
  have hpi : ((esc a.data.toList).length : Int) ≤ 536870912 := by omega
  have hq1 : (bs a.data.toList) = a := bs_of a
  have hc : cmpL a.data.toList a.data.toList = 0 := cmpL_same _
  go_enter Try.func5, Try.ntmps5
  go_wp2_with fail
  refine (escape_any a _ hsa).mono ?_
  rintro e w1 ⟨rfl, hb1⟩
  go_wp2_with fail
  refine (escape_any a _ hsa).mono ?_
  rintro e w2 ⟨rfl, hb2⟩
  go_wp2_with fail
  refine (unescape_head a.data.toList x (by omega) _).mono ?_
  rintro e w3 ⟨rfl, hb3⟩
  go_wp2_with fail
  refine (unescape_mid y a.data.toList x (by omega) _).mono ?_
  rintro e w4 ⟨rfl, hb4⟩
  go_wp2_with fail
  refine (order_is _ _ 0 (cmpL_same _) _).mono ?_
  rintro e w5 ⟨rfl, rfl⟩
  go_wp2_with fail
  refine (compare_is _ _ 0 (cmpL_same _) _ (by omega) (by omega)).mono ?_
  rintro e w6 ⟨rfl, hb6⟩
  go_wp2_with fail
  refine (compare_is _ _ 0 (cmpL_same _) _ (by omega) (by omega)).mono ?_
  rintro e w7 ⟨rfl, hb7⟩
  go_wp2_with fail
  refine (awake_any _).mono ?_
  rintro e w8 ⟨rfl, hb8⟩
  go_wp2_with fail
  go_ret
  exact ⟨rfl, below_next (below_next (below_next (below_next (below_next (below_next hb1 hb2) hb3) hb4) hb6) hb7) hb8⟩

set_option maxHeartbeats 1000000 in
theorem escapes_other (a b x y : ByteArray) (h1 : ¬ (268435455 : Int) < (a.size : Int)) (h2 : ¬ (268435455 : Int) < (b.size : Int)) (h3 : ¬ (268435455 : Int) < (x.size : Int)) (h4 : ¬ (268435455 : Int) < (y.size : Int))
    (hab : a.data.toList ≠ b.data.toList) (c : Int) (hc : cmpL a.data.toList b.data.toList = c) (w : World) :
    Calls Try.prog 5 #[.string a, .string b, .string x, .string y] w fun e w' => e = .returned (.bool true) ∧ Below w.heap.size w w' := by
  have hla := esc_length a.data.toList
  rw [← Lib.size_eq] at hla
  have hlb := esc_length b.data.toList
  rw [← Lib.size_eq] at hlb
  have hsa : a.size ≤ 4294967296 := by omega
  have hsb : b.size ≤ 4294967296 := by omega
  have hpa := bs_size (esc a.data.toList)
  have hpb := bs_size (esc b.data.toList)
  have hpai : ((esc a.data.toList).length : Int) ≤ 536870912 := by omega
  have hpbi : ((esc b.data.toList).length : Int) ≤ 536870912 := by omega
  have hqa : (bs a.data.toList) = a := bs_of a
  have hqb : (bs b.data.toList) = b := bs_of b
  have hne : (a.toList == b.toList) = false := by rw [ByteArray.toList_eq, ByteArray.toList_eq]; simpa using hab
  have hparts := esc_parts a.data.toList b.data.toList hab
  rw [hc] at hparts
  have hne2 : ((bs (esc a.data.toList)).toList == (bs (esc b.data.toList)).toList) = false := by
    rw [bs_toList, bs_toList]
    rw [beq_eq_false_iff_ne]
    intro e
    have := hparts.cmp
    rw [e, cmpL_same] at this
    rw [← this] at hc
    exact hab (cmpL_eq.1 hc)
  have hcn : cmpL b.data.toList a.data.toList = -c := by rw [cmpL_neg, hc]
  have hw : IntKind.i64.wrap (-c) = -c := by
    rcases cmpL_three a.data.toList b.data.toList with h | h | h <;> rw [hc] at h <;> subst h <;> exact IntWalk.i64_in _ (by omega)
  have HC : Hid (cmpL a.data.toList b.data.toList = c) := hc
  have HCN : Hid (cmpL b.data.toList a.data.toList = -c) := hcn
  have hcb : -1 ≤ c ∧ c ≤ 1 := by
    rcases cmpL_three a.data.toList b.data.toList with h | h | h <;> rw [hc] at h <;> omega
  have hfa : (bs (flipL (esc a.data.toList))).size = (esc a.data.toList).length := by rw [bs_size, flipL_length]
  have hfb : (bs (flipL (esc b.data.toList))).size = (esc b.data.toList).length := by rw [bs_size, flipL_length]
  obtain ⟨hcb1, hcb2⟩ := hcb
  clear hc hcn hab
  go_enter Try.func5, Try.ntmps5
  go_wp2_with fail
  refine (escape_any a _ hsa).mono ?_
  rintro e w1 ⟨rfl, hb1⟩
  go_wp2_with fail
  refine (escape_any b _ hsb).mono ?_
  rintro e w2 ⟨rfl, hb2⟩
  go_wp2_with fail
  refine (unescape_head a.data.toList x (by omega) _).mono ?_
  rintro e w3 ⟨rfl, hb3⟩
  go_wp2_with fail
  refine (unescape_mid y b.data.toList x (by omega) _).mono ?_
  rintro e w4 ⟨rfl, hb4⟩
  go_wp2_with fail
  refine (order_is _ _ c HC.out _).mono ?_
  rintro e w5 ⟨rfl, rfl⟩
  go_wp2_with fail
  refine (compare_is _ _ c HC.out _ (by omega) (by omega)).mono ?_
  rintro e w6 ⟨rfl, hb6⟩
  go_wp2_with fail
  refine (compare_is _ _ (-c) HCN.out _ (by omega) (by omega)).mono ?_
  rintro e w7 ⟨rfl, hb7⟩
  go_wp2_with fail
  refine (begins_is _ _ false (by rw [bs_data, bs_data]; exact hparts.not_begins.1) _ (by omega) (by omega)).mono ?_
  rintro e w8 ⟨rfl, rfl⟩
  go_wp2_with fail
  refine (begins_is _ _ false (by rw [bs_data, bs_data]; exact hparts.not_begins.2) _ (by omega) (by omega)).mono ?_
  rintro e w8 ⟨rfl, rfl⟩
  go_wp2_with fail
  refine (order_is _ _ c (by rw [app_data, app_data, bs_data, bs_data]; exact (hparts.behind _ _).cmp) _).mono ?_
  rintro e w8 ⟨rfl, rfl⟩
  go_wp2_with fail
  refine (flip_bs _ _ (by omega)).mono ?_
  rintro e w9 ⟨rfl, hb9⟩
  go_wp2_with fail
  refine (flip_bs _ _ (by omega)).mono ?_
  rintro e w10 ⟨rfl, hb10⟩
  go_wp2_with fail
  refine (order_is _ _ (-c) (by rw [app_data, app_data, bs_data, bs_data]; exact (hparts.flip.behind _ _).cmp) _).mono ?_
  rintro e w11 ⟨rfl, rfl⟩
  go_wp2_with fail
  refine (awake_any _).mono ?_
  rintro e w12 ⟨rfl, hb12⟩
  go_wp2_with fail
  go_ret
  exact ⟨rfl, below_next (below_next (below_next (below_next (below_next (below_next (below_next (below_next hb1 hb2) hb3) hb4) hb6) hb7) hb9) hb10) hb12⟩

theorem escapes_walk (a : ByteArray) (_w0 : a.size ≤ maxLen) (b : ByteArray) (_w1 : b.size ≤ maxLen) (x : ByteArray) (_w2 : x.size ≤ maxLen) (y : ByteArray) (_w3 : y.size ≤ maxLen) (w : World) :
    Calls Try.prog 5 #[.string a, .string b, .string x, .string y] w fun e w' => e = .returned (.bool true) ∧ Below w.heap.size w w' := by
  by_cases hbig : 268435455 < a.size ∨ 268435455 < b.size ∨ 268435455 < x.size ∨ 268435455 < y.size
  · exact escapes_big a b x y hbig w
  · by_cases hab : a.data.toList = b.data.toList
    · have e : a = b := data_inj hab
      subst e
      exact escapes_same a x y (by omega) (by omega) (by omega) w
    · exact escapes_other a b x y (by omega) (by omega) (by omega) (by omega) hab _ rfl w
end Go.Proofs.Ytcbkfnoggheddaa
