/- What the document's answer for Check, Small and Compare does (contracts; nothing is claimed here). -/
import Derived.Test.YtdmdnhlmfailaaaMathP
namespace Go.Proofs.Ytdmdnhlmfailaaa
open Go.RowKit Go.Vf

set_option maxHeartbeats 400000 in
theorem rcheck_any (b : Bool) (m : ByteArray) (hm : m.size ≤ 17179869184) (w : World) :
    Calls Try.prog 21 #[numV b m] w fun e w' => e = .returned (.int .i64 (chk b m.data.toList)) ∧ Below w.heap.size w w' := by
  have hl : m.data.toList.length = m.size := (Lib.size_eq m).symm
  have hbel := (Below.refl w.heap.size w).alloc (Nat.le_refl _) (.cells #[.bool b, .string m] 26)
  by_cases h1 : 255 < m.size
  · have hR : chk b m.data.toList = 21 := by simp [chk, hl, h1]
    rw [hR]
    go_enter Try.func21, Try.ntmps21
    go_wp2
    go_ret
    exact ⟨rfl, hbel⟩
  · by_cases h2 : m.size = 0
    · have hn : m.data.toList = [] := List.eq_nil_of_length_eq_zero (by omega)
      have he : m.toList.isEmpty = true := by rw [ByteArray.toList_eq, hn]; rfl
      rw [hn]
      clear hn hl
      cases b
      all_goals
        go_enter Try.func21, Try.ntmps21
        go_wp2
        go_ret
        exact ⟨rfl, hbel⟩
    · have he : m.toList.isEmpty = false := by
        rw [ByteArray.toList_eq]
        cases h : m.data.toList with
        | nil => rw [h] at hl; exact absurd hl.symm h2
        | cons x r => rfl
      have h0 : 0 < m.size := by omega
      obtain ⟨r, hd⟩ : ∃ r, m.data.toList = m[0] :: r := ⟨_, (List.drop_zero (l := m.data.toList)).symm.trans (drop_at m 0 h0)⟩
      by_cases h3 : m[0] = 0
      · have hR : chk b m.data.toList = 20 := by
          have h4 : ¬ 255 < m.data.toList.length := by omega
          rw [hd] at h4 ⊢
          simp only [chk, h4, if_false]
          simp [h3]
        have hx : (m[0].toNat : Int) = 0 := by rw [h3]; rfl
        rw [hR]
        clear hR h3 hd
        go_enter Try.func21, Try.ntmps21
        go_wp2
        go_ret
        exact ⟨rfl, hbel⟩
      · have hR : chk b m.data.toList = 0 := by
          have h4 : ¬ 255 < m.data.toList.length := by omega
          rw [hd] at h4 ⊢
          simp only [chk, h4, if_false]
          simp [h3]
        have hx : ¬ (m[0].toNat : Int) = 0 := fun h => h3 (UInt8.toNat_inj.1 (by simpa using h))
        rw [hR]
        clear hR h3 hd
        go_enter Try.func21, Try.ntmps21
        go_wp2
        go_ret
        exact ⟨rfl, hbel⟩

set_option maxHeartbeats 1000000 in
set_option maxRecDepth 20000 in
theorem rsmall_any (b : Bool) (m : ByteArray) (hm : m.size ≤ 17179869184) (w : World) :
    Calls Try.prog 23 #[numV b m] w fun e w' => e = smallE (smallOf b m.data.toList) ∧ Below w.heap.size w w' := by
  have hl : m.data.toList.length = m.size := (Lib.size_eq m).symm
  by_cases hc : chk b m.data.toList = 0
  · by_cases h8 : 8 < m.size
    · have hR : smallE (smallOf b m.data.toList) = .returned (.tuple #[.int .i64 0, .bool false]) := by simp [smallOf, smallE, hl, h8]
      rw [hR]
      clear hR hl
      go_enter Try.func23, Try.ntmps23
      go_wp2_with fail
      refine (rcheck_any b m hm _).mono ?_
      rintro e w1 ⟨rfl, hb1⟩
      obtain ⟨hc0, hc1, hc2⟩ := box_num hb1 (h := w.heap.size) (v0 := .bool b) (v1 := .string m) ⟨by simp, by simp, by simp⟩
      rw [hc]
      clear hc
      go_wp2
      go_ret2
      exact ⟨rfl, below_box hb1⟩
    · have hlt := hval_lt m.data.toList
      have hV : hval m.data.toList ≤ 18446744073709551615 := by
        have h9 : 256 ^ m.data.toList.length ≤ 256 ^ 8 := Nat.pow_le_pow_right (by decide) (by omega)
        rw [show (256 : Nat) ^ 8 = 18446744073709551616 by decide] at h9
        omega
      have h8' : ¬ 8 < m.data.toList.length := by omega
      have hpos : b = true → 0 < hval m.data.toList := by rintro rfl; exact chk_pos hc
      obtain ⟨X, hX⟩ : ∃ X, hval m.data.toList = X := ⟨_, rfl⟩
      have hS : smallOf b m.data.toList = if b then (if X ≤ 9223372036854775808 then some (-(X : Int)) else none) else if X ≤ 9223372036854775807 then some (X : Int) else none := by
        simp only [smallOf, hc, hX, ne_eq, not_true_eq_false, h8', or_self, if_false]
      rw [hX] at hV hlt hpos
      clear hlt h8'
      cases b
      · clear hpos
        by_cases hx : X ≤ 9223372036854775807
        · have hR : smallE (smallOf false m.data.toList) = .returned (.tuple #[.int .i64 (X : Int), .bool true]) := by rw [hS]; simp [hx, smallE]
          rw [hR]
          clear hR
          go_enter Try.func23, Try.ntmps23
          go_wp2_with fail
          refine (rcheck_any _ m hm _).mono ?_
          rintro e w1 ⟨rfl, hb1⟩
          obtain ⟨hc0, hc1, hc2⟩ := box_num hb1 (h := w.heap.size) (v0 := .bool false) (v1 := .string m) ⟨by simp, by simp, by simp⟩
          rw [hc]
          clear hc
          go_wp2
          go_loopw [5, 6] (fun x i wr => ∃ k : Nat, k ≤ m.size ∧ i = .int .i64 k ∧ x = .int .u64 (hval (m.data.toList.take k) : Int) ∧ w1 = wr) (fun _ i _ => m.size - (intOf i).toNat)
          case atStart => exact ⟨0, Nat.zero_le _, rfl, rfl, rfl⟩
          case round =>
            obtain ⟨k, hk, rfl, rfl, rfl⟩ := hrel
            by_cases hlt2 : k < m.size
            · have hb := m[k].toNat_lt
              obtain ⟨hB, HS⟩ := small_step m k hlt2 (by omega)
              generalize hval (m.data.toList.take k) = x at hB HS ⊢
              go_wp2
              go_roundw
              case rel => exact ⟨k + 1, by omega, by go_num, by rw [HS.out]; go_num, trivial⟩
              case measure => simp [intOf]; omega
            · have hfull : m.data.toList.take k = m.data.toList := List.take_of_length_le (by omega)
              rw [hfull, hX]
              have hw : wrap64 (X : Int) = (X : Int) := by unfold wrap64; omega
              have hz1 : decide ((X : Int) < 9223372036854775808) = true := by simp only [decide_eq_true_eq]; omega
              clear hx
              go_wp2
              go_ret2
              exact ⟨congrArg (fun z => Ending.returned (Value.tuple #[.int .i64 z, .bool true])) hw, below_box hb1⟩
        · have hw : wrap64 (X : Int) = (X : Int) - 18446744073709551616 := by unfold wrap64; omega
          have hd : decide ((X : Int) - 18446744073709551616 < 0) = true := by simp; omega
          have hR : smallE (smallOf false m.data.toList) = .returned (.tuple #[.int .i64 0, .bool false]) := by rw [hS]; simp [hx, smallE]
          rw [hR]
          clear hR
          go_enter Try.func23, Try.ntmps23
          go_wp2_with fail
          refine (rcheck_any _ m hm _).mono ?_
          rintro e w1 ⟨rfl, hb1⟩
          obtain ⟨hc0, hc1, hc2⟩ := box_num hb1 (h := w.heap.size) (v0 := .bool false) (v1 := .string m) ⟨by simp, by simp, by simp⟩
          rw [hc]
          clear hc
          go_wp2
          go_loopw [5, 6] (fun x i wr => ∃ k : Nat, k ≤ m.size ∧ i = .int .i64 k ∧ x = .int .u64 (hval (m.data.toList.take k) : Int) ∧ w1 = wr) (fun _ i _ => m.size - (intOf i).toNat)
          case atStart => exact ⟨0, Nat.zero_le _, rfl, rfl, rfl⟩
          case round =>
            obtain ⟨k, hk, rfl, rfl, rfl⟩ := hrel
            by_cases hlt2 : k < m.size
            · have hb := m[k].toNat_lt
              obtain ⟨hB, HS⟩ := small_step m k hlt2 (by omega)
              generalize hval (m.data.toList.take k) = x at hB HS ⊢
              go_wp2
              go_roundw
              case rel => exact ⟨k + 1, by omega, by go_num, by rw [HS.out]; go_num, trivial⟩
              case measure => simp [intOf]; omega
            · have hfull : m.data.toList.take k = m.data.toList := List.take_of_length_le (by omega)
              rw [hfull, hX]
              have hz1 : decide ((X : Int) < 9223372036854775808) = false := by simp only [decide_eq_false_iff_not]; omega
              clear hx
              go_wp2
              go_ret2
              exact ⟨rfl, below_box hb1⟩
      · have hp := hpos rfl
        clear hpos
        have hn : IntKind.u64.wrap (-(X : Int)) = 18446744073709551616 - (X : Int) := by rw [u64_wrap]; omega
        by_cases hx : X ≤ 9223372036854775808
        · have hw : wrap64 (18446744073709551616 - (X : Int)) = -(X : Int) := by unfold wrap64; omega
          have hd : decide (-(X : Int) < 0) = true := by simp; omega
          have hR : smallE (smallOf true m.data.toList) = .returned (.tuple #[.int .i64 (-(X : Int)), .bool true]) := by rw [hS]; simp [hx, smallE]
          rw [hR]
          clear hR
          go_enter Try.func23, Try.ntmps23
          go_wp2_with fail
          refine (rcheck_any _ m hm _).mono ?_
          rintro e w1 ⟨rfl, hb1⟩
          obtain ⟨hc0, hc1, hc2⟩ := box_num hb1 (h := w.heap.size) (v0 := .bool true) (v1 := .string m) ⟨by simp, by simp, by simp⟩
          rw [hc]
          clear hc
          go_wp2
          go_loopw [5, 6] (fun x i wr => ∃ k : Nat, k ≤ m.size ∧ i = .int .i64 k ∧ x = .int .u64 (hval (m.data.toList.take k) : Int) ∧ w1 = wr) (fun _ i _ => m.size - (intOf i).toNat)
          case atStart => exact ⟨0, Nat.zero_le _, rfl, rfl, rfl⟩
          case round =>
            obtain ⟨k, hk, rfl, rfl, rfl⟩ := hrel
            by_cases hlt2 : k < m.size
            · have hb := m[k].toNat_lt
              obtain ⟨hB, HS⟩ := small_step m k hlt2 (by omega)
              generalize hval (m.data.toList.take k) = x at hB HS ⊢
              go_wp2
              go_roundw
              case rel => exact ⟨k + 1, by omega, by go_num, by rw [HS.out]; go_num, trivial⟩
              case measure => simp [intOf]; omega
            · have hfull : m.data.toList.take k = m.data.toList := List.take_of_length_le (by omega)
              rw [hfull, hX]
              go_wp2
              go_ret2
              exact ⟨by rw [← hw]; rfl, below_box hb1⟩
        · have hw : wrap64 (18446744073709551616 - (X : Int)) = 18446744073709551616 - (X : Int) := by unfold wrap64; omega
          have hd : decide (18446744073709551616 - (X : Int) < 0) = false := by simp; omega
          have hR : smallE (smallOf true m.data.toList) = .returned (.tuple #[.int .i64 0, .bool false]) := by rw [hS]; simp [hx, smallE]
          rw [hR]
          clear hR
          go_enter Try.func23, Try.ntmps23
          go_wp2_with fail
          refine (rcheck_any _ m hm _).mono ?_
          rintro e w1 ⟨rfl, hb1⟩
          obtain ⟨hc0, hc1, hc2⟩ := box_num hb1 (h := w.heap.size) (v0 := .bool true) (v1 := .string m) ⟨by simp, by simp, by simp⟩
          rw [hc]
          clear hc
          go_wp2
          go_loopw [5, 6] (fun x i wr => ∃ k : Nat, k ≤ m.size ∧ i = .int .i64 k ∧ x = .int .u64 (hval (m.data.toList.take k) : Int) ∧ w1 = wr) (fun _ i _ => m.size - (intOf i).toNat)
          case atStart => exact ⟨0, Nat.zero_le _, rfl, rfl, rfl⟩
          case round =>
            obtain ⟨k, hk, rfl, rfl, rfl⟩ := hrel
            by_cases hlt2 : k < m.size
            · have hb := m[k].toNat_lt
              obtain ⟨hB, HS⟩ := small_step m k hlt2 (by omega)
              generalize hval (m.data.toList.take k) = x at hB HS ⊢
              go_wp2
              go_roundw
              case rel => exact ⟨k + 1, by omega, by go_num, by rw [HS.out]; go_num, trivial⟩
              case measure => simp [intOf]; omega
            · have hfull : m.data.toList.take k = m.data.toList := List.take_of_length_le (by omega)
              rw [hfull, hX]
              go_wp2
              go_ret2
              exact ⟨rfl, below_box hb1⟩
  · have hR : smallE (smallOf b m.data.toList) = .returned (.tuple #[.int .i64 0, .bool false]) := by simp [smallOf, smallE, hc]
    rw [hR]
    clear hR hl
    generalize hcc : chk b m.data.toList = c at hc ⊢
    go_enter Try.func23, Try.ntmps23
    go_wp2_with fail
    refine (rcheck_any b m hm _).mono ?_
    rintro e w1 ⟨rfl, hb1⟩
    rw [hcc]
    go_wp2
    go_ret2
    exact ⟨rfl, below_box hb1⟩

theorem sgn_rng (a b : Int) : -1 ≤ sgn a b ∧ sgn a b ≤ 1 := by unfold sgn; repeat' split <;> omega
theorem magC_rng (a b : List UInt8) : -1 ≤ magC a b ∧ magC a b ≤ 1 := by
  unfold magC
  split
  · rcases cmpL_three a b with h | h | h <;> omega
  · exact sgn_rng _ _

set_option maxHeartbeats 1000000 in
theorem rmag_any (a b : ByteArray) (w : World) (_ha : a.size ≤ 17179869184) (hb : b.size ≤ 17179869184) :
    Calls Try.prog 54 #[.string a, .string b] w fun e w' => e = .returned (.int .i64 (magC a.data.toList b.data.toList)) ∧ Below w.heap.size w w' := by
  have hal : a.data.toList.length = a.size := (Lib.size_eq a).symm
  have hbl : b.data.toList.length = b.size := (Lib.size_eq b).symm
  by_cases h1 : a.size < b.size
  · have hR : magC a.data.toList b.data.toList = -1 := by
      unfold magC
      rw [hal, hbl, if_neg (by rw [sgn_eq]; omega), sgn_lt (by omega)]
    rw [hR]
    go_enter Try.func54, Try.ntmps54
    go_wp2
    go_ret
    exact ⟨rfl, Below.refl _ _⟩
  by_cases h2 : b.size < a.size
  · have hR : magC a.data.toList b.data.toList = 1 := by
      unfold magC
      rw [hal, hbl, if_neg (by rw [sgn_eq]; omega), sgn_gt (by omega)]
    rw [hR]
    go_enter Try.func54, Try.ntmps54
    go_wp2
    go_ret
    exact ⟨rfl, Below.refl _ _⟩
  have hR : magC a.data.toList b.data.toList = cmpL a.data.toList b.data.toList := by
    unfold magC
    rw [hal, hbl, if_pos (by rw [sgn_eq]; omega)]
  rw [hR]
  generalize hC : cmpL a.data.toList b.data.toList = R
  have HC : Hid (cmpL a.data.toList b.data.toList = R) := hC
  clear hR hC
  go_enter Try.func54, Try.ntmps54
  go_wp2
  go_loopw [5] (fun i wr => ∃ k : Nat, k ≤ a.size ∧ i = .int .i64 k ∧ Hid (cmpL (a.data.toList.drop k) (b.data.toList.drop k) = R) ∧ Below w.heap.size w wr) (fun i _ => a.size - (intOf i).toNat)
  case atStart => exact ⟨0, Nat.zero_le _, rfl, by simpa using HC, Below.refl _ _⟩
  case round =>
    obtain ⟨k, hk, rfl, HK, hbel⟩ := hrel
    by_cases hlt : k < a.size
    · have hlt2 : k < b.size := by omega
      have hc := HK.out
      rw [drop_at a k hlt, drop_at b k hlt2, cmpL] at hc
      simp only [UInt8.lt_iff_toNat_lt] at hc
      by_cases hx : a[k].toNat < b[k].toNat
      · rw [if_pos hx] at hc
        subst hc
        clear HK HC
        go_wp2
        go_region
        go_wp2
        go_ret
        exact ⟨rfl, hbel.drew⟩
      · rw [if_neg hx] at hc
        by_cases hy : b[k].toNat < a[k].toNat
        · rw [if_pos hy] at hc
          subst hc
          clear HK HC
          go_wp2
          go_region
          go_wp2
          go_region
          go_wp2
          go_ret
          exact ⟨rfl, hbel.drew.drew⟩
        · rw [if_neg hy] at hc
          have HK2 : Hid (cmpL (a.data.toList.drop (k + 1)) (b.data.toList.drop (k + 1)) = R) := hc
          clear HK HC hc
          go_wp2
          go_region
          go_wp2
          go_region
          go_wp2
          go_roundw
          case rel => exact ⟨k + 1, by omega, by go_num, HK2, hbel.drew.drew⟩
          case measure => simp [intOf]; omega
    · have hc := HK.out
      rw [List.drop_of_length_le (by omega), List.drop_of_length_le (by omega)] at hc
      subst hc
      clear HK HC
      go_wp2
      go_ret
      exact ⟨rfl, hbel⟩

set_option maxHeartbeats 1000000 in
theorem rless_any (ba : Bool) (a : ByteArray) (bb : Bool) (b : ByteArray) (ha : a.size ≤ 17179869184) (hb : b.size ≤ 17179869184) (w : World) :
    Calls Try.prog 42 #[numV ba a, numV bb b] w fun e w' => e = .returned (.int .i64 (cmpN ba a.data.toList bb b.data.toList)) ∧ Below w.heap.size w w' := by
  have hW := ((Below.refl w.heap.size w).alloc (Nat.le_refl _) (.cells #[.bool ba, .string a] 26)).alloc (by simp) (.cells #[.bool bb, .string b] 26)
  have hr := magC_rng a.data.toList b.data.toList
  cases ba <;> cases bb
  · go_enter Try.func42, Try.ntmps42
    go_wp2_with fail
    refine (rmag_any a b _ ha hb).mono ?_
    rintro e w1 ⟨rfl, hb1⟩
    obtain ⟨p0, p1, p2⟩ := box_num hb1 (h := w.heap.size) (v0 := .bool false) (v1 := .string a) ⟨by simp [go_sem], by simp [go_sem], by simp; omega⟩
    go_wp2
    go_ret
    exact ⟨rfl, hW.trans (hb1.mono hW.size)⟩
  · go_enter Try.func42, Try.ntmps42
    go_wp2
    go_ret
    exact ⟨rfl, hW⟩
  · go_enter Try.func42, Try.ntmps42
    go_wp2
    go_ret
    exact ⟨rfl, hW⟩
  · have hR : cmpN true a.data.toList true b.data.toList = - magC a.data.toList b.data.toList := magC_neg _ _
    rw [hR]
    clear hR
    go_enter Try.func42, Try.ntmps42
    go_wp2_with fail
    refine (rmag_any a b _ ha hb).mono ?_
    rintro e w1 ⟨rfl, hb1⟩
    obtain ⟨p0, p1, p2⟩ := box_num hb1 (h := w.heap.size) (v0 := .bool true) (v1 := .string a) ⟨by simp [go_sem], by simp [go_sem], by simp; omega⟩
    go_wp2
    go_ret
    exact ⟨rfl, hW.trans (hb1.mono hW.size)⟩

set_option maxHeartbeats 1000000 in
theorem rcompare_any (ba : Bool) (a : ByteArray) (bb : Bool) (b : ByteArray) (ha : a.size ≤ 17179869184) (hb : b.size ≤ 17179869184) (w : World) :
    Calls Try.prog 24 #[numV ba a, numV bb b] w fun e w' => e = compE ba a.data.toList bb b.data.toList ∧ Below w.heap.size w w' := by
  have hW := ((Below.refl w.heap.size w).alloc (Nat.le_refl _) (.cells #[.bool ba, .string a] 26)).alloc (by simp) (.cells #[.bool bb, .string b] 26)
  by_cases h1 : chk ba a.data.toList = 0
  · by_cases h2 : chk bb b.data.toList = 0
    · have hR : compE ba a.data.toList bb b.data.toList = .returned (.tuple #[.int .i64 (cmpN ba a.data.toList bb b.data.toList), .int .i64 0]) := by simp [compE, h1, h2]
      rw [hR]
      clear hR
      go_enter Try.func24, Try.ntmps24
      go_wp2_with fail
      refine (rcheck_any ba a ha _).mono ?_
      rintro e w1 ⟨rfl, hb1⟩
      rw [h1]
      clear h1
      obtain ⟨p0, p1, p2⟩ := box_num hb1 (h := w.heap.size) (v0 := .bool ba) (v1 := .string a) ⟨by simp [go_sem], by simp [go_sem], by simp; omega⟩
      obtain ⟨q0, q1, q2⟩ := box_num hb1 (h := w.heap.size + 1) (v0 := .bool bb) (v1 := .string b) ⟨by simp [go_sem], by simp [go_sem], by simp⟩
      replace hW := hW.trans (hb1.mono hW.size)
      clear hb1
      go_wp2_with fail
      refine (rcheck_any bb b hb _).mono ?_
      rintro e w2 ⟨rfl, hb2⟩
      rw [h2]
      clear h2
      replace hW := hW.trans (hb2.mono hW.size)
      obtain ⟨p0, p1, p2⟩ := box_num hb2 (h := w.heap.size) (v0 := .bool ba) (v1 := .string a) ⟨p0, p1, p2⟩
      obtain ⟨q0, q1, q2⟩ := box_num hb2 (h := w.heap.size + 1) (v0 := .bool bb) (v1 := .string b) ⟨q0, q1, q2⟩
      clear hb2
      go_wp2_with fail
      refine (rless_any ba a bb b ha hb _).mono ?_
      rintro e w3 ⟨rfl, hb3⟩
      go_wp2
      go_ret2
      exact ⟨rfl, hW.trans (hb3.mono hW.size)⟩
    · have hR : compE ba a.data.toList bb b.data.toList = .returned (.tuple #[.int .i64 0, .int .i64 (chk bb b.data.toList)]) := by simp [compE, h1, h2]
      rw [hR]
      clear hR
      generalize hcc : chk bb b.data.toList = c at h2 ⊢
      go_enter Try.func24, Try.ntmps24
      go_wp2_with fail
      refine (rcheck_any ba a ha _).mono ?_
      rintro e w1 ⟨rfl, hb1⟩
      rw [h1]
      clear h1
      obtain ⟨q0, q1, q2⟩ := box_num hb1 (h := w.heap.size + 1) (v0 := .bool bb) (v1 := .string b) ⟨by simp [go_sem], by simp [go_sem], by simp⟩
      replace hW := hW.trans (hb1.mono hW.size)
      clear hb1
      go_wp2_with fail
      refine (rcheck_any bb b hb _).mono ?_
      rintro e w2 ⟨rfl, hb2⟩
      rw [hcc]
      go_wp2
      go_ret2
      exact ⟨rfl, hW.trans (hb2.mono hW.size)⟩
  · have hR : compE ba a.data.toList bb b.data.toList = .returned (.tuple #[.int .i64 0, .int .i64 (chk ba a.data.toList)]) := by simp [compE, h1]
    rw [hR]
    clear hR
    generalize hcc : chk ba a.data.toList = c at h1 ⊢
    go_enter Try.func24, Try.ntmps24
    go_wp2_with fail
    refine (rcheck_any ba a ha _).mono ?_
    rintro e w1 ⟨rfl, hb1⟩
    rw [hcc]
    go_wp2
    go_ret2
    exact ⟨rfl, hW.trans (hb1.mono hW.size)⟩
end Go.Proofs.Ytdmdnhlmfailaaa
