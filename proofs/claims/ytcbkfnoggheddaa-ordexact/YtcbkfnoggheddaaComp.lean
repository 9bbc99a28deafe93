/- What ord.Compare and the statements' own helpers do (contracts; nothing is claimed here). -/
import Derived.Test.YtcbkfnoggheddaaNext
namespace Go.Proofs.Ytcbkfnoggheddaa
open Go.RowKit Go.Vf

def cmpI (x y : Int) : Int := if x < y then -1 else if y < x then 1 else 0

set_option maxHeartbeats 400000 in
theorem cmpB_any (x y : Int) (w : World) :
    Calls Try.prog 26 #[.int .u8 x, .int .u8 y] w fun e w' => e = .returned (.int .i64 (cmpI x y)) ∧ w = w' := by
  unfold cmpI
  by_cases h1 : x < y
  · rw [if_pos h1]
    go_enter Try.func26, Try.ntmps26
    go_wp2
    go_ret
    exact ⟨rfl, rfl⟩
  · rw [if_neg h1]
    by_cases h2 : y < x
    · rw [if_pos h2]
      go_enter Try.func26, Try.ntmps26
      go_wp2
      go_ret
      exact ⟨rfl, rfl⟩
    · rw [if_neg h2]
      go_enter Try.func26, Try.ntmps26
      go_wp2
      go_ret
      exact ⟨rfl, rfl⟩

theorem cmpB_same (x y : Int) (w : World) :
    Calls Try.prog 26 #[.int .u8 x, .int .u8 y] w fun e w' => e = .returned (.int .i64 (cmpI x y)) ∧ w' = w := (cmpB_any x y w).mono fun _ _ h => ⟨h.1, h.2.symm⟩

set_option maxHeartbeats 400000 in
theorem cmpN_any (x y : Int) (w : World) :
    Calls Try.prog 27 #[.int .i64 x, .int .i64 y] w fun e w' => e = .returned (.int .i64 (cmpI x y)) ∧ w = w' := by
  unfold cmpI
  by_cases h1 : x < y
  · rw [if_pos h1]
    go_enter Try.func27, Try.ntmps27
    go_wp2
    go_ret
    exact ⟨rfl, rfl⟩
  · rw [if_neg h1]
    by_cases h2 : y < x
    · rw [if_pos h2]
      go_enter Try.func27, Try.ntmps27
      go_wp2
      go_ret
      exact ⟨rfl, rfl⟩
    · rw [if_neg h2]
      go_enter Try.func27, Try.ntmps27
      go_wp2
      go_ret
      exact ⟨rfl, rfl⟩

theorem less_cmp (a b : List UInt8) : Op.bytesLess a b = decide (cmpL a b = -1) := by
  fun_induction cmpL a b
  · rfl
  · rfl
  · rfl
  · rename_i h; simp [Op.bytesLess, h]
  · rename_i a x b y h1 h2
    have : ¬ a = b := fun e => by subst e; exact absurd h2 (UInt8.lt_irrefl _)
    simp [Op.bytesLess, h1, this]
  · rename_i a x b y h1 h2 ih
    have e : a = b := UInt8.le_antisymm (UInt8.not_lt.1 h2) (UInt8.not_lt.1 h1)
    subst e
    simp [Op.bytesLess, ih]

set_option maxHeartbeats 400000 in
theorem order_any (a b : ByteArray) (w : World) :
    Calls Try.prog 13 #[.string a, .string b] w fun e w' => e = .returned (.int .i64 (cmpL a.data.toList b.data.toList)) ∧ w = w' := by
  have hl : Op.bytesLess a.toList b.toList = decide (cmpL a.data.toList b.data.toList = -1) := by rw [ByteArray.toList_eq, ByteArray.toList_eq, less_cmp]
  have he : (a.toList == b.toList) = decide (cmpL a.data.toList b.data.toList = 0) := by
    rw [ByteArray.toList_eq, ByteArray.toList_eq, Bool.eq_iff_iff]
    simp [cmpL_eq]
  rcases cmpL_three a.data.toList b.data.toList with h | h | h
  · rw [h] at hl he ⊢
    have hl' : Op.bytesLess a.toList b.toList = true := hl
    clear hl he h
    go_enter Try.func13, Try.ntmps13
    go_wp2
    go_ret
    exact ⟨rfl, rfl⟩
  · rw [h] at hl he ⊢
    have hl' : Op.bytesLess a.toList b.toList = false := hl
    have he' : (a.toList == b.toList) = true := he
    clear hl he h
    go_enter Try.func13, Try.ntmps13
    go_wp2
    go_ret
    exact ⟨rfl, rfl⟩
  · rw [h] at hl he ⊢
    have hl' : Op.bytesLess a.toList b.toList = false := hl
    have he' : (a.toList == b.toList) = false := he
    clear hl he h
    go_enter Try.func13, Try.ntmps13
    go_wp2
    go_ret
    exact ⟨rfl, rfl⟩

set_option maxHeartbeats 400000 in
theorem begins_any (a b : ByteArray) (w : World) (_ha : a.size ≤ 17179869184) (_hb : b.size ≤ 17179869184) :
    Calls Try.prog 15 #[.string a, .string b] w fun e w' => e = .returned (.bool (beginsL a.data.toList b.data.toList)) ∧ w = w' := by
  by_cases h : b.size ≤ a.size
  · have he : ((a.extract 0 b.size).toList == b.toList) = beginsL a.data.toList b.data.toList := by
      rw [ByteArray.toList_eq, ByteArray.toList_eq, Lib.extract_data, ← beginsL_take _ _ (by rw [← Lib.size_eq, ← Lib.size_eq]; exact h)]
      simp
    go_enter Try.func15, Try.ntmps15
    go_wp2
    go_ret
    exact ⟨rfl, rfl⟩
  · rw [beginsL_short _ _ (by rw [← Lib.size_eq, ← Lib.size_eq]; exact h)]
    go_enter Try.func15, Try.ntmps15
    go_wp2
    go_ret
    exact ⟨rfl, rfl⟩

set_option maxHeartbeats 1000000 in
theorem compare_any (a b : ByteArray) (w : World) (ha : a.size ≤ 17179869184) (hb : b.size ≤ 17179869184) :
    Calls Try.prog 14 #[.string a, .string b] w fun e w' => e = .returned (.int .i64 (cmpL a.data.toList b.data.toList)) ∧ Below w.heap.size w w' := by
  obtain ⟨R, hR⟩ : ∃ R, cmpL a.data.toList b.data.toList = R := ⟨_, rfl⟩
  rw [hR]
  have HR : Hid (cmpL a.data.toList b.data.toList = R) := hR
  clear hR
  by_cases hmin : (b.size : Int) < (a.size : Int)
  all_goals
    go_enter Try.func14, Try.ntmps14
    go_wp2
    go_loopw [11] (fun i wr => ∃ k : Nat, k ≤ a.size ∧ k ≤ b.size ∧ i = .int .i64 k ∧ Hid (R = cmpL (a.data.toList.drop k) (b.data.toList.drop k)) ∧ Below w.heap.size w wr) (fun i _ => a.size - (intOf i).toNat)
    case atStart => exact ⟨0, Nat.zero_le _, Nat.zero_le _, rfl, HR.out.symm, Below.refl _ _⟩
    case round =>
      obtain ⟨k, hka, hkb, rfl, HI, hbel⟩ := hrel
      by_cases hlt : k < a.size ∧ k < b.size
      · obtain ⟨h1, h2⟩ := hlt
        have hda : a.data.toList.drop k = a[k] :: a.data.toList.drop (k + 1) := by
          rw [List.drop_eq_getElem_cons (by rw [← Lib.size_eq]; exact h1)]; rfl
        have hdb : b.data.toList.drop k = b[k] :: b.data.toList.drop (k + 1) := by
          rw [List.drop_eq_getElem_cons (by rw [← Lib.size_eq]; exact h2)]; rfl
        have hI := HI.out
        rw [hda, hdb] at hI
        by_cases h0 : a[k] = b[k]
        · have hbt : ((a[k].toNat : Int) != (b[k].toNat : Int)) = false := by rw [h0]; simp
          have HI2 : Hid (R = cmpL (a.data.toList.drop (k + 1)) (b.data.toList.drop (k + 1))) := by show _ = _; rw [hI, h0]; simp [cmpL]
          clear hI hda hdb h0 HI
          go_wp2
          go_quiet (fail)
          go_wp2
          go_roundw
          case rel => exact ⟨k + 1, by omega, by omega, by go_num, HI2, below_drewN hbel _⟩
          case measure => simp [intOf]; omega
        · have hbt : ((a[k].toNat : Int) != (b[k].toNat : Int)) = true := by
            rw [bne_iff_ne]; intro e; exact h0 (UInt8.toNat_inj.1 (by omega))
          have HI2 : Hid (R = cmpI (a[k].toNat : Int) (b[k].toNat : Int)) := by show _ = _; rw [hI, cmpL_cons_ne _ _ _ _ h0]; rfl
          clear hI hda hdb h0 HI
          go_wp2
          go_quiet (fail)
          have hbel2 := below_drewN hbel nq
          generalize wr.drewN nq = wr2 at hbel2 ⊢
          go_wp2
          go_quiet ((go_at_call 26; exact Calls.quiet_of_same (cmpB_same _ _ _)))
          go_wp2
          go_ret
          exact ⟨by rw [HI2.out]; rfl, below_drewN hbel2 _⟩
      · have HI2 : Hid (R = cmpI (a.size : Int) (b.size : Int)) := by
          have hI := HI.out
          show _ = _
          rw [hI, cmpL_ends _ _ (by
            rcases Nat.lt_or_ge k a.size with h | h
            · exact .inr (List.drop_eq_nil_of_le (by rw [← Lib.size_eq]; omega))
            · exact .inl (List.drop_eq_nil_of_le (by rw [← Lib.size_eq]; omega)))]
          simp only [cmpI, List.length_drop, ← Lib.size_eq]
          by_cases h1 : (a.size : Int) < (b.size : Int)
          · rw [if_pos h1, if_pos (by omega)]
          · by_cases h2 : (b.size : Int) < (a.size : Int)
            · rw [if_neg h1, if_pos h2, if_neg (by omega), if_pos (by omega)]
            · rw [if_neg h1, if_neg h2, if_neg (by omega), if_neg (by omega)]
        have hge : (b.size : Int) ≤ (k : Int) ∨ (a.size : Int) ≤ (k : Int) := by omega
        first | have hge1 : ¬ (k : Int) < (b.size : Int) := by omega | have hge1 : ¬ (k : Int) < (a.size : Int) := by omega
        clear HI hlt hge
        go_wp2_with (go_at_call 27; refine (cmpN_any _ _ _).mono ?_; rintro e w' ⟨rfl, rfl⟩)
        go_ret
        exact ⟨by rw [HI2.out]; rfl, hbel⟩
end Go.Proofs.Ytcbkfnoggheddaa
