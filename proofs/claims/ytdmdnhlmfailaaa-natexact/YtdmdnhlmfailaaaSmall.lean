/- What nat.Small does (a contract; nothing is claimed here). -/
import Derived.Test.YtdmdnhlmfailaaaOf
namespace Go.Proofs.Ytdmdnhlmfailaaa
open Go.RowKit Go.Vf

def hval (l : List UInt8) : Nat := lval l.reverse
def smallOf (b : Bool) (m : List UInt8) : Option Int :=
  if chk b m ≠ 0 ∨ 8 < m.length then none
  else if b then (if hval m ≤ 9223372036854775808 then some (-(hval m : Int)) else none) else if hval m ≤ 9223372036854775807 then some (hval m : Int) else none
def smallE : Option Int → Ending
  | none => .returned (.tuple #[.int .i64 0, .bool false])
  | some i => .returned (.tuple #[.int .i64 i, .bool true])

theorem hval_snoc (l : List UInt8) (x : UInt8) : hval (l ++ [x]) = 256 * hval l + x.toNat := by
  simp [hval, lval]; omega
theorem hval_lt (l : List UInt8) : hval l < 256 ^ l.length := by
  have := lval_lt l.reverse
  rwa [List.length_reverse] at this

theorem chk_pos {m : List UInt8} (h : chk true m = 0) : 0 < hval m := by
  unfold chk at h
  split at h
  · exact absurd h (by decide)
  · split at h
    · exact absurd h (by decide)
    · rename_i h1
      simp at h1
      refine Nat.pos_of_ne_zero (lval_pos ?_ ?_)
      · rw [List.getLast?_reverse]; exact h1.2
      · simpa using h1.1

theorem small_step (m : ByteArray) (k : Nat) (hk : k < m.size) (h8 : m.size ≤ 8) : hval (m.data.toList.take k) < 72057594037927936 ∧ Hid (hval (m.data.toList.take (k + 1)) = 256 * hval (m.data.toList.take k) + m[k].toNat) := by
  have hl : m.data.toList.length = m.size := (Lib.size_eq m).symm
  constructor
  · have h1 := hval_lt (m.data.toList.take k)
    have h2 : 256 ^ (m.data.toList.take k).length ≤ 256 ^ 7 := Nat.pow_le_pow_right (by decide) (by simp; omega)
    rw [show (256 : Nat) ^ 7 = 72057594037927936 by decide] at h2
    omega
  · show _ = _
    rw [List.take_succ_eq_append_getElem (by omega), hval_snoc]
    rfl

set_option maxHeartbeats 1000000 in
theorem small_any (b : Bool) (m : ByteArray) (hm : m.size ≤ 17179869184) (w : World) :
    Calls Try.prog 20 #[numV b m] w fun e w' => e = smallE (smallOf b m.data.toList) ∧ Below w.heap.size w w' := by
  have hl : m.data.toList.length = m.size := (Lib.size_eq m).symm
  by_cases hc : chk b m.data.toList = 0
  · by_cases h8 : 8 < m.size
    · have hR : smallE (smallOf b m.data.toList) = .returned (.tuple #[.int .i64 0, .bool false]) := by simp [smallOf, smallE, hl, h8]
      rw [hR]
      clear hR hl
      go_enter Try.func20, Try.ntmps20
      go_wp2_with fail
      refine (check_any b m hm _).mono ?_
      rintro e w1 ⟨rfl, hb1⟩
      obtain ⟨hc0, hc1, hc2⟩ := box_num hb1 (h := w.heap.size) (v0 := .bool b) (v1 := .string m) ⟨by simp, by simp, by simp⟩
      rw [hc]
      clear hc
      go_wp2
      go_ret2
      exact ⟨rfl, below_box hb1⟩
    · have hlt := hval_lt m.data.toList
      have hV : hval m.data.toList ≤ 18446744073709551615 := by
        have h9 : 256 ^ m.data.toList.length ≤ 256 ^ 8 := Nat.pow_le_pow_right (by decide) (by omega)
        rw [show (256 : Nat) ^ 8 = 18446744073709551616 by decide] at h9
        omega
      have h8' : ¬ 8 < m.data.toList.length := by omega
      have hpos : b = true → 0 < hval m.data.toList := by rintro rfl; exact chk_pos hc
      obtain ⟨X, hX⟩ : ∃ X, hval m.data.toList = X := ⟨_, rfl⟩
      have hS : smallOf b m.data.toList = if b then (if X ≤ 9223372036854775808 then some (-(X : Int)) else none) else if X ≤ 9223372036854775807 then some (X : Int) else none := by
        simp only [smallOf, hc, hX, ne_eq, not_true_eq_false, h8', or_self, if_false]
      rw [hX] at hV hlt hpos
      clear hlt h8'
      cases b
      · clear hpos
        by_cases hx : X ≤ 9223372036854775807
        · have hR : smallE (smallOf false m.data.toList) = .returned (.tuple #[.int .i64 (X : Int), .bool true]) := by rw [hS]; simp [hx, smallE]
          rw [hR]
          clear hR
          go_enter Try.func20, Try.ntmps20
          go_wp2_with fail
          refine (check_any _ m hm _).mono ?_
          rintro e w1 ⟨rfl, hb1⟩
          obtain ⟨hc0, hc1, hc2⟩ := box_num hb1 (h := w.heap.size) (v0 := .bool false) (v1 := .string m) ⟨by simp, by simp, by simp⟩
          rw [hc]
          clear hc
          go_wp2
          go_loopw [4, 19] (fun x i wr => ∃ k : Nat, k ≤ m.size ∧ i = .int .i64 k ∧ x = .int .u64 (hval (m.data.toList.take k) : Int) ∧ w1 = wr) (fun _ i _ => m.size - (intOf i).toNat)
          case atStart => exact ⟨0, Nat.zero_le _, rfl, rfl, rfl⟩
          case round =>
            obtain ⟨k, hk, rfl, rfl, rfl⟩ := hrel
            by_cases hlt2 : k < m.size
            · have hb := m[k].toNat_lt
              obtain ⟨hB, HS⟩ := small_step m k hlt2 (by omega)
              generalize hval (m.data.toList.take k) = x at hB HS ⊢
              go_wp2
              go_roundw
              case rel => exact ⟨k + 1, by omega, by go_num, by rw [HS.out]; go_num, trivial⟩
              case measure => simp [intOf]; omega
            · have hfull : m.data.toList.take k = m.data.toList := List.take_of_length_le (by omega)
              rw [hfull, hX]
              go_wp2
              go_ret2
              exact ⟨rfl, below_box hb1⟩
        · have hw : wrap64 (X : Int) = (X : Int) - 18446744073709551616 := by unfold wrap64; omega
          have hd : decide ((X : Int) - 18446744073709551616 < 0) = true := by simp; omega
          have hR : smallE (smallOf false m.data.toList) = .returned (.tuple #[.int .i64 0, .bool false]) := by rw [hS]; simp [hx, smallE]
          rw [hR]
          clear hR
          go_enter Try.func20, Try.ntmps20
          go_wp2_with fail
          refine (check_any _ m hm _).mono ?_
          rintro e w1 ⟨rfl, hb1⟩
          obtain ⟨hc0, hc1, hc2⟩ := box_num hb1 (h := w.heap.size) (v0 := .bool false) (v1 := .string m) ⟨by simp, by simp, by simp⟩
          rw [hc]
          clear hc
          go_wp2
          go_loopw [4, 19] (fun x i wr => ∃ k : Nat, k ≤ m.size ∧ i = .int .i64 k ∧ x = .int .u64 (hval (m.data.toList.take k) : Int) ∧ w1 = wr) (fun _ i _ => m.size - (intOf i).toNat)
          case atStart => exact ⟨0, Nat.zero_le _, rfl, rfl, rfl⟩
          case round =>
            obtain ⟨k, hk, rfl, rfl, rfl⟩ := hrel
            by_cases hlt2 : k < m.size
            · have hb := m[k].toNat_lt
              obtain ⟨hB, HS⟩ := small_step m k hlt2 (by omega)
              generalize hval (m.data.toList.take k) = x at hB HS ⊢
              go_wp2
              go_roundw
              case rel => exact ⟨k + 1, by omega, by go_num, by rw [HS.out]; go_num, trivial⟩
              case measure => simp [intOf]; omega
            · have hfull : m.data.toList.take k = m.data.toList := List.take_of_length_le (by omega)
              rw [hfull, hX]
              go_wp2
              go_ret2
              exact ⟨rfl, below_box hb1⟩
      · have hp := hpos rfl
        clear hpos
        have hn : IntKind.u64.wrap (-(X : Int)) = 18446744073709551616 - (X : Int) := by rw [u64_wrap]; omega
        by_cases hx : X ≤ 9223372036854775808
        · have hw : wrap64 (18446744073709551616 - (X : Int)) = -(X : Int) := by unfold wrap64; omega
          have hd : decide (-(X : Int) < 0) = true := by simp; omega
          have hR : smallE (smallOf true m.data.toList) = .returned (.tuple #[.int .i64 (-(X : Int)), .bool true]) := by rw [hS]; simp [hx, smallE]
          rw [hR]
          clear hR
          go_enter Try.func20, Try.ntmps20
          go_wp2_with fail
          refine (check_any _ m hm _).mono ?_
          rintro e w1 ⟨rfl, hb1⟩
          obtain ⟨hc0, hc1, hc2⟩ := box_num hb1 (h := w.heap.size) (v0 := .bool true) (v1 := .string m) ⟨by simp, by simp, by simp⟩
          rw [hc]
          clear hc
          go_wp2
          go_loopw [4, 19] (fun x i wr => ∃ k : Nat, k ≤ m.size ∧ i = .int .i64 k ∧ x = .int .u64 (hval (m.data.toList.take k) : Int) ∧ w1 = wr) (fun _ i _ => m.size - (intOf i).toNat)
          case atStart => exact ⟨0, Nat.zero_le _, rfl, rfl, rfl⟩
          case round =>
            obtain ⟨k, hk, rfl, rfl, rfl⟩ := hrel
            by_cases hlt2 : k < m.size
            · have hb := m[k].toNat_lt
              obtain ⟨hB, HS⟩ := small_step m k hlt2 (by omega)
              generalize hval (m.data.toList.take k) = x at hB HS ⊢
              go_wp2
              go_roundw
              case rel => exact ⟨k + 1, by omega, by go_num, by rw [HS.out]; go_num, trivial⟩
              case measure => simp [intOf]; omega
            · have hfull : m.data.toList.take k = m.data.toList := List.take_of_length_le (by omega)
              rw [hfull, hX]
              go_wp2
              go_ret2
              exact ⟨by rw [← hw]; rfl, below_box hb1⟩
        · have hw : wrap64 (18446744073709551616 - (X : Int)) = 18446744073709551616 - (X : Int) := by unfold wrap64; omega
          have hd : decide (18446744073709551616 - (X : Int) < 0) = false := by simp; omega
          have hR : smallE (smallOf true m.data.toList) = .returned (.tuple #[.int .i64 0, .bool false]) := by rw [hS]; simp [hx, smallE]
          rw [hR]
          clear hR
          go_enter Try.func20, Try.ntmps20
          go_wp2_with fail
          refine (check_any _ m hm _).mono ?_
          rintro e w1 ⟨rfl, hb1⟩
          obtain ⟨hc0, hc1, hc2⟩ := box_num hb1 (h := w.heap.size) (v0 := .bool true) (v1 := .string m) ⟨by simp, by simp, by simp⟩
          rw [hc]
          clear hc
          go_wp2
          go_loopw [4, 19] (fun x i wr => ∃ k : Nat, k ≤ m.size ∧ i = .int .i64 k ∧ x = .int .u64 (hval (m.data.toList.take k) : Int) ∧ w1 = wr) (fun _ i _ => m.size - (intOf i).toNat)
          case atStart => exact ⟨0, Nat.zero_le _, rfl, rfl, rfl⟩
          case round =>
            obtain ⟨k, hk, rfl, rfl, rfl⟩ := hrel
            by_cases hlt2 : k < m.size
            · have hb := m[k].toNat_lt
              obtain ⟨hB, HS⟩ := small_step m k hlt2 (by omega)
              generalize hval (m.data.toList.take k) = x at hB HS ⊢
              go_wp2
              go_roundw
              case rel => exact ⟨k + 1, by omega, by go_num, by rw [HS.out]; go_num, trivial⟩
              case measure => simp [intOf]; omega
            · have hfull : m.data.toList.take k = m.data.toList := List.take_of_length_le (by omega)
              rw [hfull, hX]
              go_wp2
              go_ret2
              exact ⟨rfl, below_box hb1⟩
  · have hR : smallE (smallOf b m.data.toList) = .returned (.tuple #[.int .i64 0, .bool false]) := by simp [smallOf, smallE, hc]
    rw [hR]
    clear hR hl
    generalize hcc : chk b m.data.toList = c at hc ⊢
    go_enter Try.func20, Try.ntmps20
    go_wp2_with fail
    refine (check_any b m hm _).mono ?_
    rintro e w1 ⟨rfl, hb1⟩
    rw [hcc]
    go_wp2
    go_ret2
    exact ⟨rfl, below_box hb1⟩
end Go.Proofs.Ytdmdnhlmfailaaa
