/- What utf.whole and utf.pointOf do (contracts; nothing is claimed here). -/
import Derived.Test.YtjlgmoakdaeinaaDoorTabs
namespace Go.Proofs.YtjlgmoakdaeinaaDoor
open Go.RowKit Go.Vf

theorem list_get (s : ByteArray) (k : Nat) (h : k < s.size) : s.data.toList[k]? = some s[k] := by
  have : k < s.data.toList.length := by rw [← Lib.size_eq]; exact h
  rw [List.getElem?_eq_getElem this]; rfl

theorem drop_take_cons (l : List UInt8) (n k : Nat) (h : k < n) (hl : k < l.length) : (l.take n).drop k = l[k] :: (l.take n).drop (k + 1) := by
  have h2 : k < (l.take n).length := by simp; omega
  rw [List.drop_eq_getElem_cons h2]; simp

theorem index_one (s : ByteArray) (h : 1 < s.size) (W : World) : (Instr.index 9 (.string s) (.int .i64 1)).run Tryd.prog W = .ok (.int .u8 (s[1].toNat : Int)) W := by
  simp [go_sem, Instr.index, h]

set_option maxHeartbeats 2000000 in
set_option maxRecDepth 20000 in
/-- whole(s, r), r being row k. -/
theorem whole_any (s : ByteArray) (k : Nat) (hk : k < 9) (w : World) (hs : s.size ≤ 4294967296) :
    Calls Tryd.prog 28 #[.string s, rowV k] w fun e w' => e = .returned (.bool (wholeL k s.data.toList)) ∧ Below w.heap.size w w' := by
  obtain ⟨R, HR⟩ : ∃ R, Hid (R = wholeL k s.data.toList) := ⟨_, rfl⟩
  rw [← HR.out]
  have hlen : s.data.toList.length = s.size := (Lib.size_eq s).symm
  have hx := Box7.new w 48 (.int .u8 ((utab k).first : Int)) (.int .u8 ((utab k).last : Int)) (.int .u8 ((utab k).low : Int)) (.int .u8 ((utab k).high : Int)) (.int .i64 ((utab k).size : Int)) (.int .i64 ((utab k).least : Int)) (.int .i64 ((utab k).most : Int))
  have hb0 := (Below.refl w.heap.size w).alloc (Nat.le_refl _) (.cells #[.int .u8 ((utab k).first : Int), .int .u8 ((utab k).last : Int), .int .u8 ((utab k).low : Int), .int .u8 ((utab k).high : Int), .int .i64 ((utab k).size : Int), .int .i64 ((utab k).least : Int), .int .i64 ((utab k).most : Int)] 48)
  obtain ⟨z, hz⟩ : ∃ z, z = (utab k).size := ⟨_, rfl⟩
  have hz1 : 1 ≤ z ∧ z ≤ 4 := by rw [hz]; rcases cases_nine hk with rfl | rfl | rfl | rfl | rfl | rfl | rfl | rfl | rfl <;> simp [utab]
  rw [← hz] at hx hb0
  unfold rowV
  rw [← hz]
  have HZ : Hid (z = (utab k).size) := hz
  clear hz
  go_enter Tryd.func28, Tryd.ntmps28
  by_cases h1 : s.size < z
  · go_wp2
    have hR : R = false := by rw [HR.out]; unfold wholeL; rw [← HZ.out, hlen]; simp; omega
    go_ret
    exact ⟨by rw [hR]; rfl, hb0⟩
  · go_wp2
    generalize w.alloc (.cells #[.int .u8 ((utab k).first : Int), .int .u8 ((utab k).last : Int), .int .u8 ((utab k).low : Int), .int .u8 ((utab k).high : Int), .int .i64 (z : Int), .int .i64 ((utab k).least : Int), .int .i64 ((utab k).most : Int)] 48) = W at hx hb0 ⊢
    obtain ⟨c0, c1, c2, c3, c4, c5, c6, f0, f1, f2, f3, f4, f5, f6, hl⟩ := hx
    by_cases h2 : z ≤ 1
    · have t1 : decide ((1 : Int) < (z : Int)) = false := by simp; omega
      have hR : R = true := by
        rw [HR.out]; unfold wholeL; rw [← HZ.out, hlen]
        have : (List.drop 2 (List.take z s.data.toList)) = [] := List.drop_eq_nil_of_le (by simp; omega)
        rw [this]; simp; omega
      go_region
      go_wp2
      go_loopw [5] (fun i wr => i = .int .i64 2 ∧ wr = W.drew) (fun _ _ => 0)
      case atStart => exact ⟨rfl, rfl⟩
      case round =>
        obtain ⟨rfl, rfl⟩ := hrel
        go_wp2
        go_ret
        exact ⟨by first | (rw [hR]; rfl) | rfl, hb0.drew⟩
    · have h3 : 1 < s.size := by omega
      have hi1 := index_one s h3
      have t1 : decide ((1 : Int) < (z : Int)) = true := by simp; omega
      have hg1 : (s.data.toList[1]?.getD 0) = s[1] := by rw [list_get s 1 h3]; rfl
      by_cases h4 : s[1].toNat < (utab k).low
      · have t2 : decide ((s[1].toNat : Int) < ((utab k).low : Int)) = true := by simp; omega
        have hR : R = false := by
          rw [HR.out]; unfold wholeL secB; rw [← HZ.out, hlen, hg1]
          have e1 : decide (z ≤ 1) = false := by simp; omega
          have e2 : decide ((utab k).low ≤ s[1].toNat) = false := by simp; omega
          rw [e1, e2]; simp
        go_region
        go_wp2
        go_ret
        exact ⟨by first | (rw [hR]; rfl) | rfl, hb0.drew⟩
      · have t2 : decide ((s[1].toNat : Int) < ((utab k).low : Int)) = false := by simp; omega
        by_cases h5 : (utab k).high < s[1].toNat
        · have t3 : decide (((utab k).high : Int) < (s[1].toNat : Int)) = true := by simp; omega
          have hR : R = false := by
            rw [HR.out]; unfold wholeL secB; rw [← HZ.out, hlen, hg1]
            have e1 : decide (z ≤ 1) = false := by simp; omega
            have e2 : decide (s[1].toNat ≤ (utab k).high) = false := by simp; omega
            rw [e1, e2]; simp
          go_region
          go_wp2
          go_ret
          exact ⟨by first | (rw [hR]; rfl) | rfl, hb0.drew⟩
        · have t3 : decide (((utab k).high : Int) < (s[1].toNat : Int)) = false := by simp; omega
          have HR2 : Hid (((s.data.toList.take z).drop 2).all tailB = R) := by
            show _ = _
            rw [HR.out]; unfold wholeL secB; rw [← HZ.out, hlen, hg1]
            have e1 : decide (z ≤ s.size) = true := by simp; omega
            have e2 : decide (s[1].toNat ≤ (utab k).high) = true := by simp; omega
            have e3 : decide ((utab k).low ≤ s[1].toNat) = true := by simp; omega
            rw [e1, e2, e3]; simp
          go_region
          go_wp2
          go_loopw [5] (fun i wr => ∃ j : Nat, 2 ≤ j ∧ j ≤ 4 ∧ i = .int .i64 j ∧ Hid (((s.data.toList.take z).drop j).all tailB = R) ∧ wr = W.drew) (fun i _ => 4 - (intOf i).toNat)
          case atStart => exact ⟨2, by omega, by omega, rfl, HR2, rfl⟩
          case round =>
            obtain ⟨j, hj1, hj2, rfl, HJ, rfl⟩ := hrel
            by_cases hlt : j < z
            · have hjs : j < s.size := by omega
              have hJ := HJ.out
              rw [drop_take_cons _ z j hlt (by omega), List.all_cons] at hJ
              have hsj : s.data.toList[j]'(by omega) = s[j] := rfl
              rw [hsj] at hJ
              by_cases h6 : s[j].toNat < 128
              · have hR : R = false := by rw [← hJ]; unfold tailB; simp; omega
                clear hJ HJ HR2
                go_wp2
                go_ret
                exact ⟨by first | (rw [hR]; rfl) | rfl, hb0.drew⟩
              · by_cases h7 : 191 < s[j].toNat
                · have hR : R = false := by rw [← hJ]; unfold tailB; simp; omega
                  clear hJ HJ HR2
                  go_wp2
                  go_ret
                  exact ⟨by first | (rw [hR]; rfl) | rfl, hb0.drew⟩
                · have HK : Hid (((s.data.toList.take z).drop (j + 1)).all tailB = R) := by
                    show _ = _
                    rw [← hJ]
                    have e1 : tailB s[j] = true := by unfold tailB; simp; omega
                    rw [e1]; simp
                  clear hJ HJ HR2
                  go_wp2
                  go_roundw
                  case rel => exact ⟨j + 1, by omega, by omega, by go_num, HK, trivial⟩
                  case measure => simp [intOf]; omega
            · have hR : R = true := by
                rw [← HJ.out, List.drop_eq_nil_of_le (by simp; omega)]; rfl
              clear HJ HR2
              go_wp2
              go_ret
              exact ⟨by first | (rw [hR]; rfl) | rfl, hb0.drew⟩

end Go.Proofs.YtjlgmoakdaeinaaDoor
