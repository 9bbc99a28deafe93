/- What dovetailref06.Ahead does (a contract; nothing is claimed here). -/
import Derived.Test.YtfeppbiodbhpcaaDoorEntA
namespace Go.Proofs.YtfeppbiodbhpcaaDoor
open Go.RowKit Go.Vf Go.Maps

set_option maxHeartbeats 2000000 in
set_option maxRecDepth 20000 in
theorem ahead_any (n₁ n₂ : Nat) (va vb : Value) (a b : List Int) (w : World) (ha : Ints n₁ w va a) (hb : Ints n₂ w vb b) (hla : a.length ≤ 4611686018427387904) (hlb : b.length ≤ 4611686018427387904) :
    Calls Tryd.prog 41 #[va, vb] w fun e w' => e = .returned (.int .i64 (aheadL a b)) ∧ ∃ n, w' = w.drewN n := by
  obtain ⟨aa, ca, rfl⟩ := ints_val ha
  obtain ⟨ab, cb, rfl⟩ := ints_val hb
  generalize hR : aheadL a b = R
  have HR : Hid (aheadL (a.drop 0) (b.drop 0) = R) := hR
  clear hR
  go_enter Tryd.func41, Tryd.ntmps41
  go_wp2_with fail
  go_loopw [5] (fun i wr => ∃ k n : Nat, k ≤ a.length ∧ k ≤ b.length ∧ i = .int .i64 k ∧ Hid (aheadL (a.drop k) (b.drop k) = R) ∧ wr = w.drewN n) (fun i _ => a.length - (intOf i).toNat)
  case atStart => exact ⟨0, 0, by omega, by omega, rfl, HR, rfl⟩
  case round =>
    clear HR
    obtain ⟨k, nd, hk, hkb, rfl, HK, rfl⟩ := hrel
    by_cases hlt : k < a.length
    · obtain ⟨b1, o1, rfl, x1⟩ := ints_at ha hlt
      have hd1 : a.drop k = a[k] :: a.drop (k + 1) := List.drop_eq_getElem_cons hlt
      by_cases hltb : k < b.length
      · obtain ⟨b2, o2, rfl, x2⟩ := ints_at hb hltb
        have hd2 : b.drop k = b[k] :: b.drop (k + 1) := List.drop_eq_getElem_cons hltb
        have hKK := HK.out
        rw [hd1, hd2] at hKK
        generalize a[k] = x at x1 hKK
        generalize b[k] = y at x2 hKK
        unfold aheadL at hKK
        clear HK hd1 hd2
        go_upto_region 4 with fail
        by_cases h1 : x < y
        · rw [if_pos h1] at hKK
          have HRn : Hid (R = -1) := hKK.symm
          clear hKK
          go_region
          go_wp2
          go_ret
          exact ⟨by rw [HRn.out]; rfl, nd + 1, rfl⟩
        · rw [if_neg h1] at hKK
          go_region
          go_upto_region 6 with fail
          by_cases h2 : y < x
          · rw [if_pos h2] at hKK
            have HRn : Hid (R = 1) := hKK.symm
            clear hKK
            go_region
            go_wp2
            go_ret
            exact ⟨by rw [HRn.out]; rfl, nd + 2, rfl⟩
          · rw [if_neg h2] at hKK
            have HK2 : Hid (aheadL (a.drop (k + 1)) (b.drop (k + 1)) = R) := hKK
            clear hKK
            go_region
            go_wp2
            go_roundw
            case rel => exact ⟨k + 1, nd + 2, by omega, by omega, by simp, HK2, rfl⟩
            case measure => simp only [intOf]; omega
      · have hRn : R = 1 := by
          rw [← HK.out, hd1, show b.drop k = [] from List.drop_of_length_le (by omega)]; rfl
        have hl1 : ¬ a.length < b.length := by omega
        have hl2 : b.length < a.length := by omega
        clear HK hd1
        go_wp2
        go_ret
        exact ⟨by rw [hRn]; rfl, nd, rfl⟩
    · by_cases hltb : k < b.length
      · have hRn : R = -1 := by
          rw [← HK.out, show a.drop k = [] from List.drop_of_length_le (by omega), List.drop_eq_getElem_cons hltb]; rfl
        have hl : a.length < b.length := by omega
        clear HK
        go_wp2
        go_ret
        exact ⟨by rw [hRn]; rfl, nd, rfl⟩
      · have hRn : R = 0 := by
          rw [← HK.out, show a.drop k = [] from List.drop_of_length_le (by omega), show b.drop k = [] from List.drop_of_length_le (by omega)]; rfl
        have hl : ¬ a.length < b.length := by omega
        have hl2 : ¬ b.length < a.length := by omega
        clear HK
        go_wp2
        go_ret
        exact ⟨by rw [hRn]; rfl, nd, rfl⟩

end Go.Proofs.YtfeppbiodbhpcaaDoor
