/- What slices.Compare of ints and the comparison of two rows do (contracts; nothing is claimed here). -/
import Derived.Test.YtfeppbiodbhpcaaDoorMap8
import Derived.Test.YtfeppbiodbhpcaaDoorTabQ
namespace Go.Proofs.YtfeppbiodbhpcaaDoor
open Go.RowKit Go.Vf Go.Maps

theorem ints_at {n₀ : Nat} {w : World} {a : Option Addr} {k cap : Nat} {zs : List Int} (h : Ints n₀ w (.slice a k cap) zs) {j : Nat} (hj : j < zs.length) : ∃ b off, a = some ⟨b, off, none⟩ ∧ w.cell? ⟨b, off + j, none⟩ = some (.int .i64 zs[j]) := by
  rcases h with ⟨a', cap', e, rfl⟩ | ⟨b, off, cap', e, hb, hc⟩
  · simp at hj
  · cases e
    refine ⟨b, off, rfl, ?_⟩
    have := hc j hj
    rw [List.getElem?_eq_getElem hj] at this
    exact this
theorem ints_val {n₀ : Nat} {w : World} {v : Value} {zs : List Int} (h : Ints n₀ w v zs) : ∃ a cap, v = .slice a zs.length cap := by
  rcases h with ⟨a, cap, rfl, rfl⟩ | ⟨b, off, cap, rfl, _⟩
  · exact ⟨_, _, rfl⟩
  · exact ⟨_, _, rfl⟩
theorem cmp_of (x y : Int) : Lib.compareInt x y = if x < y then -1 else if y < x then 1 else 0 := by
  unfold Lib.compareInt
  split
  · rfl
  · split <;> first | rfl | omega

set_option maxHeartbeats 2000000 in
set_option maxRecDepth 20000 in
theorem compare_any (n₁ n₂ : Nat) (va vb : Value) (a b : List Int) (w : World) (ha : Ints n₁ w va a) (hb : Ints n₂ w vb b) (hla : a.length ≤ 4611686018427387904) (hlb : b.length ≤ 4611686018427387904) :
    Calls Tryd.prog 38 #[va, vb] w fun e w' => e = .returned (.int .i64 (aheadL a b)) ∧ w = w' := by
  obtain ⟨aa, ca, rfl⟩ := ints_val ha
  obtain ⟨ab, cb, rfl⟩ := ints_val hb
  generalize hR : aheadL a b = R
  have HR : Hid (aheadL (a.drop 0) (b.drop 0) = R) := hR
  clear hR
  go_enter Tryd.func38, Tryd.ntmps38
  go_wp2_with fail
  go_loopw [11] (fun i wr => ∃ k : Nat, k ≤ a.length ∧ k ≤ b.length ∧ i = .int .i64 k ∧ Hid (aheadL (a.drop k) (b.drop k) = R) ∧ wr = w) (fun i _ => a.length - (intOf i).toNat)
  case atStart => exact ⟨0, by omega, by omega, rfl, HR, rfl⟩
  case round =>
    clear HR
    obtain ⟨k, hk, hkb, rfl, HK, rfl⟩ := hrel
    by_cases hlt : k < a.length
    · obtain ⟨b1, o1, rfl, x1⟩ := ints_at ha hlt
      have hd1 : a.drop k = a[k] :: a.drop (k + 1) := List.drop_eq_getElem_cons hlt
      by_cases hltb : k < b.length
      · obtain ⟨b2, o2, rfl, x2⟩ := ints_at hb hltb
        have hd2 : b.drop k = b[k] :: b.drop (k + 1) := List.drop_eq_getElem_cons hltb
        have hKK := HK.out
        rw [hd1, hd2] at hKK
        have hc := Tryd.cmp_Compare_int a[k] b[k] wr
        rw [cmp_of] at hc
        generalize a[k] = x at x1 hKK hc
        generalize b[k] = y at x2 hKK hc
        unfold aheadL at hKK
        clear HK hd1 hd2
        by_cases h1 : x < y
        · rw [if_pos h1] at hKK hc
          have HRn : Hid (R = -1) := hKK.symm
          clear hKK h1
          go_wp2_with fail
          refine hc.mono ?_
          rintro _ w1 ⟨rfl, rfl⟩
          go_wp2
          go_ret
          exact ⟨by rw [HRn.out]; rfl, rfl⟩
        · rw [if_neg h1] at hKK hc
          by_cases h2 : y < x
          · rw [if_pos h2] at hKK hc
            have HRn : Hid (R = 1) := hKK.symm
            clear hKK h1 h2
            go_wp2_with fail
            refine hc.mono ?_
            rintro _ w1 ⟨rfl, rfl⟩
            go_wp2
            go_ret
            exact ⟨by rw [HRn.out]; rfl, rfl⟩
          · rw [if_neg h2] at hKK hc
            have HK2 : Hid (aheadL (a.drop (k + 1)) (b.drop (k + 1)) = R) := hKK
            clear hKK h1 h2
            go_wp2_with fail
            refine hc.mono ?_
            rintro _ w1 ⟨rfl, rfl⟩
            go_wp2
            go_roundw
            case rel => exact ⟨k + 1, by omega, by omega, by simp, HK2, trivial⟩
            case measure => simp only [intOf]; omega
      · have hRn : R = 1 := by
          rw [← HK.out, hd1, show b.drop k = [] from List.drop_of_length_le (by omega)]; rfl
        clear HK hd1
        go_wp2
        go_ret
        exact ⟨by rw [hRn]; rfl, rfl⟩
    · by_cases hltb : k < b.length
      · have hRn : R = -1 := by
          rw [← HK.out, show a.drop k = [] from List.drop_of_length_le (by omega), List.drop_eq_getElem_cons hltb]; rfl
        have hl : a.length < b.length := by omega
        clear HK
        go_wp2
        go_ret
        exact ⟨by rw [hRn]; rfl, rfl⟩
      · have hRn : R = 0 := by
          rw [← HK.out, show a.drop k = [] from List.drop_of_length_le (by omega), show b.drop k = [] from List.drop_of_length_le (by omega)]; rfl
        have hl : ¬ a.length < b.length := by omega
        clear HK
        go_wp2
        go_ret
        exact ⟨by rw [hRn]; rfl, rfl⟩

end Go.Proofs.YtfeppbiodbhpcaaDoor
