/- What NatSmall comes to (a walk; nothing is claimed here). -/
import Derived.Test.YtdmdnhlmfailaaaAwake
import Derived.Test.YtdmdnhlmfailaaaMathO
namespace Go.Proofs.Ytdmdnhlmfailaaa
open Go.RowKit Go.Vf

theorem of_is (i : Int) (hi : -9223372036854775808 ≤ i) (hi2 : i ≤ 9223372036854775807) (A : ByteArray) (HA : Hid (A.data.toList = magOf i.natAbs)) (b : Bool) (HB : Hid (b = decide (i < 0))) (w : World) :
    Calls Try.prog 19 #[.int .i64 i] w fun e w' => e = .returned (numV b A) ∧ Below w.heap.size w w' := by
  have h := of_any i hi hi2 w
  have e : ofE i = .returned (numV b A) := by
    have eA : bs (lowD i.natAbs).reverse = A := data_inj (by rw [bs_data]; exact HA.out.symm)
    rw [ofE, HB.out, eA]
  rw [e] at h
  exact h

theorem wf64 {i : Int} (h : (Lit.int .i64 i).wf = true) : -9223372036854775808 ≤ i ∧ i ≤ 9223372036854775807 := by
  simp [Lit.wf, IntKind.min, IntKind.max, IntKind.signed, IntKind.bits] at h
  omega

set_option maxHeartbeats 2000000 in
theorem small_walk (i : Int) (w0 : (Lit.int .i64 i).wf = true) (k : Int) (w1 : (Lit.int .i64 k).wf = true) (w : World) :
    Calls Try.prog 8 #[.int .i64 i, .int .i64 k] w fun e w' => e = .returned (.bool true) ∧ Below w.heap.size w w' := by
  obtain ⟨hi, hi2⟩ := wf64 w0
  obtain ⟨hk, hk2⟩ := wf64 w1
  clear w0 w1
  obtain ⟨A, HA⟩ : ∃ A : ByteArray, Hid (A.data.toList = magOf i.natAbs) := ⟨bs (magOf i.natAbs), bs_data _⟩
  obtain ⟨B, HB⟩ : ∃ B : ByteArray, Hid (B.data.toList = magOf k.natAbs) := ⟨bs (magOf k.natAbs), bs_data _⟩
  obtain ⟨p, HP⟩ : ∃ p : Bool, Hid (p = decide (i < 0)) := ⟨_, rfl⟩
  obtain ⟨q, HQ⟩ : ∃ q : Bool, Hid (q = decide (k < 0)) := ⟨_, rfl⟩
  have hA8 : A.size ≤ 255 := by rw [Lib.size_eq, HA.out]; exact (chk_zero (chk_of hi hi2)).1
  have hB8 : B.size ≤ 255 := by rw [Lib.size_eq, HB.out]; exact (chk_zero (chk_of hk hk2)).1
  have HCA : Hid (chk p A.data.toList = 0) := by show _ = _; rw [HA.out, HP.out]; exact chk_of hi hi2
  have HCB : Hid (chk q B.data.toList = 0) := by show _ = _; rw [HB.out, HQ.out]; exact chk_of hk hk2
  have HSA : Hid (smallE (smallOf p A.data.toList) = .returned (.tuple #[.int .i64 i, .bool true])) := by show _ = _; rw [HA.out, HP.out, small_of hi hi2]; rfl
  have HSB : Hid (smallE (smallOf q B.data.toList) = .returned (.tuple #[.int .i64 k, .bool true])) := by show _ = _; rw [HB.out, HQ.out, small_of hk hk2]; rfl
  have HC : Hid (compE p A.data.toList q B.data.toList = .returned (.tuple #[.int .i64 (sgn i k), .int .i64 0])) := by
    show _ = _
    rw [compE, if_neg (by rw [HCA.out]; simp), if_neg (by rw [HCB.out]; simp), HA.out, HB.out, HP.out, HQ.out, cmpN_of]
  go_enter Try.func8, Try.ntmps8
  go_wp2_with fail
  refine (of_is i hi hi2 A HA p HP _).mono ?_
  rintro e w1 ⟨rfl, hb1⟩
  have hA := hb1.alloc hb1.size (.cells #[.bool p, .string A] 26)
  have hS : (w1.alloc (.cells #[.bool p, .string A] 26)).cell? ⟨w1.heap.size, 0, none⟩ = some (.bool p) ∧ (w1.alloc (.cells #[.bool p, .string A] 26)).cell? ⟨w1.heap.size, 1, none⟩ = some (.string A) ∧ w1.heap.size < (w1.alloc (.cells #[.bool p, .string A] 26)).heap.size := ⟨by simp, by simp, by simp⟩
  go_wp2_with fail
  generalize w1.alloc (.cells #[.bool p, .string A] 26) = W1 at hA hS ⊢
  refine (of_is k hk hk2 B HB q HQ _).mono ?_
  rintro e w3 ⟨rfl, hb3⟩
  replace hA := hA.trans (hb3.mono hA.size)
  replace hS := box_num hb3 hS
  clear hb3
  have hT : (w3.alloc (.cells #[.bool q, .string B] 26)).cell? ⟨w3.heap.size, 0, none⟩ = some (.bool q) ∧ (w3.alloc (.cells #[.bool q, .string B] 26)).cell? ⟨w3.heap.size, 1, none⟩ = some (.string B) ∧ w3.heap.size < (w3.alloc (.cells #[.bool q, .string B] 26)).heap.size := ⟨by simp, by simp, by simp⟩
  replace hA := hA.alloc hA.size (.cells #[.bool q, .string B] 26)
  replace hS := box_num ((Below.refl w3.heap.size w3).alloc (Nat.le_refl _) (.cells #[.bool q, .string B] 26)) hS
  obtain ⟨s0, s1, s2⟩ := hS
  obtain ⟨t0, t1, t2⟩ := hT
  go_wp2_with fail
  generalize w3.alloc (.cells #[.bool q, .string B] 26) = W3 at hA s0 s1 s2 t0 t1 t2 ⊢
  refine (small_any p A (by omega) _).mono ?_
  rintro e w4 ⟨rfl, hb4⟩
  rw [HSA.out]
  replace hA := hA.trans (hb4.mono hA.size)
  obtain ⟨s0, s1, s2⟩ := box_num hb4 ⟨s0, s1, s2⟩
  obtain ⟨t0, t1, t2⟩ := box_num hb4 ⟨t0, t1, t2⟩
  clear hb4 HSA
  go_wp2_with fail
  refine (small_any q B (by omega) _).mono ?_
  rintro e w5 ⟨rfl, hb5⟩
  rw [HSB.out]
  replace hA := hA.trans (hb5.mono hA.size)
  obtain ⟨s0, s1, s2⟩ := box_num hb5 ⟨s0, s1, s2⟩
  obtain ⟨t0, t1, t2⟩ := box_num hb5 ⟨t0, t1, t2⟩
  clear hb5 HSB
  go_wp2_with fail
  refine (compare_any p A q B (by omega) (by omega) _).mono ?_
  rintro e w6 ⟨rfl, hb6⟩
  rw [HC.out]
  replace hA := hA.trans (hb6.mono hA.size)
  obtain ⟨s0, s1, s2⟩ := box_num hb6 ⟨s0, s1, s2⟩
  clear hb6 HC t0 t1 t2
  have hsg : sgn i k = if i < k then -1 else if k < i then 1 else 0 := rfl
  by_cases h1 : i < k
  · rw [if_pos h1] at hsg
    rw [hsg]
    clear hsg
    go_wp2_with fail
    refine (check_any p A (by omega) _).mono ?_
    rintro e w7 ⟨rfl, hb7⟩
    rw [HCA.out]
    replace hA := hA.trans (hb7.mono hA.size)
    go_wp2_with fail
    refine (awake_any _).mono ?_
    rintro e w8 ⟨rfl, hb8⟩
    go_wp2_with fail
    go_ret
    exact ⟨rfl, hA.trans (hb8.mono hA.size)⟩
  · by_cases h2 : k < i
    · rw [if_neg h1, if_pos h2] at hsg
      rw [hsg]
      clear hsg
      go_wp2_with fail
      refine (check_any p A (by omega) _).mono ?_
      rintro e w7 ⟨rfl, hb7⟩
      rw [HCA.out]
      replace hA := hA.trans (hb7.mono hA.size)
      go_wp2_with fail
      refine (awake_any _).mono ?_
      rintro e w8 ⟨rfl, hb8⟩
      go_wp2_with fail
      go_ret
      exact ⟨rfl, hA.trans (hb8.mono hA.size)⟩
    · rw [if_neg h1, if_neg h2] at hsg
      rw [hsg]
      clear hsg
      go_wp2_with fail
      refine (check_any p A (by omega) _).mono ?_
      rintro e w7 ⟨rfl, hb7⟩
      rw [HCA.out]
      replace hA := hA.trans (hb7.mono hA.size)
      go_wp2_with fail
      refine (awake_any _).mono ?_
      rintro e w8 ⟨rfl, hb8⟩
      go_wp2_with fail
      go_ret
      exact ⟨rfl, hA.trans (hb8.mono hA.size)⟩
end Go.Proofs.Ytdmdnhlmfailaaa
