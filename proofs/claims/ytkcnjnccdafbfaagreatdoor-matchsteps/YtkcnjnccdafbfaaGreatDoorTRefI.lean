/- What dovetailref04.IsPoint, dovetailref06.Implied and SameElements do (contracts; nothing is claimed here). -/
import Derived.Test.YtkcnjnccdafbfaaGreatDoorJ12
import Derived.Test.YtkcnjnccdafbfaaGreatDoorJ24
import Derived.Test.YtkcnjnccdafbfaaGreatDoorJ23
import Derived.Test.YtkcnjnccdafbfaaGreatDoorJ13
namespace Go.Proofs.YtkcnjnccdafbfaaGreatDoor
open Go.RowKit Go.Vf Go.Maps
theorem rIsPoint_any (n : Int) (w : World) : Calls Tryz.prog 66 #[.int .i64 n] w fun e w' => e = .returned (.bool (isPtB n)) ∧ w = w' := by
 by_cases h1 : 0 ≤ n
 ·
  by_cases h2 : n ≤ 1114111
  ·
   by_cases h3 : n < 55296
   ·
    go_enter Tryz.func66, Tryz.ntmps66
    go_wp2
    go_ret
    exact ⟨by simp [isPtB, h1, h2, h3], rfl⟩
   ·
    by_cases h4 : 57343 < n
    ·
     go_enter Tryz.func66, Tryz.ntmps66
     go_wp2
     go_ret
     exact ⟨by simp [isPtB, h1, h2, h4], rfl⟩
    ·
     go_enter Tryz.func66, Tryz.ntmps66
     go_wp2
     go_ret
     exact ⟨by simp [isPtB]; omega, rfl⟩
  ·
   go_enter Tryz.func66, Tryz.ntmps66
   go_wp2
   go_ret
   exact ⟨by simp [isPtB]; omega, rfl⟩
 ·
  go_enter Tryz.func66, Tryz.ntmps66
  go_wp2
  go_ret
  exact ⟨by simp [isPtB]; omega, rfl⟩
set_option maxHeartbeats 4000000 in
set_option maxRecDepth 20000 in
theorem rImplied_any (n : Int) (w : World) : Calls Tryz.prog 77 #[.int .i64 n] w fun e w' => ∃ v, e = .returned v ∧ EOwn w' w.heap.size v (impR n) ∧ Below w.heap.size w w' := by
 cases hp : isPtB n with
 | false =>
  have hR : impR n = [] := by unfold impR; rw [hp]; rfl
  rw [hR]
  have h1 := fun w => rIsPoint_any n w
  rw [hp] at h1
  clear hR hp
  go_enter Tryz.func77, Tryz.ntmps77
  go_wp2_with fail
  refine (h1 _).mono ?_
  rintro _ w1 ⟨rfl, rfl⟩
  go_wp2
  go_ret
  exact ⟨_, rfl, EOwn.nil _ _, Below.refl _ _⟩
 | true =>
  have h1 := fun w => rIsPoint_any n w
  rw [hp] at h1
  have hn : 0 ≤ n ∧ n ≤ 1114111 := by
   obtain ⟨u, rfl, hu⟩ := isPtB_nat hp
   omega
  have hR : impR n = [⟨false, baseR n + n / 32768, 32, 2⟩, ⟨false, 32768 + n % 32768, 0, 0⟩] := by unfold impR; rw [hp]; rfl
  have hbi := base_in n
  have hb : baseR n = if (19968 ≤ n ∧ n ≤ 40959) ∨ (63744 ≤ n ∧ n ≤ 64255) then 64320 else if (13312 ≤ n ∧ n ≤ 19903) ∨ (131072 ≤ n ∧ n ≤ 262143) then 64384 else 64448 := rfl
  have td : Int.tdiv n 32768 = n / 32768 := Int.tdiv_eq_ediv_of_nonneg hn.1
  have tm : Int.tmod n 32768 = n % 32768 := Int.tmod_eq_emod_of_nonneg hn.1
  have hq : (0 : Int) ≤ n / 32768 ∧ n / 32768 ≤ 34 := by omega
  have hm : (0 : Int) ≤ n % 32768 ∧ n % 32768 < 32768 := by omega
  generalize n / 32768 = qq at hR td hq
  generalize n % 32768 = rr at hR tm hm
  generalize impR n = R at hR ⊢
  generalize baseR n = B at hbi hb hR
  have HR : Hid (R = [⟨false, B + qq, 32, 2⟩, ⟨false, 32768 + rr, 0, 0⟩]) := hR
  have HB : Hid (B = if (19968 ≤ n ∧ n ≤ 40959) ∨ (63744 ≤ n ∧ n ≤ 64255) then 64320 else if (13312 ≤ n ∧ n ≤ 19903) ∨ (131072 ≤ n ∧ n ≤ 262143) then 64384 else 64448) := hb
  clear hp hR hb
  have hseg : (0 ≤ n ∧ n ≤ 13311) ∨ (13312 ≤ n ∧ n ≤ 19903) ∨ (19904 ≤ n ∧ n ≤ 19967) ∨ (19968 ≤ n ∧ n ≤ 40959) ∨ (40960 ≤ n ∧ n ≤ 63743) ∨ (63744 ≤ n ∧ n ≤ 64255) ∨ (64256 ≤ n ∧ n ≤ 131071) ∨ (131072 ≤ n ∧ n ≤ 262143) ∨ (262144 ≤ n ∧ n ≤ 1114111) := by omega
  rcases hseg with hs | hs | hs | hs | hs | hs | hs | hs | hs
  ·
   have hBv : B = 64448 := by rw [HB.out, if_neg (by omega), if_neg (by omega)]
   subst hBv
   have f0 : ¬ 13312 ≤ n := by omega
   have f1 : ¬ 131072 ≤ n := by omega
   have f2 : ¬ 19968 ≤ n := by omega
   have f3 : ¬ 63744 ≤ n := by omega
   have f4 : n ≤ 19903 := by omega
   have f5 : n ≤ 262143 := by omega
   have f6 : n ≤ 40959 := by omega
   have f7 : n ≤ 64255 := by omega
   clear hs HB hbi
   go_enter Tryz.func77, Tryz.ntmps77
   go_wp2_with fail
   refine (h1 _).mono ?_
   rintro _ w1 ⟨rfl, rfl⟩
   go_upto_region 10 with (first | (at_builtin; refine wpList_append_el rfl _ _ rfl w.heap.size _ [] rfl (EOwn.nil _ _) false (64448 + qq) 32 2 rfl (by simp) (Nat.le_refl _) ?_; intro a1 c1 w2 hown1 hgr1))
   have hb1 := ((Below.refl w.heap.size w).alloc (Nat.le_refl _) (.cells #[.bool false, .int .i64 (64448 + qq), .int .i64 32, .int .i64 2] 54))
   have hb2 : Below w.heap.size w w2 := hb1.grown hgr1 (by simp) (fun j hj => by cases hj)
   have hb3 := hb2.alloc hb2.size (.cells #[.bool false, .int .i64 (32768 + rr), .int .i64 0, .int .i64 0] 54)
   have hown1' : EOwn w2 w.heap.size (.slice a1 1 c1) [⟨false, 64448 + qq, 32, 2⟩] := hown1
   go_wp2_with (first | (at_builtin; refine wpList_append_el rfl _ _ rfl w.heap.size _ [⟨false, 64448 + qq, 32, 2⟩] rfl hown1' false (32768 + rr) 0 0 rfl (by simp) hb2.size ?_; intro a2 c2 w3 hown2 hgr2))
   have hb4 : Below w.heap.size w w3 := hb3.grown hgr2 (Nat.le_trans hb2.size (by simp)) (fun j hj => (own_ge hown1' hj).1)
   go_wp2
   go_ret
   refine ⟨_, rfl, ?_, hb4⟩
   rw [HR.out]
   exact hown2
  ·
   have hBv : B = 64384 := by rw [HB.out, if_neg (by omega), if_pos (by omega)]
   subst hBv
   have f0 : 13312 ≤ n := by omega
   have f1 : ¬ 131072 ≤ n := by omega
   have f2 : ¬ 19968 ≤ n := by omega
   have f3 : ¬ 63744 ≤ n := by omega
   have f4 : n ≤ 19903 := by omega
   have f5 : n ≤ 262143 := by omega
   have f6 : n ≤ 40959 := by omega
   have f7 : n ≤ 64255 := by omega
   clear hs HB hbi
   go_enter Tryz.func77, Tryz.ntmps77
   go_wp2_with fail
   refine (h1 _).mono ?_
   rintro _ w1 ⟨rfl, rfl⟩
   go_upto_region 10 with (first | (at_builtin; refine wpList_append_el rfl _ _ rfl w.heap.size _ [] rfl (EOwn.nil _ _) false (64384 + qq) 32 2 rfl (by simp) (Nat.le_refl _) ?_; intro a1 c1 w2 hown1 hgr1))
   have hb1 := ((Below.refl w.heap.size w).alloc (Nat.le_refl _) (.cells #[.bool false, .int .i64 (64384 + qq), .int .i64 32, .int .i64 2] 54))
   have hb2 : Below w.heap.size w w2 := hb1.grown hgr1 (by simp) (fun j hj => by cases hj)
   have hb3 := hb2.alloc hb2.size (.cells #[.bool false, .int .i64 (32768 + rr), .int .i64 0, .int .i64 0] 54)
   have hown1' : EOwn w2 w.heap.size (.slice a1 1 c1) [⟨false, 64384 + qq, 32, 2⟩] := hown1
   go_wp2_with (first | (at_builtin; refine wpList_append_el rfl _ _ rfl w.heap.size _ [⟨false, 64384 + qq, 32, 2⟩] rfl hown1' false (32768 + rr) 0 0 rfl (by simp) hb2.size ?_; intro a2 c2 w3 hown2 hgr2))
   have hb4 : Below w.heap.size w w3 := hb3.grown hgr2 (Nat.le_trans hb2.size (by simp)) (fun j hj => (own_ge hown1' hj).1)
   go_wp2
   go_ret
   refine ⟨_, rfl, ?_, hb4⟩
   rw [HR.out]
   exact hown2
  ·
   have hBv : B = 64448 := by rw [HB.out, if_neg (by omega), if_neg (by omega)]
   subst hBv
   have f0 : 13312 ≤ n := by omega
   have f1 : ¬ 131072 ≤ n := by omega
   have f2 : ¬ 19968 ≤ n := by omega
   have f3 : ¬ 63744 ≤ n := by omega
   have f4 : ¬ n ≤ 19903 := by omega
   have f5 : n ≤ 262143 := by omega
   have f6 : n ≤ 40959 := by omega
   have f7 : n ≤ 64255 := by omega
   clear hs HB hbi
   go_enter Tryz.func77, Tryz.ntmps77
   go_wp2_with fail
   refine (h1 _).mono ?_
   rintro _ w1 ⟨rfl, rfl⟩
   go_upto_region 10 with (first | (at_builtin; refine wpList_append_el rfl _ _ rfl w.heap.size _ [] rfl (EOwn.nil _ _) false (64448 + qq) 32 2 rfl (by simp) (Nat.le_refl _) ?_; intro a1 c1 w2 hown1 hgr1))
   have hb1 := ((Below.refl w.heap.size w).alloc (Nat.le_refl _) (.cells #[.bool false, .int .i64 (64448 + qq), .int .i64 32, .int .i64 2] 54))
   have hb2 : Below w.heap.size w w2 := hb1.grown hgr1 (by simp) (fun j hj => by cases hj)
   have hb3 := hb2.alloc hb2.size (.cells #[.bool false, .int .i64 (32768 + rr), .int .i64 0, .int .i64 0] 54)
   have hown1' : EOwn w2 w.heap.size (.slice a1 1 c1) [⟨false, 64448 + qq, 32, 2⟩] := hown1
   go_wp2_with (first | (at_builtin; refine wpList_append_el rfl _ _ rfl w.heap.size _ [⟨false, 64448 + qq, 32, 2⟩] rfl hown1' false (32768 + rr) 0 0 rfl (by simp) hb2.size ?_; intro a2 c2 w3 hown2 hgr2))
   have hb4 : Below w.heap.size w w3 := hb3.grown hgr2 (Nat.le_trans hb2.size (by simp)) (fun j hj => (own_ge hown1' hj).1)
   go_wp2
   go_ret
   refine ⟨_, rfl, ?_, hb4⟩
   rw [HR.out]
   exact hown2
  ·
   have hBv : B = 64320 := by rw [HB.out, if_pos (by omega)]
   subst hBv
   have f0 : 13312 ≤ n := by omega
   have f1 : ¬ 131072 ≤ n := by omega
   have f2 : 19968 ≤ n := by omega
   have f3 : ¬ 63744 ≤ n := by omega
   have f4 : ¬ n ≤ 19903 := by omega
   have f5 : n ≤ 262143 := by omega
   have f6 : n ≤ 40959 := by omega
   have f7 : n ≤ 64255 := by omega
   clear hs HB hbi
   go_enter Tryz.func77, Tryz.ntmps77
   go_wp2_with fail
   refine (h1 _).mono ?_
   rintro _ w1 ⟨rfl, rfl⟩
   go_upto_region 10 with (first | (at_builtin; refine wpList_append_el rfl _ _ rfl w.heap.size _ [] rfl (EOwn.nil _ _) false (64320 + qq) 32 2 rfl (by simp) (Nat.le_refl _) ?_; intro a1 c1 w2 hown1 hgr1))
   have hb1 := ((Below.refl w.heap.size w).alloc (Nat.le_refl _) (.cells #[.bool false, .int .i64 (64320 + qq), .int .i64 32, .int .i64 2] 54))
   have hb2 : Below w.heap.size w w2 := hb1.grown hgr1 (by simp) (fun j hj => by cases hj)
   have hb3 := hb2.alloc hb2.size (.cells #[.bool false, .int .i64 (32768 + rr), .int .i64 0, .int .i64 0] 54)
   have hown1' : EOwn w2 w.heap.size (.slice a1 1 c1) [⟨false, 64320 + qq, 32, 2⟩] := hown1
   go_wp2_with (first | (at_builtin; refine wpList_append_el rfl _ _ rfl w.heap.size _ [⟨false, 64320 + qq, 32, 2⟩] rfl hown1' false (32768 + rr) 0 0 rfl (by simp) hb2.size ?_; intro a2 c2 w3 hown2 hgr2))
   have hb4 : Below w.heap.size w w3 := hb3.grown hgr2 (Nat.le_trans hb2.size (by simp)) (fun j hj => (own_ge hown1' hj).1)
   go_wp2
   go_ret
   refine ⟨_, rfl, ?_, hb4⟩
   rw [HR.out]
   exact hown2
  ·
   have hBv : B = 64448 := by rw [HB.out, if_neg (by omega), if_neg (by omega)]
   subst hBv
   have f0 : 13312 ≤ n := by omega
   have f1 : ¬ 131072 ≤ n := by omega
   have f2 : 19968 ≤ n := by omega
   have f3 : ¬ 63744 ≤ n := by omega
   have f4 : ¬ n ≤ 19903 := by omega
   have f5 : n ≤ 262143 := by omega
   have f6 : ¬ n ≤ 40959 := by omega
   have f7 : n ≤ 64255 := by omega
   clear hs HB hbi
   go_enter Tryz.func77, Tryz.ntmps77
   go_wp2_with fail
   refine (h1 _).mono ?_
   rintro _ w1 ⟨rfl, rfl⟩
   go_upto_region 10 with (first | (at_builtin; refine wpList_append_el rfl _ _ rfl w.heap.size _ [] rfl (EOwn.nil _ _) false (64448 + qq) 32 2 rfl (by simp) (Nat.le_refl _) ?_; intro a1 c1 w2 hown1 hgr1))
   have hb1 := ((Below.refl w.heap.size w).alloc (Nat.le_refl _) (.cells #[.bool false, .int .i64 (64448 + qq), .int .i64 32, .int .i64 2] 54))
   have hb2 : Below w.heap.size w w2 := hb1.grown hgr1 (by simp) (fun j hj => by cases hj)
   have hb3 := hb2.alloc hb2.size (.cells #[.bool false, .int .i64 (32768 + rr), .int .i64 0, .int .i64 0] 54)
   have hown1' : EOwn w2 w.heap.size (.slice a1 1 c1) [⟨false, 64448 + qq, 32, 2⟩] := hown1
   go_wp2_with (first | (at_builtin; refine wpList_append_el rfl _ _ rfl w.heap.size _ [⟨false, 64448 + qq, 32, 2⟩] rfl hown1' false (32768 + rr) 0 0 rfl (by simp) hb2.size ?_; intro a2 c2 w3 hown2 hgr2))
   have hb4 : Below w.heap.size w w3 := hb3.grown hgr2 (Nat.le_trans hb2.size (by simp)) (fun j hj => (own_ge hown1' hj).1)
   go_wp2
   go_ret
   refine ⟨_, rfl, ?_, hb4⟩
   rw [HR.out]
   exact hown2
  ·
   have hBv : B = 64320 := by rw [HB.out, if_pos (by omega)]
   subst hBv
   have f0 : 13312 ≤ n := by omega
   have f1 : ¬ 131072 ≤ n := by omega
   have f2 : 19968 ≤ n := by omega
   have f3 : 63744 ≤ n := by omega
   have f4 : ¬ n ≤ 19903 := by omega
   have f5 : n ≤ 262143 := by omega
   have f6 : ¬ n ≤ 40959 := by omega
   have f7 : n ≤ 64255 := by omega
   clear hs HB hbi
   go_enter Tryz.func77, Tryz.ntmps77
   go_wp2_with fail
   refine (h1 _).mono ?_
   rintro _ w1 ⟨rfl, rfl⟩
   go_upto_region 10 with (first | (at_builtin; refine wpList_append_el rfl _ _ rfl w.heap.size _ [] rfl (EOwn.nil _ _) false (64320 + qq) 32 2 rfl (by simp) (Nat.le_refl _) ?_; intro a1 c1 w2 hown1 hgr1))
   have hb1 := ((Below.refl w.heap.size w).alloc (Nat.le_refl _) (.cells #[.bool false, .int .i64 (64320 + qq), .int .i64 32, .int .i64 2] 54))
   have hb2 : Below w.heap.size w w2 := hb1.grown hgr1 (by simp) (fun j hj => by cases hj)
   have hb3 := hb2.alloc hb2.size (.cells #[.bool false, .int .i64 (32768 + rr), .int .i64 0, .int .i64 0] 54)
   have hown1' : EOwn w2 w.heap.size (.slice a1 1 c1) [⟨false, 64320 + qq, 32, 2⟩] := hown1
   go_wp2_with (first | (at_builtin; refine wpList_append_el rfl _ _ rfl w.heap.size _ [⟨false, 64320 + qq, 32, 2⟩] rfl hown1' false (32768 + rr) 0 0 rfl (by simp) hb2.size ?_; intro a2 c2 w3 hown2 hgr2))
   have hb4 : Below w.heap.size w w3 := hb3.grown hgr2 (Nat.le_trans hb2.size (by simp)) (fun j hj => (own_ge hown1' hj).1)
   go_wp2
   go_ret
   refine ⟨_, rfl, ?_, hb4⟩
   rw [HR.out]
   exact hown2
  ·
   have hBv : B = 64448 := by rw [HB.out, if_neg (by omega), if_neg (by omega)]
   subst hBv
   have f0 : 13312 ≤ n := by omega
   have f1 : ¬ 131072 ≤ n := by omega
   have f2 : 19968 ≤ n := by omega
   have f3 : 63744 ≤ n := by omega
   have f4 : ¬ n ≤ 19903 := by omega
   have f5 : n ≤ 262143 := by omega
   have f6 : ¬ n ≤ 40959 := by omega
   have f7 : ¬ n ≤ 64255 := by omega
   clear hs HB hbi
   go_enter Tryz.func77, Tryz.ntmps77
   go_wp2_with fail
   refine (h1 _).mono ?_
   rintro _ w1 ⟨rfl, rfl⟩
   go_upto_region 10 with (first | (at_builtin; refine wpList_append_el rfl _ _ rfl w.heap.size _ [] rfl (EOwn.nil _ _) false (64448 + qq) 32 2 rfl (by simp) (Nat.le_refl _) ?_; intro a1 c1 w2 hown1 hgr1))
   have hb1 := ((Below.refl w.heap.size w).alloc (Nat.le_refl _) (.cells #[.bool false, .int .i64 (64448 + qq), .int .i64 32, .int .i64 2] 54))
   have hb2 : Below w.heap.size w w2 := hb1.grown hgr1 (by simp) (fun j hj => by cases hj)
   have hb3 := hb2.alloc hb2.size (.cells #[.bool false, .int .i64 (32768 + rr), .int .i64 0, .int .i64 0] 54)
   have hown1' : EOwn w2 w.heap.size (.slice a1 1 c1) [⟨false, 64448 + qq, 32, 2⟩] := hown1
   go_wp2_with (first | (at_builtin; refine wpList_append_el rfl _ _ rfl w.heap.size _ [⟨false, 64448 + qq, 32, 2⟩] rfl hown1' false (32768 + rr) 0 0 rfl (by simp) hb2.size ?_; intro a2 c2 w3 hown2 hgr2))
   have hb4 : Below w.heap.size w w3 := hb3.grown hgr2 (Nat.le_trans hb2.size (by simp)) (fun j hj => (own_ge hown1' hj).1)
   go_wp2
   go_ret
   refine ⟨_, rfl, ?_, hb4⟩
   rw [HR.out]
   exact hown2
  ·
   have hBv : B = 64384 := by rw [HB.out, if_neg (by omega), if_pos (by omega)]
   subst hBv
   have f0 : 13312 ≤ n := by omega
   have f1 : 131072 ≤ n := by omega
   have f2 : 19968 ≤ n := by omega
   have f3 : 63744 ≤ n := by omega
   have f4 : ¬ n ≤ 19903 := by omega
   have f5 : n ≤ 262143 := by omega
   have f6 : ¬ n ≤ 40959 := by omega
   have f7 : ¬ n ≤ 64255 := by omega
   clear hs HB hbi
   go_enter Tryz.func77, Tryz.ntmps77
   go_wp2_with fail
   refine (h1 _).mono ?_
   rintro _ w1 ⟨rfl, rfl⟩
   go_upto_region 10 with (first | (at_builtin; refine wpList_append_el rfl _ _ rfl w.heap.size _ [] rfl (EOwn.nil _ _) false (64384 + qq) 32 2 rfl (by simp) (Nat.le_refl _) ?_; intro a1 c1 w2 hown1 hgr1))
   have hb1 := ((Below.refl w.heap.size w).alloc (Nat.le_refl _) (.cells #[.bool false, .int .i64 (64384 + qq), .int .i64 32, .int .i64 2] 54))
   have hb2 : Below w.heap.size w w2 := hb1.grown hgr1 (by simp) (fun j hj => by cases hj)
   have hb3 := hb2.alloc hb2.size (.cells #[.bool false, .int .i64 (32768 + rr), .int .i64 0, .int .i64 0] 54)
   have hown1' : EOwn w2 w.heap.size (.slice a1 1 c1) [⟨false, 64384 + qq, 32, 2⟩] := hown1
   go_wp2_with (first | (at_builtin; refine wpList_append_el rfl _ _ rfl w.heap.size _ [⟨false, 64384 + qq, 32, 2⟩] rfl hown1' false (32768 + rr) 0 0 rfl (by simp) hb2.size ?_; intro a2 c2 w3 hown2 hgr2))
   have hb4 : Below w.heap.size w w3 := hb3.grown hgr2 (Nat.le_trans hb2.size (by simp)) (fun j hj => (own_ge hown1' hj).1)
   go_wp2
   go_ret
   refine ⟨_, rfl, ?_, hb4⟩
   rw [HR.out]
   exact hown2
  ·
   have hBv : B = 64448 := by rw [HB.out, if_neg (by omega), if_neg (by omega)]
   subst hBv
   have f0 : 13312 ≤ n := by omega
   have f1 : 131072 ≤ n := by omega
   have f2 : 19968 ≤ n := by omega
   have f3 : 63744 ≤ n := by omega
   have f4 : ¬ n ≤ 19903 := by omega
   have f5 : ¬ n ≤ 262143 := by omega
   have f6 : ¬ n ≤ 40959 := by omega
   have f7 : ¬ n ≤ 64255 := by omega
   clear hs HB hbi
   go_enter Tryz.func77, Tryz.ntmps77
   go_wp2_with fail
   refine (h1 _).mono ?_
   rintro _ w1 ⟨rfl, rfl⟩
   go_upto_region 10 with (first | (at_builtin; refine wpList_append_el rfl _ _ rfl w.heap.size _ [] rfl (EOwn.nil _ _) false (64448 + qq) 32 2 rfl (by simp) (Nat.le_refl _) ?_; intro a1 c1 w2 hown1 hgr1))
   have hb1 := ((Below.refl w.heap.size w).alloc (Nat.le_refl _) (.cells #[.bool false, .int .i64 (64448 + qq), .int .i64 32, .int .i64 2] 54))
   have hb2 : Below w.heap.size w w2 := hb1.grown hgr1 (by simp) (fun j hj => by cases hj)
   have hb3 := hb2.alloc hb2.size (.cells #[.bool false, .int .i64 (32768 + rr), .int .i64 0, .int .i64 0] 54)
   have hown1' : EOwn w2 w.heap.size (.slice a1 1 c1) [⟨false, 64448 + qq, 32, 2⟩] := hown1
   go_wp2_with (first | (at_builtin; refine wpList_append_el rfl _ _ rfl w.heap.size _ [⟨false, 64448 + qq, 32, 2⟩] rfl hown1' false (32768 + rr) 0 0 rfl (by simp) hb2.size ?_; intro a2 c2 w3 hown2 hgr2))
   have hb4 : Below w.heap.size w w3 := hb3.grown hgr2 (Nat.le_trans hb2.size (by simp)) (fun j hj => (own_ge hown1' hj).1)
   go_wp2
   go_ret
   refine ⟨_, rfl, ?_, hb4⟩
   rw [HR.out]
   exact hown2
theorem decide_cons (e f : El) (a b : List El) : decide (e :: a = f :: b) = (decide (e = f) && decide (a = b)) := by
 simp [List.cons.injEq]
theorem eq_el (e f : El) (w : World) : (Op.equalIn 10000 54 (elA e) (elA f)).run Tryz.prog w = .ok (decide (e = f)) w := by
 obtain ⟨e1, e2, e3, e4⟩ := e
 obtain ⟨f1, f2, f3, f4⟩ := f
 have h : ∀ d, (Op.equalIn (d + 1 + 1) 54 (elA ⟨e1, e2, e3, e4⟩) (elA ⟨f1, f2, f3, f4⟩)).run Tryz.prog w = .ok (decide ((⟨e1, e2, e3, e4⟩ : El) = ⟨f1, f2, f3, f4⟩)) w := fun d => by
  simp [go_sem, El.mk.injEq]
  by_cases h1 : e1 = f1 <;> by_cases h2 : e2 = f2 <;> by_cases h3 : e3 = f3 <;> by_cases h4 : e4 = f4 <;> simp [h1, h2, h3, h4]
 exact h 9998
set_option maxHeartbeats 2000000 in
theorem sameEls_any (va vb : Value) (a b : List El) (n₁ n₂ : Nat) (w : World) (ha : Els n₁ w va a) (hb : Els n₂ w vb b) (hla : a.length ≤ 4611686018427387904) (_hlb : b.length ≤ 4611686018427387904) :
  Calls Tryz.prog 16 #[va, vb] w fun e w' => e = .returned (.bool (decide (a = b))) ∧ Below w.heap.size w w' := by
 obtain ⟨aa, ca, rfl⟩ := ha.val
 obtain ⟨ab, cb, rfl⟩ := hb.val
 by_cases hl : a.length = b.length
 ·
  have bl : ((a.length : Int) != (b.length : Int)) = false := by rw [hl]; simp
  generalize hR : decide (a = b) = R
  have HR : Hid (decide (a.drop 0 = b.drop 0) = R) := hR
  have HL : Hid (a.length = b.length) := hl
  clear hl hR
  go_enter Tryz.func16, Tryz.ntmps16
  go_wp2_with fail
  go_loopw [5] (fun i wr => ∃ k : Nat, k ≤ a.length ∧ i = .int .i64 k ∧ Hid (decide (a.drop k = b.drop k) = R) ∧ ∃ n, wr = w.drewN n) (fun i _ => a.length - (intOf i).toNat)
  case atStart => exact ⟨0, by omega, rfl, HR, 0, rfl⟩
  case round =>
   clear HR
   obtain ⟨k, hk, rfl, HK, nd, rfl⟩ := hrel
   by_cases hlt : k < a.length
   ·
    have hltb : k < b.length := by have := HL.out; omega
    obtain ⟨b1, o1, rfl, x0, x1, x2, x3⟩ := ha.at hlt
    obtain ⟨b2, o2, rfl, y0, y1, y2, y3⟩ := hb.at hltb
    have hd : decide (a.drop k = b.drop k) = (decide (a[k] = b[k]) && decide (a.drop (k + 1) = b.drop (k + 1))) := by
     rw [List.drop_eq_getElem_cons hlt, List.drop_eq_getElem_cons hltb, decide_cons]
    have hKK := HK.out
    rw [hd] at hKK
    generalize a[k] = e at x0 x1 x2 x3 hKK
    generalize b[k] = f at y0 y1 y2 y3 hKK
    obtain ⟨e1, e2, e3, e4⟩ := e
    obtain ⟨f1, f2, f3, f4⟩ := f
    simp only at x0 x1 x2 x3 y0 y1 y2 y3
    have heq := fun w => eq_el ⟨e1, e2, e3, e4⟩ ⟨f1, f2, f3, f4⟩ w
    have HKK : Hid ((decide ((⟨e1, e2, e3, e4⟩ : El) = ⟨f1, f2, f3, f4⟩) && decide (a.drop (k + 1) = b.drop (k + 1))) = R) := hKK
    clear hKK HK hd
    go_upto_region 6 with fail
    cases hq : decide ((⟨e1, e2, e3, e4⟩ : El) = ⟨f1, f2, f3, f4⟩) with
    | true =>
     rw [hq] at heq
     have HK2 : Hid (decide (a.drop (k + 1) = b.drop (k + 1)) = R) := by
      show _ = _
      rw [← HKK.out, hq]; rfl
     clear HKK hq
     go_region
     go_wp2
     go_roundw
     case rel => exact ⟨k + 1, by omega, by simp, HK2, nd + 1, rfl⟩
     case measure => simp only [intOf]; omega
    | false =>
     rw [hq] at heq
     have hRf : R = false := by rw [← HKK.out, hq]; rfl
     clear HKK hq
     go_region
     go_wp2
     go_ret
     exact ⟨by rw [hRf]; rfl, (below_drewN6 w nd).drew⟩
   ·
    have hRt : R = true := by rw [← HK.out, List.drop_of_length_le (by omega), List.drop_of_length_le (by have := HL.out; omega)]; simp
    go_wp2
    go_ret
    exact ⟨by rw [hRt]; rfl, below_drewN6 _ _⟩
 ·
  have bl : ((a.length : Int) != (b.length : Int)) = true := by rw [bne_iff_ne]; omega
  have hR : decide (a = b) = false := by simp; intro e; exact hl (by rw [e])
  rw [hR]
  clear hR hl
  go_enter Tryz.func16, Tryz.ntmps16
  go_wp2
  go_ret
  exact ⟨rfl, Below.refl _ _⟩
end Go.Proofs.YtkcnjnccdafbfaaGreatDoor
