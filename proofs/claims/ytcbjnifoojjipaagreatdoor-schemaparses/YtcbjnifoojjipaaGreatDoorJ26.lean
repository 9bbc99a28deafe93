/- Contracts and lemmas (nothing is claimed here). -/
import Derived.Test.YtcbjnifoojjipaaGreatDoorJ9
import Derived.Test.YtcbjnifoojjipaaGreatDoorJ24
import Derived.Test.YtcbjnifoojjipaaGreatDoorJ8
import Derived.Test.YtcbjnifoojjipaaGreatDoorJ19
import Derived.Test.YtcbjnifoojjipaaGreatDoorJ25
namespace Go.Proofs.YtcbjnifoojjipaaGreatDoor
open Go.RowKit Go.Vf
theorem maySayO_eq (q : Bool) (name : ByteArray) (kind : Int) (down : Bool) (nulls : Int) (bnd ln : Bool) (lm : ByteArray) (hn : Bool) (hm : ByteArray) (most str : Int) (shf bck : Bool) (n : Nat) {z1 z2 z3 z4 z5 : Bool} (h1 : (!ln && lm.size == 0) = z1) (h2 : (!hn && hm.size == 0) = z2) (h3 : (most == 0) = z3) (h4 : (str == 0 && !shf && !bck) = z4) (h5 : (n == 0) = z5) :
    maySayO q ⟨name, kind, down, nulls, bnd, ln, lm, hn, hm, most, str, shf, bck⟩ n = (decide (1 ≤ kind) && decide (kind ≤ 7) && decide (nulls ≤ 2) && (if kind = 2 then (if bnd then q else (z1 && z2)) else !bnd && (z1 && z2)) && (if kind = 3 ∨ kind = 5 then decide (0 ≤ most) && decide (most ≤ 65536) else z3) && (if kind = 6 then decide (1 ≤ str) && decide (str ≤ 4) && (decide (str < 4) || shf) else z4) && (kind == 7 || z5)) := by
  subst h1 h2 h3 h4 h5
  simp only [maySayO, Bool.and_assoc]
set_option maxHeartbeats 8000000 in
set_option maxRecDepth 20000 in
theorem odd_1 (name : ByteArray) (down : Bool) (nulls : Int) (bnd ln : Bool) (lm : ByteArray) (hn : Bool) (hm : ByteArray) (most str : Int) (shf bck : Bool) (a : Option Addr) (n c : Nat) (hnn : n ≤ 281474976710656) (_hl : lm.size ≤ 17179869184) (_hh : hm.size ≤ 17179869184) (hnu : nulls ≤ 2) (w : World) :
    Calls Tryz.prog 55 #[fV ⟨name, 1, down, nulls, bnd, ln, lm, hn, hm, most, str, shf, bck⟩ a n c] w fun e w' => e = .returned (.bool (!maySayO (bndQ ⟨name, 1, down, nulls, bnd, ln, lm, hn, hm, most, str, shf, bck⟩) ⟨name, 1, down, nulls, bnd, ln, lm, hn, hm, most, str, shf, bck⟩ n)) ∧ Below w.heap.size w w' := by
  obtain ⟨z1, hz1⟩ : ∃ z, (!ln && lm.size == 0) = z := ⟨_, rfl⟩
  obtain ⟨z2, hz2⟩ : ∃ z, (!hn && hm.size == 0) = z := ⟨_, rfl⟩
  obtain ⟨z3, hz3⟩ : ∃ z, (most == 0) = z := ⟨_, rfl⟩
  obtain ⟨z4, hz4⟩ : ∃ z, (str == 0 && !shf && !bck) = z := ⟨_, rfl⟩
  obtain ⟨z5, hz5⟩ : ∃ z, (n == 0) = z := ⟨_, rfl⟩
  have he1 := num0 ln lm z1 hz1
  have he2 := num0 hn hm z2 hz2
  have he4 := col_eq str shf bck
  rw [hz4] at he4
  have he3 : (most != 0) = !z3 := by rw [← hz3]; rfl
  have he5 : decide ((0 : Int) < (n : Int)) = !z5 := by rw [← hz5]; cases n <;> simp <;> omega
  have he5' : decide (0 < n) = !z5 := by rw [← hz5]; cases n <;> simp
  have t3 : decide ((2 : Int) < nulls) = false := by simp; omega
  have hM := maySayO_eq (bndQ ⟨name, 1, down, nulls, bnd, ln, lm, hn, hm, most, str, shf, bck⟩) name 1 down nulls bnd ln lm hn hm most str shf bck n hz1 hz2 hz3 hz4 hz5
  rw [decide_eq_true hnu] at hM
  obtain ⟨R, hR⟩ : ∃ R, (!maySayO (bndQ ⟨name, 1, down, nulls, bnd, ln, lm, hn, hm, most, str, shf, bck⟩) ⟨name, 1, down, nulls, bnd, ln, lm, hn, hm, most, str, shf, bck⟩ n) = R := ⟨_, rfl⟩
  rw [hR]
  rw [hM] at hR
  have hb1 := (Below.refl w.heap.size w).alloc (Nat.le_refl _) (.cells #[.string name, .int .u8 1, .bool down, .int .u8 nulls, .bool bnd, .bool ln, .string lm, .bool hn, .string hm, .int .i64 most, .int .i64 str, .bool shf, .bool bck, .slice a n c] 48)
  have hb2 := hb1.alloc hb1.size (.cells #[.bool false, .string ⟨#[]⟩] 44)
  have hb3 := hb2.alloc hb2.size (.cells #[.int .i64 0, .bool false, .bool false] 46)
  clear hM hz1 hz2 hz4 hz5
  unfold fV
  dsimp only
  cases bnd with
  | true =>
    have hRn : R = true := by rw [← hR]; simp
    subst hRn
    clear hR
    go_enter Tryz.func55, Tryz.ntmps55
    go_wp2_with fail
    go_ret
    first | exact ⟨rfl, hb3⟩ | exact ⟨rfl, hb2⟩ | exact ⟨rfl, hb1⟩
  | false =>
    cases z1 with
    | false =>
      have hRn : R = true := by rw [← hR]; simp
      subst hRn
      clear hR
      go_enter Tryz.func55, Tryz.ntmps55
      go_wp2_with fail
      go_ret
      first | exact ⟨rfl, hb3⟩ | exact ⟨rfl, hb2⟩ | exact ⟨rfl, hb1⟩
    | true =>
      cases z2 with
      | false =>
        have hRn : R = true := by rw [← hR]; simp
        subst hRn
        clear hR
        go_enter Tryz.func55, Tryz.ntmps55
        go_wp2_with fail
        go_ret
        first | exact ⟨rfl, hb3⟩ | exact ⟨rfl, hb2⟩ | exact ⟨rfl, hb1⟩
      | true =>
        cases z3 with
        | false =>
          have hRn : R = true := by rw [← hR]; simp
          subst hRn
          clear hR
          go_enter Tryz.func55, Tryz.ntmps55
          go_wp2_with fail
          go_ret
          first | exact ⟨rfl, hb3⟩ | exact ⟨rfl, hb2⟩ | exact ⟨rfl, hb1⟩
        | true =>
          cases z4 with
          | false =>
            have hRn : R = true := by rw [← hR]; simp
            subst hRn
            clear hR
            go_enter Tryz.func55, Tryz.ntmps55
            go_wp2_with fail
            go_ret
            first | exact ⟨rfl, hb3⟩ | exact ⟨rfl, hb2⟩ | exact ⟨rfl, hb1⟩
          | true =>
            cases z5 with
            | false =>
              have hRn : R = true := by rw [← hR]; simp
              subst hRn
              clear hR
              go_enter Tryz.func55, Tryz.ntmps55
              go_wp2_with fail
              go_ret
              first | exact ⟨rfl, hb3⟩ | exact ⟨rfl, hb2⟩ | exact ⟨rfl, hb1⟩
            | true =>
              obtain rfl : most = 0 := by simpa using hz3
              have hRn : R = false := by rw [← hR]; simp
              subst hRn
              clear hR
              go_enter Tryz.func55, Tryz.ntmps55
              go_wp2_with fail
              go_ret
              first | exact ⟨rfl, hb3⟩ | exact ⟨rfl, hb2⟩ | exact ⟨rfl, hb1⟩
set_option maxHeartbeats 8000000 in
set_option maxRecDepth 20000 in
theorem odd_2 (name : ByteArray) (down : Bool) (nulls : Int) (bnd ln : Bool) (lm : ByteArray) (hn : Bool) (hm : ByteArray) (most str : Int) (shf bck : Bool) (a : Option Addr) (n c : Nat) (hnn : n ≤ 281474976710656) (hl : lm.size ≤ 17179869184) (hh : hm.size ≤ 17179869184) (hnu : nulls ≤ 2) (w : World) :
    Calls Tryz.prog 55 #[fV ⟨name, 2, down, nulls, bnd, ln, lm, hn, hm, most, str, shf, bck⟩ a n c] w fun e w' => e = .returned (.bool (!maySayO (bndQ ⟨name, 2, down, nulls, bnd, ln, lm, hn, hm, most, str, shf, bck⟩) ⟨name, 2, down, nulls, bnd, ln, lm, hn, hm, most, str, shf, bck⟩ n)) ∧ Below w.heap.size w w' := by
  obtain ⟨z1, hz1⟩ : ∃ z, (!ln && lm.size == 0) = z := ⟨_, rfl⟩
  obtain ⟨z2, hz2⟩ : ∃ z, (!hn && hm.size == 0) = z := ⟨_, rfl⟩
  obtain ⟨z3, hz3⟩ : ∃ z, (most == 0) = z := ⟨_, rfl⟩
  obtain ⟨z4, hz4⟩ : ∃ z, (str == 0 && !shf && !bck) = z := ⟨_, rfl⟩
  obtain ⟨z5, hz5⟩ : ∃ z, (n == 0) = z := ⟨_, rfl⟩
  have he1 := num0 ln lm z1 hz1
  have he2 := num0 hn hm z2 hz2
  have he4 := col_eq str shf bck
  rw [hz4] at he4
  have he3 : (most != 0) = !z3 := by rw [← hz3]; rfl
  have he5 : decide ((0 : Int) < (n : Int)) = !z5 := by rw [← hz5]; cases n <;> simp <;> omega
  have he5' : decide (0 < n) = !z5 := by rw [← hz5]; cases n <;> simp
  have t3 : decide ((2 : Int) < nulls) = false := by simp; omega
  have hM := maySayO_eq (bndQ ⟨name, 2, down, nulls, bnd, ln, lm, hn, hm, most, str, shf, bck⟩) name 2 down nulls bnd ln lm hn hm most str shf bck n hz1 hz2 hz3 hz4 hz5
  rw [decide_eq_true hnu] at hM
  obtain ⟨R, hR⟩ : ∃ R, (!maySayO (bndQ ⟨name, 2, down, nulls, bnd, ln, lm, hn, hm, most, str, shf, bck⟩) ⟨name, 2, down, nulls, bnd, ln, lm, hn, hm, most, str, shf, bck⟩ n) = R := ⟨_, rfl⟩
  rw [hR]
  rw [hM] at hR
  have hb1 := (Below.refl w.heap.size w).alloc (Nat.le_refl _) (.cells #[.string name, .int .u8 2, .bool down, .int .u8 nulls, .bool bnd, .bool ln, .string lm, .bool hn, .string hm, .int .i64 most, .int .i64 str, .bool shf, .bool bck, .slice a n c] 48)
  have hb2 := hb1.alloc hb1.size (.cells #[.bool false, .string ⟨#[]⟩] 44)
  have hb3 := hb2.alloc hb2.size (.cells #[.int .i64 0, .bool false, .bool false] 46)
  clear hM hz1 hz2 hz4 hz5
  unfold fV
  dsimp only
  cases z3 with
  | false =>
    have hRn : R = true := by rw [← hR]; simp
    subst hRn
    clear hR
    go_enter Tryz.func55, Tryz.ntmps55
    go_wp2_with fail
    go_ret
    first | exact ⟨rfl, hb3⟩ | exact ⟨rfl, hb2⟩ | exact ⟨rfl, hb1⟩
  | true =>
    cases z4 with
    | false =>
      have hRn : R = true := by rw [← hR]; simp
      subst hRn
      clear hR
      go_enter Tryz.func55, Tryz.ntmps55
      go_wp2_with fail
      go_ret
      first | exact ⟨rfl, hb3⟩ | exact ⟨rfl, hb2⟩ | exact ⟨rfl, hb1⟩
    | true =>
      cases z5 with
      | false =>
        have hRn : R = true := by rw [← hR]; simp
        subst hRn
        clear hR
        go_enter Tryz.func55, Tryz.ntmps55
        go_wp2_with fail
        go_ret
        first | exact ⟨rfl, hb3⟩ | exact ⟨rfl, hb2⟩ | exact ⟨rfl, hb1⟩
      | true =>
        obtain rfl : most = 0 := by simpa using hz3
        cases bnd with
        | false =>
          cases z1 with
          | false =>
            have hRn : R = true := by rw [← hR]; simp
            subst hRn
            clear hR
            go_enter Tryz.func55, Tryz.ntmps55
            go_wp2_with fail
            go_ret
            first | exact ⟨rfl, hb3⟩ | exact ⟨rfl, hb2⟩ | exact ⟨rfl, hb1⟩
          | true =>
            cases z2 with
            | false =>
              have hRn : R = true := by rw [← hR]; simp
              subst hRn
              clear hR
              go_enter Tryz.func55, Tryz.ntmps55
              go_wp2_with fail
              go_ret
              first | exact ⟨rfl, hb3⟩ | exact ⟨rfl, hb2⟩ | exact ⟨rfl, hb1⟩
            | true =>
              have hRn : R = false := by rw [← hR]; simp
              subst hRn
              clear hR
              go_enter Tryz.func55, Tryz.ntmps55
              go_wp2_with fail
              go_ret
              first | exact ⟨rfl, hb3⟩ | exact ⟨rfl, hb2⟩ | exact ⟨rfl, hb1⟩
        | true =>
          have hcp : ∀ W, Calls Tryz.prog 82 #[.agg #[.bool ln, .string lm], .agg #[.bool hn, .string hm]] W fun e w' => e = compE ln lm.data.toList hn hm.data.toList ∧ Below W.heap.size W w' := fun W => rcompare_any ln lm hn hm hl hh W
          by_cases hc : chk ln lm.data.toList = 0 ∧ chk hn hm.data.toList = 0
          · rw [compE_0 hc.1 hc.2] at hcp
            have hRn : R = decide (0 < cmpN ln lm.data.toList hn hm.data.toList) := by
              rw [← hR]
              have hq : bndQ ⟨name, 2, down, nulls, true, ln, lm, hn, hm, 0, str, shf, bck⟩ = decide (cmpN ln lm.data.toList hn hm.data.toList ≤ 0) := by simp [bndQ, hc.1, hc.2]
              rw [hq]
              by_cases h9 : cmpN ln lm.data.toList hn hm.data.toList ≤ 0
              · simp [h9]
              · simp [h9]; omega
            subst hRn
            generalize cmpN ln lm.data.toList hn hm.data.toList = q at hcp ⊢
            clear hR hc
            go_enter Tryz.func55, Tryz.ntmps55
            go_wp2_with fail
            refine (hcp _).mono ?_
            rintro _ w2 ⟨rfl, hb4⟩
            have hb5 := hb3.trans (hb4.mono hb3.size)
            clear hcp hb1 hb2 hb3 hb4
            go_wp2_with fail
            go_ret
            exact ⟨rfl, hb5⟩
          · obtain ⟨e, he, hE⟩ := compE_1 hc
            rw [hE] at hcp
            have hB : bndQ ⟨name, 2, down, nulls, true, ln, lm, hn, hm, 0, str, shf, bck⟩ = false := by
              unfold bndQ
              cases h1 : decide (chk ln lm.data.toList = 0) with
              | false => rfl
              | true =>
                cases h2 : decide (chk hn hm.data.toList = 0) with
                | false => rfl
                | true => exact absurd ⟨of_decide_eq_true h1, of_decide_eq_true h2⟩ hc
            have hRn : R = true := by rw [← hR, hB]; simp
            subst hRn
            have t1 : (e != 0) = true := by simpa using he
            clear hR hc hE he hB
            go_enter Tryz.func55, Tryz.ntmps55
            go_wp2_with fail
            refine (hcp _).mono ?_
            rintro _ w2 ⟨rfl, hb4⟩
            have hb5 := hb3.trans (hb4.mono hb3.size)
            clear hcp hb1 hb2 hb3 hb4
            go_wp2_with fail
            go_ret
            exact ⟨rfl, hb5⟩
set_option maxHeartbeats 8000000 in
set_option maxRecDepth 20000 in
theorem odd_3 (name : ByteArray) (down : Bool) (nulls : Int) (bnd ln : Bool) (lm : ByteArray) (hn : Bool) (hm : ByteArray) (most str : Int) (shf bck : Bool) (a : Option Addr) (n c : Nat) (hnn : n ≤ 281474976710656) (_hl : lm.size ≤ 17179869184) (_hh : hm.size ≤ 17179869184) (hnu : nulls ≤ 2) (w : World) :
    Calls Tryz.prog 55 #[fV ⟨name, 3, down, nulls, bnd, ln, lm, hn, hm, most, str, shf, bck⟩ a n c] w fun e w' => e = .returned (.bool (!maySayO (bndQ ⟨name, 3, down, nulls, bnd, ln, lm, hn, hm, most, str, shf, bck⟩) ⟨name, 3, down, nulls, bnd, ln, lm, hn, hm, most, str, shf, bck⟩ n)) ∧ Below w.heap.size w w' := by
  obtain ⟨z1, hz1⟩ : ∃ z, (!ln && lm.size == 0) = z := ⟨_, rfl⟩
  obtain ⟨z2, hz2⟩ : ∃ z, (!hn && hm.size == 0) = z := ⟨_, rfl⟩
  obtain ⟨z3, hz3⟩ : ∃ z, (most == 0) = z := ⟨_, rfl⟩
  obtain ⟨z4, hz4⟩ : ∃ z, (str == 0 && !shf && !bck) = z := ⟨_, rfl⟩
  obtain ⟨z5, hz5⟩ : ∃ z, (n == 0) = z := ⟨_, rfl⟩
  have he1 := num0 ln lm z1 hz1
  have he2 := num0 hn hm z2 hz2
  have he4 := col_eq str shf bck
  rw [hz4] at he4
  have he3 : (most != 0) = !z3 := by rw [← hz3]; rfl
  have he5 : decide ((0 : Int) < (n : Int)) = !z5 := by rw [← hz5]; cases n <;> simp <;> omega
  have he5' : decide (0 < n) = !z5 := by rw [← hz5]; cases n <;> simp
  have t3 : decide ((2 : Int) < nulls) = false := by simp; omega
  have hM := maySayO_eq (bndQ ⟨name, 3, down, nulls, bnd, ln, lm, hn, hm, most, str, shf, bck⟩) name 3 down nulls bnd ln lm hn hm most str shf bck n hz1 hz2 hz3 hz4 hz5
  rw [decide_eq_true hnu] at hM
  obtain ⟨R, hR⟩ : ∃ R, (!maySayO (bndQ ⟨name, 3, down, nulls, bnd, ln, lm, hn, hm, most, str, shf, bck⟩) ⟨name, 3, down, nulls, bnd, ln, lm, hn, hm, most, str, shf, bck⟩ n) = R := ⟨_, rfl⟩
  rw [hR]
  rw [hM] at hR
  have hb1 := (Below.refl w.heap.size w).alloc (Nat.le_refl _) (.cells #[.string name, .int .u8 3, .bool down, .int .u8 nulls, .bool bnd, .bool ln, .string lm, .bool hn, .string hm, .int .i64 most, .int .i64 str, .bool shf, .bool bck, .slice a n c] 48)
  have hb2 := hb1.alloc hb1.size (.cells #[.bool false, .string ⟨#[]⟩] 44)
  have hb3 := hb2.alloc hb2.size (.cells #[.int .i64 0, .bool false, .bool false] 46)
  clear hM hz1 hz2 hz4 hz5
  unfold fV
  dsimp only
  cases bnd with
  | true =>
    have hRn : R = true := by rw [← hR]; simp
    subst hRn
    clear hR
    go_enter Tryz.func55, Tryz.ntmps55
    go_wp2_with fail
    go_ret
    first | exact ⟨rfl, hb3⟩ | exact ⟨rfl, hb2⟩ | exact ⟨rfl, hb1⟩
  | false =>
    cases z1 with
    | false =>
      have hRn : R = true := by rw [← hR]; simp
      subst hRn
      clear hR
      go_enter Tryz.func55, Tryz.ntmps55
      go_wp2_with fail
      go_ret
      first | exact ⟨rfl, hb3⟩ | exact ⟨rfl, hb2⟩ | exact ⟨rfl, hb1⟩
    | true =>
      cases z2 with
      | false =>
        have hRn : R = true := by rw [← hR]; simp
        subst hRn
        clear hR
        go_enter Tryz.func55, Tryz.ntmps55
        go_wp2_with fail
        go_ret
        first | exact ⟨rfl, hb3⟩ | exact ⟨rfl, hb2⟩ | exact ⟨rfl, hb1⟩
      | true =>
        cases z4 with
        | false =>
          have hRn : R = true := by rw [← hR]; simp
          subst hRn
          clear hR
          go_enter Tryz.func55, Tryz.ntmps55
          go_wp2_with fail
          go_ret
          first | exact ⟨rfl, hb3⟩ | exact ⟨rfl, hb2⟩ | exact ⟨rfl, hb1⟩
        | true =>
          cases z5 with
          | false =>
            have hRn : R = true := by rw [← hR]; simp
            subst hRn
            clear hR
            go_enter Tryz.func55, Tryz.ntmps55
            go_wp2_with fail
            go_ret
            first | exact ⟨rfl, hb3⟩ | exact ⟨rfl, hb2⟩ | exact ⟨rfl, hb1⟩
          | true =>
            cases s1 : decide (0 ≤ most) with
            | false =>
              have s1' : decide (most < 0) = true := by simp at s1 ⊢; omega
              have hRn : R = true := by rw [← hR]; rw [s1]; simp
              subst hRn
              clear hR
              go_enter Tryz.func55, Tryz.ntmps55
              go_wp2_with fail
              go_ret
              first | exact ⟨rfl, hb3⟩ | exact ⟨rfl, hb2⟩ | exact ⟨rfl, hb1⟩
            | true =>
              have s1' : decide (most < 0) = false := by simp at s1 ⊢; omega
              cases s2 : decide (most ≤ 65536) with
              | false =>
                have s2' : decide (65536 < most) = true := by simp at s2 ⊢; omega
                have hRn : R = true := by rw [← hR]; rw [s1, s2]; simp
                subst hRn
                clear hR
                go_enter Tryz.func55, Tryz.ntmps55
                go_wp2_with fail
                go_ret
                first | exact ⟨rfl, hb3⟩ | exact ⟨rfl, hb2⟩ | exact ⟨rfl, hb1⟩
              | true =>
                have s2' : decide (65536 < most) = false := by simp at s2 ⊢; omega
                have hRn : R = false := by rw [← hR]; rw [s1, s2]; simp
                subst hRn
                clear hR
                go_enter Tryz.func55, Tryz.ntmps55
                go_wp2_with fail
                go_ret
                first | exact ⟨rfl, hb3⟩ | exact ⟨rfl, hb2⟩ | exact ⟨rfl, hb1⟩
set_option maxHeartbeats 8000000 in
set_option maxRecDepth 20000 in
theorem odd_4 (name : ByteArray) (down : Bool) (nulls : Int) (bnd ln : Bool) (lm : ByteArray) (hn : Bool) (hm : ByteArray) (most str : Int) (shf bck : Bool) (a : Option Addr) (n c : Nat) (hnn : n ≤ 281474976710656) (_hl : lm.size ≤ 17179869184) (_hh : hm.size ≤ 17179869184) (hnu : nulls ≤ 2) (w : World) :
    Calls Tryz.prog 55 #[fV ⟨name, 4, down, nulls, bnd, ln, lm, hn, hm, most, str, shf, bck⟩ a n c] w fun e w' => e = .returned (.bool (!maySayO (bndQ ⟨name, 4, down, nulls, bnd, ln, lm, hn, hm, most, str, shf, bck⟩) ⟨name, 4, down, nulls, bnd, ln, lm, hn, hm, most, str, shf, bck⟩ n)) ∧ Below w.heap.size w w' := by
  obtain ⟨z1, hz1⟩ : ∃ z, (!ln && lm.size == 0) = z := ⟨_, rfl⟩
  obtain ⟨z2, hz2⟩ : ∃ z, (!hn && hm.size == 0) = z := ⟨_, rfl⟩
  obtain ⟨z3, hz3⟩ : ∃ z, (most == 0) = z := ⟨_, rfl⟩
  obtain ⟨z4, hz4⟩ : ∃ z, (str == 0 && !shf && !bck) = z := ⟨_, rfl⟩
  obtain ⟨z5, hz5⟩ : ∃ z, (n == 0) = z := ⟨_, rfl⟩
  have he1 := num0 ln lm z1 hz1
  have he2 := num0 hn hm z2 hz2
  have he4 := col_eq str shf bck
  rw [hz4] at he4
  have he3 : (most != 0) = !z3 := by rw [← hz3]; rfl
  have he5 : decide ((0 : Int) < (n : Int)) = !z5 := by rw [← hz5]; cases n <;> simp <;> omega
  have he5' : decide (0 < n) = !z5 := by rw [← hz5]; cases n <;> simp
  have t3 : decide ((2 : Int) < nulls) = false := by simp; omega
  have hM := maySayO_eq (bndQ ⟨name, 4, down, nulls, bnd, ln, lm, hn, hm, most, str, shf, bck⟩) name 4 down nulls bnd ln lm hn hm most str shf bck n hz1 hz2 hz3 hz4 hz5
  rw [decide_eq_true hnu] at hM
  obtain ⟨R, hR⟩ : ∃ R, (!maySayO (bndQ ⟨name, 4, down, nulls, bnd, ln, lm, hn, hm, most, str, shf, bck⟩) ⟨name, 4, down, nulls, bnd, ln, lm, hn, hm, most, str, shf, bck⟩ n) = R := ⟨_, rfl⟩
  rw [hR]
  rw [hM] at hR
  have hb1 := (Below.refl w.heap.size w).alloc (Nat.le_refl _) (.cells #[.string name, .int .u8 4, .bool down, .int .u8 nulls, .bool bnd, .bool ln, .string lm, .bool hn, .string hm, .int .i64 most, .int .i64 str, .bool shf, .bool bck, .slice a n c] 48)
  have hb2 := hb1.alloc hb1.size (.cells #[.bool false, .string ⟨#[]⟩] 44)
  have hb3 := hb2.alloc hb2.size (.cells #[.int .i64 0, .bool false, .bool false] 46)
  clear hM hz1 hz2 hz4 hz5
  unfold fV
  dsimp only
  cases bnd with
  | true =>
    have hRn : R = true := by rw [← hR]; simp
    subst hRn
    clear hR
    go_enter Tryz.func55, Tryz.ntmps55
    go_wp2_with fail
    go_ret
    first | exact ⟨rfl, hb3⟩ | exact ⟨rfl, hb2⟩ | exact ⟨rfl, hb1⟩
  | false =>
    cases z1 with
    | false =>
      have hRn : R = true := by rw [← hR]; simp
      subst hRn
      clear hR
      go_enter Tryz.func55, Tryz.ntmps55
      go_wp2_with fail
      go_ret
      first | exact ⟨rfl, hb3⟩ | exact ⟨rfl, hb2⟩ | exact ⟨rfl, hb1⟩
    | true =>
      cases z2 with
      | false =>
        have hRn : R = true := by rw [← hR]; simp
        subst hRn
        clear hR
        go_enter Tryz.func55, Tryz.ntmps55
        go_wp2_with fail
        go_ret
        first | exact ⟨rfl, hb3⟩ | exact ⟨rfl, hb2⟩ | exact ⟨rfl, hb1⟩
      | true =>
        cases z3 with
        | false =>
          have hRn : R = true := by rw [← hR]; simp
          subst hRn
          clear hR
          go_enter Tryz.func55, Tryz.ntmps55
          go_wp2_with fail
          go_ret
          first | exact ⟨rfl, hb3⟩ | exact ⟨rfl, hb2⟩ | exact ⟨rfl, hb1⟩
        | true =>
          cases z4 with
          | false =>
            have hRn : R = true := by rw [← hR]; simp
            subst hRn
            clear hR
            go_enter Tryz.func55, Tryz.ntmps55
            go_wp2_with fail
            go_ret
            first | exact ⟨rfl, hb3⟩ | exact ⟨rfl, hb2⟩ | exact ⟨rfl, hb1⟩
          | true =>
            cases z5 with
            | false =>
              have hRn : R = true := by rw [← hR]; simp
              subst hRn
              clear hR
              go_enter Tryz.func55, Tryz.ntmps55
              go_wp2_with fail
              go_ret
              first | exact ⟨rfl, hb3⟩ | exact ⟨rfl, hb2⟩ | exact ⟨rfl, hb1⟩
            | true =>
              obtain rfl : most = 0 := by simpa using hz3
              have hRn : R = false := by rw [← hR]; simp
              subst hRn
              clear hR
              go_enter Tryz.func55, Tryz.ntmps55
              go_wp2_with fail
              go_ret
              first | exact ⟨rfl, hb3⟩ | exact ⟨rfl, hb2⟩ | exact ⟨rfl, hb1⟩
set_option maxHeartbeats 8000000 in
set_option maxRecDepth 20000 in
theorem odd_5 (name : ByteArray) (down : Bool) (nulls : Int) (bnd ln : Bool) (lm : ByteArray) (hn : Bool) (hm : ByteArray) (most str : Int) (shf bck : Bool) (a : Option Addr) (n c : Nat) (hnn : n ≤ 281474976710656) (_hl : lm.size ≤ 17179869184) (_hh : hm.size ≤ 17179869184) (hnu : nulls ≤ 2) (w : World) :
    Calls Tryz.prog 55 #[fV ⟨name, 5, down, nulls, bnd, ln, lm, hn, hm, most, str, shf, bck⟩ a n c] w fun e w' => e = .returned (.bool (!maySayO (bndQ ⟨name, 5, down, nulls, bnd, ln, lm, hn, hm, most, str, shf, bck⟩) ⟨name, 5, down, nulls, bnd, ln, lm, hn, hm, most, str, shf, bck⟩ n)) ∧ Below w.heap.size w w' := by
  obtain ⟨z1, hz1⟩ : ∃ z, (!ln && lm.size == 0) = z := ⟨_, rfl⟩
  obtain ⟨z2, hz2⟩ : ∃ z, (!hn && hm.size == 0) = z := ⟨_, rfl⟩
  obtain ⟨z3, hz3⟩ : ∃ z, (most == 0) = z := ⟨_, rfl⟩
  obtain ⟨z4, hz4⟩ : ∃ z, (str == 0 && !shf && !bck) = z := ⟨_, rfl⟩
  obtain ⟨z5, hz5⟩ : ∃ z, (n == 0) = z := ⟨_, rfl⟩
  have he1 := num0 ln lm z1 hz1
  have he2 := num0 hn hm z2 hz2
  have he4 := col_eq str shf bck
  rw [hz4] at he4
  have he3 : (most != 0) = !z3 := by rw [← hz3]; rfl
  have he5 : decide ((0 : Int) < (n : Int)) = !z5 := by rw [← hz5]; cases n <;> simp <;> omega
  have he5' : decide (0 < n) = !z5 := by rw [← hz5]; cases n <;> simp
  have t3 : decide ((2 : Int) < nulls) = false := by simp; omega
  have hM := maySayO_eq (bndQ ⟨name, 5, down, nulls, bnd, ln, lm, hn, hm, most, str, shf, bck⟩) name 5 down nulls bnd ln lm hn hm most str shf bck n hz1 hz2 hz3 hz4 hz5
  rw [decide_eq_true hnu] at hM
  obtain ⟨R, hR⟩ : ∃ R, (!maySayO (bndQ ⟨name, 5, down, nulls, bnd, ln, lm, hn, hm, most, str, shf, bck⟩) ⟨name, 5, down, nulls, bnd, ln, lm, hn, hm, most, str, shf, bck⟩ n) = R := ⟨_, rfl⟩
  rw [hR]
  rw [hM] at hR
  have hb1 := (Below.refl w.heap.size w).alloc (Nat.le_refl _) (.cells #[.string name, .int .u8 5, .bool down, .int .u8 nulls, .bool bnd, .bool ln, .string lm, .bool hn, .string hm, .int .i64 most, .int .i64 str, .bool shf, .bool bck, .slice a n c] 48)
  have hb2 := hb1.alloc hb1.size (.cells #[.bool false, .string ⟨#[]⟩] 44)
  have hb3 := hb2.alloc hb2.size (.cells #[.int .i64 0, .bool false, .bool false] 46)
  clear hM hz1 hz2 hz4 hz5
  unfold fV
  dsimp only
  cases bnd with
  | true =>
    have hRn : R = true := by rw [← hR]; simp
    subst hRn
    clear hR
    go_enter Tryz.func55, Tryz.ntmps55
    go_wp2_with fail
    go_ret
    first | exact ⟨rfl, hb3⟩ | exact ⟨rfl, hb2⟩ | exact ⟨rfl, hb1⟩
  | false =>
    cases z1 with
    | false =>
      have hRn : R = true := by rw [← hR]; simp
      subst hRn
      clear hR
      go_enter Tryz.func55, Tryz.ntmps55
      go_wp2_with fail
      go_ret
      first | exact ⟨rfl, hb3⟩ | exact ⟨rfl, hb2⟩ | exact ⟨rfl, hb1⟩
    | true =>
      cases z2 with
      | false =>
        have hRn : R = true := by rw [← hR]; simp
        subst hRn
        clear hR
        go_enter Tryz.func55, Tryz.ntmps55
        go_wp2_with fail
        go_ret
        first | exact ⟨rfl, hb3⟩ | exact ⟨rfl, hb2⟩ | exact ⟨rfl, hb1⟩
      | true =>
        cases z4 with
        | false =>
          have hRn : R = true := by rw [← hR]; simp
          subst hRn
          clear hR
          go_enter Tryz.func55, Tryz.ntmps55
          go_wp2_with fail
          go_ret
          first | exact ⟨rfl, hb3⟩ | exact ⟨rfl, hb2⟩ | exact ⟨rfl, hb1⟩
        | true =>
          cases z5 with
          | false =>
            have hRn : R = true := by rw [← hR]; simp
            subst hRn
            clear hR
            go_enter Tryz.func55, Tryz.ntmps55
            go_wp2_with fail
            go_ret
            first | exact ⟨rfl, hb3⟩ | exact ⟨rfl, hb2⟩ | exact ⟨rfl, hb1⟩
          | true =>
            cases s1 : decide (0 ≤ most) with
            | false =>
              have s1' : decide (most < 0) = true := by simp at s1 ⊢; omega
              have hRn : R = true := by rw [← hR]; rw [s1]; simp
              subst hRn
              clear hR
              go_enter Tryz.func55, Tryz.ntmps55
              go_wp2_with fail
              go_ret
              first | exact ⟨rfl, hb3⟩ | exact ⟨rfl, hb2⟩ | exact ⟨rfl, hb1⟩
            | true =>
              have s1' : decide (most < 0) = false := by simp at s1 ⊢; omega
              cases s2 : decide (most ≤ 65536) with
              | false =>
                have s2' : decide (65536 < most) = true := by simp at s2 ⊢; omega
                have hRn : R = true := by rw [← hR]; rw [s1, s2]; simp
                subst hRn
                clear hR
                go_enter Tryz.func55, Tryz.ntmps55
                go_wp2_with fail
                go_ret
                first | exact ⟨rfl, hb3⟩ | exact ⟨rfl, hb2⟩ | exact ⟨rfl, hb1⟩
              | true =>
                have s2' : decide (65536 < most) = false := by simp at s2 ⊢; omega
                have hRn : R = false := by rw [← hR]; rw [s1, s2]; simp
                subst hRn
                clear hR
                go_enter Tryz.func55, Tryz.ntmps55
                go_wp2_with fail
                go_ret
                first | exact ⟨rfl, hb3⟩ | exact ⟨rfl, hb2⟩ | exact ⟨rfl, hb1⟩
set_option maxHeartbeats 8000000 in
set_option maxRecDepth 20000 in
theorem odd_6 (name : ByteArray) (down : Bool) (nulls : Int) (bnd ln : Bool) (lm : ByteArray) (hn : Bool) (hm : ByteArray) (most str : Int) (shf bck : Bool) (a : Option Addr) (n c : Nat) (hnn : n ≤ 281474976710656) (_hl : lm.size ≤ 17179869184) (_hh : hm.size ≤ 17179869184) (hnu : nulls ≤ 2) (w : World) :
    Calls Tryz.prog 55 #[fV ⟨name, 6, down, nulls, bnd, ln, lm, hn, hm, most, str, shf, bck⟩ a n c] w fun e w' => e = .returned (.bool (!maySayO (bndQ ⟨name, 6, down, nulls, bnd, ln, lm, hn, hm, most, str, shf, bck⟩) ⟨name, 6, down, nulls, bnd, ln, lm, hn, hm, most, str, shf, bck⟩ n)) ∧ Below w.heap.size w w' := by
  obtain ⟨z1, hz1⟩ : ∃ z, (!ln && lm.size == 0) = z := ⟨_, rfl⟩
  obtain ⟨z2, hz2⟩ : ∃ z, (!hn && hm.size == 0) = z := ⟨_, rfl⟩
  obtain ⟨z3, hz3⟩ : ∃ z, (most == 0) = z := ⟨_, rfl⟩
  obtain ⟨z4, hz4⟩ : ∃ z, (str == 0 && !shf && !bck) = z := ⟨_, rfl⟩
  obtain ⟨z5, hz5⟩ : ∃ z, (n == 0) = z := ⟨_, rfl⟩
  have he1 := num0 ln lm z1 hz1
  have he2 := num0 hn hm z2 hz2
  have he4 := col_eq str shf bck
  rw [hz4] at he4
  have he3 : (most != 0) = !z3 := by rw [← hz3]; rfl
  have he5 : decide ((0 : Int) < (n : Int)) = !z5 := by rw [← hz5]; cases n <;> simp <;> omega
  have he5' : decide (0 < n) = !z5 := by rw [← hz5]; cases n <;> simp
  have t3 : decide ((2 : Int) < nulls) = false := by simp; omega
  have hM := maySayO_eq (bndQ ⟨name, 6, down, nulls, bnd, ln, lm, hn, hm, most, str, shf, bck⟩) name 6 down nulls bnd ln lm hn hm most str shf bck n hz1 hz2 hz3 hz4 hz5
  rw [decide_eq_true hnu] at hM
  obtain ⟨R, hR⟩ : ∃ R, (!maySayO (bndQ ⟨name, 6, down, nulls, bnd, ln, lm, hn, hm, most, str, shf, bck⟩) ⟨name, 6, down, nulls, bnd, ln, lm, hn, hm, most, str, shf, bck⟩ n) = R := ⟨_, rfl⟩
  rw [hR]
  rw [hM] at hR
  have hb1 := (Below.refl w.heap.size w).alloc (Nat.le_refl _) (.cells #[.string name, .int .u8 6, .bool down, .int .u8 nulls, .bool bnd, .bool ln, .string lm, .bool hn, .string hm, .int .i64 most, .int .i64 str, .bool shf, .bool bck, .slice a n c] 48)
  have hb2 := hb1.alloc hb1.size (.cells #[.bool false, .string ⟨#[]⟩] 44)
  have hb3 := hb2.alloc hb2.size (.cells #[.int .i64 0, .bool false, .bool false] 46)
  clear hM hz1 hz2 hz4 hz5
  unfold fV
  dsimp only
  cases bnd with
  | true =>
    have hRn : R = true := by rw [← hR]; simp
    subst hRn
    clear hR
    go_enter Tryz.func55, Tryz.ntmps55
    go_wp2_with fail
    go_ret
    first | exact ⟨rfl, hb3⟩ | exact ⟨rfl, hb2⟩ | exact ⟨rfl, hb1⟩
  | false =>
    cases z1 with
    | false =>
      have hRn : R = true := by rw [← hR]; simp
      subst hRn
      clear hR
      go_enter Tryz.func55, Tryz.ntmps55
      go_wp2_with fail
      go_ret
      first | exact ⟨rfl, hb3⟩ | exact ⟨rfl, hb2⟩ | exact ⟨rfl, hb1⟩
    | true =>
      cases z2 with
      | false =>
        have hRn : R = true := by rw [← hR]; simp
        subst hRn
        clear hR
        go_enter Tryz.func55, Tryz.ntmps55
        go_wp2_with fail
        go_ret
        first | exact ⟨rfl, hb3⟩ | exact ⟨rfl, hb2⟩ | exact ⟨rfl, hb1⟩
      | true =>
        cases z3 with
        | false =>
          have hRn : R = true := by rw [← hR]; simp
          subst hRn
          clear hR
          go_enter Tryz.func55, Tryz.ntmps55
          go_wp2_with fail
          go_ret
          first | exact ⟨rfl, hb3⟩ | exact ⟨rfl, hb2⟩ | exact ⟨rfl, hb1⟩
        | true =>
          cases z5 with
          | false =>
            have hRn : R = true := by rw [← hR]; simp
            subst hRn
            clear hR
            go_enter Tryz.func55, Tryz.ntmps55
            go_wp2_with fail
            go_ret
            first | exact ⟨rfl, hb3⟩ | exact ⟨rfl, hb2⟩ | exact ⟨rfl, hb1⟩
          | true =>
            obtain rfl : most = 0 := by simpa using hz3
            cases s1 : decide (1 ≤ str) with
            | false =>
              have s1' : decide (str < 1) = true := by simp at s1 ⊢; omega
              have hRn : R = true := by rw [← hR]; rw [s1]; simp
              subst hRn
              clear hR
              go_enter Tryz.func55, Tryz.ntmps55
              go_wp2_with fail
              go_ret
              first | exact ⟨rfl, hb3⟩ | exact ⟨rfl, hb2⟩ | exact ⟨rfl, hb1⟩
            | true =>
              have s1' : decide (str < 1) = false := by simp at s1 ⊢; omega
              cases s2 : decide (str ≤ 4) with
              | false =>
                have s2' : decide (4 < str) = true := by simp at s2 ⊢; omega
                have hRn : R = true := by rw [← hR]; rw [s1, s2]; simp
                subst hRn
                clear hR
                go_enter Tryz.func55, Tryz.ntmps55
                go_wp2_with fail
                go_ret
                first | exact ⟨rfl, hb3⟩ | exact ⟨rfl, hb2⟩ | exact ⟨rfl, hb1⟩
              | true =>
                have s2' : decide (4 < str) = false := by simp at s2 ⊢; omega
                cases s3 : decide (str < 4) with
                | true =>
                  have s3' : (str == 4) = false := by simp at s3 ⊢; omega
                  have hRn : R = false := by rw [← hR]; rw [s1, s2, s3]; simp
                  subst hRn
                  clear hR
                  go_enter Tryz.func55, Tryz.ntmps55
                  go_wp2_with fail
                  go_ret
                  first | exact ⟨rfl, hb3⟩ | exact ⟨rfl, hb2⟩ | exact ⟨rfl, hb1⟩
                | false =>
                  have s3' : (str == 4) = true := by simp at s2 s3 ⊢; omega
                  cases shf with
                  | true =>
                    have hRn : R = false := by rw [← hR]; rw [s1, s2, s3]; simp
                    subst hRn
                    clear hR
                    go_enter Tryz.func55, Tryz.ntmps55
                    go_wp2_with fail
                    go_ret
                    first | exact ⟨rfl, hb3⟩ | exact ⟨rfl, hb2⟩ | exact ⟨rfl, hb1⟩
                  | false =>
                    have hRn : R = true := by rw [← hR]; rw [s1, s2, s3]; simp
                    subst hRn
                    clear hR
                    go_enter Tryz.func55, Tryz.ntmps55
                    go_wp2_with fail
                    go_ret
                    first | exact ⟨rfl, hb3⟩ | exact ⟨rfl, hb2⟩ | exact ⟨rfl, hb1⟩
set_option maxHeartbeats 8000000 in
set_option maxRecDepth 20000 in
theorem odd_7 (name : ByteArray) (down : Bool) (nulls : Int) (bnd ln : Bool) (lm : ByteArray) (hn : Bool) (hm : ByteArray) (most str : Int) (shf bck : Bool) (a : Option Addr) (n c : Nat) (hnn : n ≤ 281474976710656) (_hl : lm.size ≤ 17179869184) (_hh : hm.size ≤ 17179869184) (hnu : nulls ≤ 2) (w : World) :
    Calls Tryz.prog 55 #[fV ⟨name, 7, down, nulls, bnd, ln, lm, hn, hm, most, str, shf, bck⟩ a n c] w fun e w' => e = .returned (.bool (!maySayO (bndQ ⟨name, 7, down, nulls, bnd, ln, lm, hn, hm, most, str, shf, bck⟩) ⟨name, 7, down, nulls, bnd, ln, lm, hn, hm, most, str, shf, bck⟩ n)) ∧ Below w.heap.size w w' := by
  obtain ⟨z1, hz1⟩ : ∃ z, (!ln && lm.size == 0) = z := ⟨_, rfl⟩
  obtain ⟨z2, hz2⟩ : ∃ z, (!hn && hm.size == 0) = z := ⟨_, rfl⟩
  obtain ⟨z3, hz3⟩ : ∃ z, (most == 0) = z := ⟨_, rfl⟩
  obtain ⟨z4, hz4⟩ : ∃ z, (str == 0 && !shf && !bck) = z := ⟨_, rfl⟩
  obtain ⟨z5, hz5⟩ : ∃ z, (n == 0) = z := ⟨_, rfl⟩
  have he1 := num0 ln lm z1 hz1
  have he2 := num0 hn hm z2 hz2
  have he4 := col_eq str shf bck
  rw [hz4] at he4
  have he3 : (most != 0) = !z3 := by rw [← hz3]; rfl
  have he5 : decide ((0 : Int) < (n : Int)) = !z5 := by rw [← hz5]; cases n <;> simp <;> omega
  have he5' : decide (0 < n) = !z5 := by rw [← hz5]; cases n <;> simp
  have t3 : decide ((2 : Int) < nulls) = false := by simp; omega
  have hM := maySayO_eq (bndQ ⟨name, 7, down, nulls, bnd, ln, lm, hn, hm, most, str, shf, bck⟩) name 7 down nulls bnd ln lm hn hm most str shf bck n hz1 hz2 hz3 hz4 hz5
  rw [decide_eq_true hnu] at hM
  obtain ⟨R, hR⟩ : ∃ R, (!maySayO (bndQ ⟨name, 7, down, nulls, bnd, ln, lm, hn, hm, most, str, shf, bck⟩) ⟨name, 7, down, nulls, bnd, ln, lm, hn, hm, most, str, shf, bck⟩ n) = R := ⟨_, rfl⟩
  rw [hR]
  rw [hM] at hR
  have hb1 := (Below.refl w.heap.size w).alloc (Nat.le_refl _) (.cells #[.string name, .int .u8 7, .bool down, .int .u8 nulls, .bool bnd, .bool ln, .string lm, .bool hn, .string hm, .int .i64 most, .int .i64 str, .bool shf, .bool bck, .slice a n c] 48)
  have hb2 := hb1.alloc hb1.size (.cells #[.bool false, .string ⟨#[]⟩] 44)
  have hb3 := hb2.alloc hb2.size (.cells #[.int .i64 0, .bool false, .bool false] 46)
  clear hM hz1 hz2 hz4 hz5
  unfold fV
  dsimp only
  cases bnd with
  | true =>
    have hRn : R = true := by rw [← hR]; simp
    subst hRn
    clear hR
    go_enter Tryz.func55, Tryz.ntmps55
    go_wp2_with fail
    go_ret
    first | exact ⟨rfl, hb3⟩ | exact ⟨rfl, hb2⟩ | exact ⟨rfl, hb1⟩
  | false =>
    cases z1 with
    | false =>
      have hRn : R = true := by rw [← hR]; simp
      subst hRn
      clear hR
      go_enter Tryz.func55, Tryz.ntmps55
      go_wp2_with fail
      go_ret
      first | exact ⟨rfl, hb3⟩ | exact ⟨rfl, hb2⟩ | exact ⟨rfl, hb1⟩
    | true =>
      cases z2 with
      | false =>
        have hRn : R = true := by rw [← hR]; simp
        subst hRn
        clear hR
        go_enter Tryz.func55, Tryz.ntmps55
        go_wp2_with fail
        go_ret
        first | exact ⟨rfl, hb3⟩ | exact ⟨rfl, hb2⟩ | exact ⟨rfl, hb1⟩
      | true =>
        cases z3 with
        | false =>
          have hRn : R = true := by rw [← hR]; simp
          subst hRn
          clear hR
          go_enter Tryz.func55, Tryz.ntmps55
          go_wp2_with fail
          go_ret
          first | exact ⟨rfl, hb3⟩ | exact ⟨rfl, hb2⟩ | exact ⟨rfl, hb1⟩
        | true =>
          cases z4 with
          | false =>
            have hRn : R = true := by rw [← hR]; simp
            subst hRn
            clear hR
            go_enter Tryz.func55, Tryz.ntmps55
            go_wp2_with fail
            go_ret
            first | exact ⟨rfl, hb3⟩ | exact ⟨rfl, hb2⟩ | exact ⟨rfl, hb1⟩
          | true =>
            obtain rfl : most = 0 := by simpa using hz3
            have hRn : R = false := by rw [← hR]; simp
            subst hRn
            clear hR
            go_enter Tryz.func55, Tryz.ntmps55
            go_wp2_with fail
            go_ret
            first | exact ⟨rfl, hb3⟩ | exact ⟨rfl, hb2⟩ | exact ⟨rfl, hb1⟩
set_option maxHeartbeats 1000000 in
theorem odd_any (o : Own) (a : Option Addr) (n c : Nat) (hn : n ≤ 281474976710656) (hl : o.lm.size ≤ 17179869184) (hh : o.hm.size ≤ 17179869184) (w : World) :
    Calls Tryz.prog 55 #[fV o a n c] w fun e w' => e = .returned (.bool (!maySayO (bndQ o) o n)) ∧ Below w.heap.size w w' := by
  have hb0 := (Below.refl w.heap.size w).alloc (Nat.le_refl _) (.cells (cellsF o a n c) 48)
  by_cases h1 : o.kind < 1
  · have hR : maySayO (bndQ o) o n = false := by simp [maySayO]; omega
    have t1 : decide (o.kind < 1) = true := by simpa using h1
    rw [hR]
    unfold fV
    simp only [cellsF] at hb0
    clear hR h1
    go_enter Tryz.func55, Tryz.ntmps55
    go_wp2_with fail
    go_ret
    exact ⟨rfl, hb0⟩
  have t1 : decide (o.kind < 1) = false := by simpa using h1
  by_cases h7 : 7 < o.kind
  · have hR : maySayO (bndQ o) o n = false := by simp [maySayO]; omega
    have t2 : decide (7 < o.kind) = true := by simpa using h7
    rw [hR]
    unfold fV
    simp only [cellsF] at hb0
    clear hR h1 h7
    go_enter Tryz.func55, Tryz.ntmps55
    go_wp2_with fail
    go_ret
    exact ⟨rfl, hb0⟩
  have t2 : decide (7 < o.kind) = false := by simpa using h7
  by_cases h2 : 2 < o.nulls
  · have hR : maySayO (bndQ o) o n = false := by
      have : decide (o.nulls ≤ 2) = false := by simpa using h2
      simp [maySayO, this]
    have t3 : decide (2 < o.nulls) = true := by simpa using h2
    rw [hR]
    unfold fV
    simp only [cellsF] at hb0
    clear hR h1 h7 h2
    go_enter Tryz.func55, Tryz.ntmps55
    go_wp2_with fail
    go_ret
    exact ⟨rfl, hb0⟩
  obtain ⟨name, kind, down, nulls, bnd, ln, lm, hn', hm, most, str, shf, bck⟩ := o
  simp only at h1 h7 h2 hl hh
  clear t1 t2 hb0
  have hnu : nulls ≤ 2 := by omega
  have hk : kind = 1 ∨ kind = 2 ∨ kind = 3 ∨ kind = 4 ∨ kind = 5 ∨ kind = 6 ∨ kind = 7 := by omega
  rcases hk with rfl | rfl | rfl | rfl | rfl | rfl | rfl
  · exact odd_1 name down nulls bnd ln lm hn' hm most str shf bck a n c hn hl hh hnu w
  · exact odd_2 name down nulls bnd ln lm hn' hm most str shf bck a n c hn hl hh hnu w
  · exact odd_3 name down nulls bnd ln lm hn' hm most str shf bck a n c hn hl hh hnu w
  · exact odd_4 name down nulls bnd ln lm hn' hm most str shf bck a n c hn hl hh hnu w
  · exact odd_5 name down nulls bnd ln lm hn' hm most str shf bck a n c hn hl hh hnu w
  · exact odd_6 name down nulls bnd ln lm hn' hm most str shf bck a n c hn hl hh hnu w
  · exact odd_7 name down nulls bnd ln lm hn' hm most str shf bck a n c hn hl hh hnu w
def NmRel (R b : Bool) (l : List UInt8) (j : Nat) : Prop := (j = 0 → R = (b && (l.drop j).all isNameC)) ∧ (0 < j → R = (l.drop j).all isNameC)
set_option maxHeartbeats 4000000 in
set_option maxRecDepth 20000 in
theorem rIsName_any (s : ByteArray) (hs : s.size ≤ 281474976710656) (w : World) : Calls Tryz.prog 54 #[.string s] w fun e w' => e = .returned (.bool (isNameS s)) ∧ w = w' := by
 by_cases h0 : s.size = 0
 ·
  rw [isNameS_nil s h0]
  have t0 : decide ((s.size : Int) < 1) = true := decide_eq_true (by omega)
  have t1 : decide (s.size < 1) = true := decide_eq_true (by omega)
  go_enter Tryz.func54, Tryz.ntmps54
  go_wp2
  go_ret
  exact ⟨rfl, rfl⟩
 have hpos : 0 < s.size := by omega
 have t0 : decide ((s.size : Int) < 1) = false := by simp; omega
 rw [isNameS_eq s hpos]
 by_cases h16 : s.size ≤ 16
 ·
  have t1 : decide ((16 : Int) < (s.size : Int)) = false := by simp; omega
  obtain ⟨R, hR⟩ : ∃ R, (isSmallU s[0] && s.data.toList.all isNameC) = R := ⟨_, rfl⟩
  rw [show (decide (s.size ≤ 16) && isSmallU s[0] && s.data.toList.all isNameC) = R by rw [← hR]; simp [h16]]
  have HR : Hid (NmRel R (isSmallU s[0]) s.data.toList 0) := ⟨fun _ => hR.symm, fun h => absurd h (by omega)⟩
  have hlen : s.data.toList.length = s.size := (Lib.size_eq s).symm
  clear hR
  go_enter Tryz.func54, Tryz.ntmps54
  go_wp2_with fail
  go_loopw [3] (fun i wr => ∃ (j : Nat), j ≤ s.size ∧ i = .int .i64 j ∧ Hid (NmRel R (isSmallU s[0]) s.data.toList j) ∧ w = wr) (fun i _ => s.size - (intOf i).toNat)
  case atStart => exact ⟨0, by omega, rfl, HR, rfl⟩
  case round =>
   clear HR
   obtain ⟨j, hj, rfl, HS, rfl⟩ := hrel
   by_cases hlt : j < s.size
   ·
    have HD : Hid ((j = 0 → R = (isSmallU s[j] && (s.data.toList.drop (j + 1)).all isNameC)) ∧ (0 < j → R = (isNameC s[j] && (s.data.toList.drop (j + 1)).all isNameC))) := by
     refine ⟨fun h => ?_, fun h => ?_⟩
     ·
      have q := HS.out.1 h
      subst h
      rw [q, all_dropN _ _ _ (by omega)]
      have e1 : s.data.toList[0]'(by omega) = s[0] := rfl
      rw [e1]
      cases h1 : isSmallU s[0] with
      | false => rfl
      | true => rw [show isNameC s[0] = true by rw [isNameC, h1]; rfl]; rfl
     ·
      rw [HS.out.2 h, all_dropN _ _ _ (by omega)]; rfl
    clear HS hlen
    have hc := (s[j]).toNat_lt
    have hn0 : ∀ b : Bool, isNameC s[j] = b → isSmallU s[j] = b → Hid (R = (b && (s.data.toList.drop (j + 1)).all isNameC)) := fun b h1 h2 => by
     show _ = _
     rcases Nat.eq_zero_or_pos j with h | h
     ·
      rw [HD.out.1 h, h2]
     ·
      rw [HD.out.2 h, h1]
    by_cases hA : 97 ≤ (s[j]).toNat ∧ (s[j]).toNat ≤ 122
    ·
     have hsm : isSmallU s[j] = true := by simp [isSmallU, hA]
     have hnm : isNameC s[j] = true := by rw [isNameC, hsm]; rfl
     have HD2 : Hid (NmRel R (isSmallU s[0]) s.data.toList (j + 1)) := ⟨fun h => absurd h (by omega), fun _ => by rw [(hn0 true hnm hsm).out]; rfl⟩
     have a1 : decide ((97 : Int) ≤ ((s[j]).toNat : Int)) = true := by simp; omega
     have a2 : decide (((s[j]).toNat : Int) ≤ 122) = true := by simp; omega
     have a3 : decide ((48 : Int) ≤ ((s[j]).toNat : Int)) = true := by simp; omega
     have a4 : decide (((s[j]).toNat : Int) ≤ 57) = false := by simp; omega
     clear HD hn0 hsm hnm hA
     go_wp2_with fail
     go_roundw
     case rel => exact ⟨j + 1, by omega, by simp, HD2, trivial⟩
     case measure => simp only [intOf]; omega
    have hsm : isSmallU s[j] = false := by
     simp only [isSmallU, Bool.and_eq_false_iff, decide_eq_false_iff_not]; omega
    rcases Nat.eq_zero_or_pos j with hz | hz
    ·
     have hRn : R = false := by rw [HD.out.1 hz, hsm]; rfl
     have z1 : ((j : Int) == 0) = true := by simp; omega
     subst hRn
     clear HD hn0 hz
     by_cases hB : (s[j]).toNat < 48
     ·
      skip
      have a1 : decide ((97 : Int) ≤ ((s[j]).toNat : Int)) = false := by simp; omega
      have a3 : decide ((48 : Int) ≤ ((s[j]).toNat : Int)) = false := by simp; omega
      go_wp2_with fail
      go_ret
      exact ⟨rfl, rfl⟩
     by_cases hC : (s[j]).toNat ≤ 57
     ·
      skip
      have a1 : decide ((97 : Int) ≤ ((s[j]).toNat : Int)) = false := by simp; omega
      have a3 : decide ((48 : Int) ≤ ((s[j]).toNat : Int)) = true := by simp; omega
      have a4 : decide (((s[j]).toNat : Int) ≤ 57) = true := by simp; omega
      go_wp2_with fail
      go_ret
      exact ⟨rfl, rfl⟩
     by_cases hD : (s[j]).toNat < 97
     ·
      skip
      have a1 : decide ((97 : Int) ≤ ((s[j]).toNat : Int)) = false := by simp; omega
      have a3 : decide ((48 : Int) ≤ ((s[j]).toNat : Int)) = true := by simp; omega
      have a4 : decide (((s[j]).toNat : Int) ≤ 57) = false := by simp; omega
      go_wp2_with fail
      go_ret
      exact ⟨rfl, rfl⟩
     ·
      skip
      have a1 : decide ((97 : Int) ≤ ((s[j]).toNat : Int)) = true := by simp; omega
      have a2 : decide (((s[j]).toNat : Int) ≤ 122) = false := by simp; omega
      have a3 : decide ((48 : Int) ≤ ((s[j]).toNat : Int)) = true := by simp; omega
      have a4 : decide (((s[j]).toNat : Int) ≤ 57) = false := by simp; omega
      go_wp2_with fail
      go_ret
      exact ⟨rfl, rfl⟩
    ·
     have z1 : ((j : Int) == 0) = false := by simp; omega
     by_cases hB : (s[j]).toNat < 48
     ·
      skip
      have a1 : decide ((97 : Int) ≤ ((s[j]).toNat : Int)) = false := by simp; omega
      have a3 : decide ((48 : Int) ≤ ((s[j]).toNat : Int)) = false := by simp; omega
      have hdg : isDigU s[j] = false := by simp only [isDigU, Bool.and_eq_false_iff, decide_eq_false_iff_not]; omega
      by_cases h45 : s[j] = 45
      ·
       have hnm : isNameC s[j] = true := by rw [isNameC, hsm, hdg, h45]; rfl
       have t3 : (((s[j]).toNat : Int) != 45) = false := by rw [h45]; rfl
       have HD2 : Hid (NmRel R (isSmallU s[0]) s.data.toList (j + 1)) := ⟨fun h => absurd h (by omega), fun _ => by rw [HD.out.2 hz, hnm]; rfl⟩
       clear HD hn0 hdg hnm h45
       go_wp2_with fail
       go_roundw
       case rel => exact ⟨j + 1, by omega, by simp, HD2, trivial⟩
       case measure => simp only [intOf]; omega
      ·
       skip
       have hRn : R = false := by rw [HD.out.2 hz, isNameC, hsm, hdg]; simp [h45]
       have t3 : (((s[j]).toNat : Int) != 45) = true := by
        rw [bne_iff_ne]; intro e
        have e' : (s[j]).toNat = 45 := by omega
        exact h45 (UInt8.toNat.inj (by rw [e']; rfl))
       subst hRn
       clear HD hn0 hdg h45
       go_wp2_with fail
       go_ret
       exact ⟨rfl, rfl⟩
     by_cases hC : (s[j]).toNat ≤ 57
     ·
      skip
      have a1 : decide ((97 : Int) ≤ ((s[j]).toNat : Int)) = false := by simp; omega
      have a3 : decide ((48 : Int) ≤ ((s[j]).toNat : Int)) = true := by simp; omega
      have a4 : decide (((s[j]).toNat : Int) ≤ 57) = true := by simp; omega
      have hdg : isDigU s[j] = true := by simp only [isDigU, Bool.and_eq_true, decide_eq_true_eq]; omega
      have hnm : isNameC s[j] = true := by rw [isNameC, hsm, hdg]; rfl
      have HD2 : Hid (NmRel R (isSmallU s[0]) s.data.toList (j + 1)) := ⟨fun h => absurd h (by omega), fun _ => by rw [HD.out.2 hz, hnm]; rfl⟩
      clear HD hn0 hdg hnm
      go_wp2_with fail
      go_roundw
      case rel => exact ⟨j + 1, by omega, by simp, HD2, trivial⟩
      case measure => simp only [intOf]; omega
     by_cases hD : (s[j]).toNat < 97
     ·
      skip
      have a1 : decide ((97 : Int) ≤ ((s[j]).toNat : Int)) = false := by simp; omega
      have a3 : decide ((48 : Int) ≤ ((s[j]).toNat : Int)) = true := by simp; omega
      have a4 : decide (((s[j]).toNat : Int) ≤ 57) = false := by simp; omega
      have hdg : isDigU s[j] = false := by simp only [isDigU, Bool.and_eq_false_iff, decide_eq_false_iff_not]; omega
      have h45 : ¬ s[j] = 45 := fun h => by have := congrArg UInt8.toNat h; simp at this; omega
      have hRn : R = false := by rw [HD.out.2 hz, isNameC, hsm, hdg]; simp [h45]
      have t3 : (((s[j]).toNat : Int) != 45) = true := by
       rw [bne_iff_ne]; intro e
       have e' : (s[j]).toNat = 45 := by omega
       exact h45 (UInt8.toNat.inj (by rw [e']; rfl))
      subst hRn
      clear HD hn0 hdg h45
      go_wp2_with fail
      go_ret
      exact ⟨rfl, rfl⟩
     ·
      skip
      have a1 : decide ((97 : Int) ≤ ((s[j]).toNat : Int)) = true := by simp; omega
      have a2 : decide (((s[j]).toNat : Int) ≤ 122) = false := by simp; omega
      have a3 : decide ((48 : Int) ≤ ((s[j]).toNat : Int)) = true := by simp; omega
      have a4 : decide (((s[j]).toNat : Int) ≤ 57) = false := by simp; omega
      have hdg : isDigU s[j] = false := by simp only [isDigU, Bool.and_eq_false_iff, decide_eq_false_iff_not]; omega
      have h45 : ¬ s[j] = 45 := fun h => by have := congrArg UInt8.toNat h; simp at this; omega
      have hRn : R = false := by rw [HD.out.2 hz, isNameC, hsm, hdg]; simp [h45]
      have t3 : (((s[j]).toNat : Int) != 45) = true := by
       rw [bne_iff_ne]; intro e
       have e' : (s[j]).toNat = 45 := by omega
       exact h45 (UInt8.toNat.inj (by rw [e']; rfl))
      subst hRn
      clear HD hn0 hdg h45
      go_wp2_with fail
      go_ret
      exact ⟨rfl, rfl⟩
   ·
    have hRn : R = true := by rw [HS.out.2 (by omega), List.drop_of_length_le (by omega)]; rfl
    clear HS
    subst hRn
    go_wp2_with fail
    go_ret
    exact ⟨rfl, rfl⟩
 ·
  have t1 : decide ((16 : Int) < (s.size : Int)) = true := by simp; omega
  have hR : (decide (s.size ≤ 16) && isSmallU s[0] && s.data.toList.all isNameC) = false := by simp [h16]
  rw [hR]
  clear hR
  go_enter Tryz.func54, Tryz.ntmps54
  go_wp2
  go_ret
  exact ⟨rfl, rfl⟩
def RWalkPost (r : Tr) (w : World) (e : Ending) (w' : World) : Prop :=
 Below w.heap.size w w' ∧ match r with
 | .ok m => e = .returned (.tuple #[.int .i64 (m : Int), .agg #[.int .i64 0, .int .i64 0, .slice none 0 0]])
 | .bad c p m => ∃ a cc, e = .returned (.tuple #[.int .i64 (m : Int), .agg #[.int .i64 c, .int .i64 0, .slice a p.length cc]]) ∧ IOwn w' w.heap.size (.slice a p.length cc) p
def RWalkOk (l : List Fld) : Prop := ∀ (pa : Option Addr) (pc : Nat) (P : List Int) (k : Nat) (aa : Option Addr) (ca lo n₀ base : Nat) (w : World), P.length ≤ 16 → k ≤ 64 → (∀ x ∈ l, FitsF 17179869184 x) → l.length ≤ 17179869184 → n₀ ≤ w.heap.size → IOwn w base (.slice pa P.length pc) P → FIn w lo n₀ l aa →
  Calls Tryz.prog 30 #[.slice aa l.length ca, .slice pa P.length pc, .int .i64 (k : Int)] w (RWalkPost (tourL bndQ P [] k l) w)
theorem walk_results {tmps : Array Value} {w : World} {h : Nat} {a b c v : Value} (hb : Blk w h 31 #[a, b, c]) (t6 : tmps[6]?.getD undef = v) (t7 : tmps[7]?.getD undef = .pointer (some ⟨h, 0, none⟩)) :
  (results Tryz.f30 tmps).run Tryz.prog w = .ok (.tuple #[v, .agg #[a, b, c]]) w := by
 have c0 := hb.cell 0
 have c1 := hb.cell 1
 have c2 := hb.cell 2
 simp at c0 c1 c2
 simp [results, Tryz.results30, go_sem, t6, t7, c0, c1, c2]
theorem Blk.set3 {W : World} {B : Nat} {t : TypeId} {a b c : Value} (h : Blk W B t #[a, b, c]) (a' b' c' : Value) : Blk (((W.setCell ⟨B, 0, none⟩ a').setCell ⟨B, 1, none⟩ b').setCell ⟨B, 2, none⟩ c') B t #[a', b', c'] := by
 have := ((h.set 0 a').set 1 b').set 2 c'
 simpa using this
theorem set3_below {W w : World} {B : Nat} (h : Below B w W) (a' b' c' : Value) : Below B w (((W.setCell ⟨B, 0, none⟩ a').setCell ⟨B, 1, none⟩ b').setCell ⟨B, 2, none⟩ c') :=
 ((h.setCell (p := ⟨B, 0, none⟩) (Nat.le_refl _) _).setCell (p := ⟨B, 1, none⟩) (Nat.le_refl _) _).setCell (p := ⟨B, 2, none⟩) (Nat.le_refl _) _
theorem set3_own {W : World} {B base : Nat} {v : Value} {p : List Int} (h : IOwn W base v p) (hB : B < base) (a' b' c' : Value) : IOwn (((W.setCell ⟨B, 0, none⟩ a').setCell ⟨B, 1, none⟩ b').setCell ⟨B, 2, none⟩ c') base v p :=
 own_setCell (own_setCell (own_setCell h hB _) hB _) hB _
theorem see116 {Q : Go.Vf.Own → Bool} {p n : Nat} {ah : List Fld} {f : Fld} (h : 64 < n) : seeF Q p n ah f = 116 := by unfold seeF; rw [if_pos h]
theorem see114 {Q : Go.Vf.Own → Bool} {p n : Nat} {ah : List Fld} {f : Fld} (h1 : ¬ 64 < n) (h : 16 < p) : seeF Q p n ah f = 114 := by unfold seeF; rw [if_neg h1, if_pos h]
theorem see111 {Q : Go.Vf.Own → Bool} {p n : Nat} {ah : List Fld} {f : Fld} (h1 : ¬ 64 < n) (h2 : ¬ 16 < p) (h : isNameS f.own.name = false) : seeF Q p n ah f = 111 := by unfold seeF; rw [if_neg h1, if_neg h2, if_pos h]
theorem see112 {Q : Go.Vf.Own → Bool} {p n : Nat} {ah : List Fld} {f : Fld} (h1 : ¬ 64 < n) (h2 : ¬ 16 < p) (h3 : isNameS f.own.name = true) (h : ah.any (fun g => decide (g.own.name = f.own.name)) = true) : seeF Q p n ah f = 112 := by unfold seeF; rw [if_neg h1, if_neg h2, if_neg (by rw [h3]; simp), if_pos h]
theorem see113 {Q : Go.Vf.Own → Bool} {p n : Nat} {ah : List Fld} {f : Fld} (h1 : ¬ 64 < n) (h2 : ¬ 16 < p) (h3 : isNameS f.own.name = true) (h4 : ah.any (fun g => decide (g.own.name = f.own.name)) = false) (h : maySayO (Q f.own) f.own f.fields.length = false) : seeF Q p n ah f = 113 := by unfold seeF; rw [if_neg h1, if_neg h2, if_neg (by rw [h3]; simp), if_neg (by rw [h4]; simp), if_pos h]
theorem see115 {Q : Go.Vf.Own → Bool} {p n : Nat} {ah : List Fld} {f : Fld} (h1 : ¬ 64 < n) (h2 : ¬ 16 < p) (h3 : isNameS f.own.name = true) (h4 : ah.any (fun g => decide (g.own.name = f.own.name)) = false) (h5 : maySayO (Q f.own) f.own f.fields.length = true) (h : f.own.kind = 7 ∧ f.fields = []) : seeF Q p n ah f = 115 := by unfold seeF; rw [if_neg h1, if_neg h2, if_neg (by rw [h3]; simp), if_neg (by rw [h4]; simp), if_neg (by rw [h5]; simp), if_pos h]
theorem see0 {Q : Go.Vf.Own → Bool} {p n : Nat} {ah : List Fld} {f : Fld} (h1 : ¬ 64 < n) (h2 : ¬ 16 < p) (h3 : isNameS f.own.name = true) (h4 : ah.any (fun g => decide (g.own.name = f.own.name)) = false) (h5 : maySayO (Q f.own) f.own f.fields.length = true) (h : ¬ (f.own.kind = 7 ∧ f.fields = [])) : seeF Q p n ah f = 0 := by unfold seeF; rw [if_neg h1, if_neg h2, if_neg (by rw [h3]; simp), if_neg (by rw [h4]; simp), if_neg (by rw [h5]; simp), if_neg h]
theorem rw_bad {G : Tr} {c : Int} {p : List Int} {m : Nat} {w w' : World} {a : Option Addr} {cc : Nat} {e : Ending} (hG : G = .bad c p m) (hb : Below w.heap.size w w') (he : e = .returned (.tuple #[.int .i64 (m : Int), .agg #[.int .i64 c, .int .i64 0, .slice a p.length cc]])) (ho : IOwn w' w.heap.size (.slice a p.length cc) p) : RWalkPost G w e w' := by
 subst hG; exact ⟨hb, a, cc, he, ho⟩
theorem rcells {w : World} {B : Nat} {t : TypeId} {a b c : Value} (h : Blk w B t #[a, b, c]) : w.cell? ⟨B, 0, none⟩ = some a ∧ w.cell? ⟨B, 1, none⟩ = some b ∧ w.cell? ⟨B, 2, none⟩ = some c ∧ w.frozen? ⟨B, 0, none⟩ = false ∧ w.frozen? ⟨B, 1, none⟩ = false ∧ w.frozen? ⟨B, 2, none⟩ = false := ⟨h.cell 0, h.cell 1, h.cell 2, h.frozen 0, h.frozen 1, h.frozen 2⟩
set_option maxHeartbeats 8000000 in
set_option maxRecDepth 20000 in
theorem rwalk_step (l : List Fld) (ih : ∀ x ∈ l, RWalkOk x.fields) : RWalkOk l := by
 intro pa pc P k aa ca lo n₀ base w hP hk hfit hll hn₀ hpath hin
 obtain ⟨G, hG⟩ : ∃ G, tourL bndQ P [] k l = G := ⟨_, rfl⟩
 rw [hG]
 have HG : Hid (G = tourL bndQ P (l.take 0) k (l.drop 0)) := hG.symm
 clear hG
 have hb1 := (Below.refl w.heap.size w).alloc (Nat.le_refl _) (.cells #[.int .i64 0, .int .i64 0, .slice none 0 0] 31)
 have hN1 := Blk.new w 31 #[.int .i64 0, .int .i64 0, .slice none 0 0]
 go_enter Tryz.func30, Tryz.ntmps30
 go_upto_region 2 with fail
 generalize w.alloc (.cells #[.int .i64 0, .int .i64 0, .slice none 0 0] 31) = w1 at hb1 hN1 ⊢
 go_loopw [2, 8] (fun sv iv wr => ∃ (j k' : Nat), j ≤ l.length ∧ iv = .int .i64 j ∧ sv = .int .i64 (k' : Int) ∧ k' ≤ 64 ∧ Blk wr w.heap.size 31 #[.int .i64 0, .int .i64 0, .slice none 0 0] ∧ Hid (G = tourL bndQ P (l.take j) k' (l.drop j)) ∧ Below w.heap.size w wr) (fun _ iv _ => l.length - (intOf iv).toNat)
 case atStart => exact ⟨0, k, by omega, rfl, rfl, hk, hN1, HG, hb1⟩
 case round =>
  clear HG hb1 hN1
  obtain ⟨j, k', hj, rfl, rfl, hk', hN, HS, hbel⟩ := hrel
  have hsz := hbel.size
  have hWl := hN.lt
  by_cases hlt : j < l.length
  ·
   obtain ⟨bb, off, aj, cj, ha, _, hbn, hrow, hinj⟩ := (hin.keep hbel hn₀).at hlt
   subst ha
   have hinT : FIn wr lo n₀ (l.take j) (some ⟨bb, off, none⟩) := (hin.keep hbel hn₀).take j
   have hfj := hfit _ (List.getElem_mem hlt)
   have hihj := ih _ (List.getElem_mem hlt)
   have htl := takeF_len l j hj
   obtain ⟨E, hE⟩ : ∃ E, seeF bndQ (P.length + 1) (k' + 1) (l.take j) l[j] = E := ⟨_, rfl⟩
   have HGb : Hid (∀ e : Int, seeF bndQ (P.length + 1) (k' + 1) (l.take j) l[j] = e → e ≠ 0 → G = .bad e (P ++ [(j : Int)]) (k' + 1)) := fun e he hne => by
    have q := HS.out
    rw [List.drop_eq_getElem_cons hlt, tourL_bad _ _ _ _ _ _ (by rw [he]; exact hne), he, htl] at q
    exact q
   have HGi : Hid (seeF bndQ (P.length + 1) (k' + 1) (l.take j) l[j] = 0 → ∀ c p m, tourL bndQ (P ++ [(j : Int)]) [] (k' + 1) l[j].fields = .bad c p m → G = .bad c p m) := fun h0 c p m hb => by
    have q := HS.out
    rw [List.drop_eq_getElem_cons hlt, tourL_in _ _ _ _ _ _ h0 (by rw [htl]; exact hb)] at q
    exact q
   have HGo : Hid (seeF bndQ (P.length + 1) (k' + 1) (l.take j) l[j] = 0 → ∀ m, tourL bndQ (P ++ [(j : Int)]) [] (k' + 1) l[j].fields = .ok m → G = tourL bndQ P (l.take (j + 1)) m (l.drop (j + 1))) := fun h0 m hb => by
    have q := HS.out
    rw [List.drop_eq_getElem_cons hlt, tourL_on _ _ _ _ _ _ h0 (by rw [htl]; exact hb), (List.take_succ_eq_append_getElem hlt).symm] at q
    exact q
   generalize l[j] = x at *
   clear hE HS
   have hints := rInts_any (own_after hpath (hbel)) (by omega : P.length ≤ 1000000000000)
   clear ih hin hfit
   go_wp2_with fail
   refine hints.mono ?_
   rintro _ w2 ⟨a2, c2, rfl, ho2, hb2⟩
   clear hints
   have hN2 := hN.old hb2
   have hbA := (Below.refl w2.heap.size w2).alloc (Nat.le_refl _) (.cells #[.int .i64 (j : Int)] 3)
   have HO2 : Aside (IOwn (w2.alloc (.cells #[.int .i64 (j : Int)] 3)) wr.heap.size (.slice a2 P.length c2) P) := own_after ho2 hbA
   have hszA : wr.heap.size ≤ (w2.alloc (.cells #[.int .i64 (j : Int)] 3)).heap.size := Nat.le_trans hb2.size hbA.size
   have hl2 : P.length + [(j : Int)].length ≤ 1099511627776 := by simp; omega
   have HC : Hid (∀ q, q < [(j : Int)].length → (w2.alloc (.cells #[.int .i64 (j : Int)] 3)).cell? ((⟨w2.heap.size, 0, none⟩ : Addr).add q) = some (.int .i64 ([(j : Int)][q]?.getD 0))) := cell_one (j : Int) w2
   go_upto_region 6 with (first | (at_builtin; refine wpList_append_ints rfl _ _ rfl wr.heap.size _ P rfl HO2.out [(j : Int)] ⟨w2.heap.size, 0, none⟩ _ rfl HC.out hl2 hszA ?_; intro a4 c4 w4 hown4 hgr4 hnil4 hat4))
   have hb4 : Below wr.heap.size wr w4 := (hb2.alloc hb2.size _).grown hgr4 hszA (fun q hq => (own_ge HO2.out hq).1)
   have hpl : (P ++ [(j : Int)]).length = P.length + 1 := by simp
   have ho4 : IOwn w4 wr.heap.size (.slice a4 (P ++ [(j : Int)]).length c4) (P ++ [(j : Int)]) := by rw [hpl]; exact hown4
   have hN4 := hN.old hb4
   have hb04 : Below w.heap.size w w4 := hbel.trans (hb4.mono hsz)
   clear hown4 hgr4 hnil4 hat4 HC hl2 hszA HO2 hbA hN2 ho2 hb2
   try simp only [List.length_cons, List.length_nil, Nat.zero_add]
   clear hpath
   by_cases h64 : 64 < k' + 1
   ·
    have t1 : decide ((64 : Int) < (k' : Int) + 1) = true := by simp; omega
    have hEq := see116 (Q := bndQ) (p := P.length + 1) (ah := l.take j) (f := x) h64
    have hPost : RWalkPost G w (.returned (.tuple #[.int .i64 ((k' : Int) + 1), .agg #[.int .i64 116, .int .i64 0, .slice a4 (P.length + 1) c4]])) (((w4.setCell ⟨w.heap.size, 0, none⟩ (.int .i64 116)).setCell ⟨w.heap.size, 1, none⟩ (.int .i64 0)).setCell ⟨w.heap.size, 2, none⟩ (.slice a4 (P.length + 1) c4)) := rw_bad (HGb.out _ hEq (by decide)) (set3_below hb04 _ _ _) (by rw [hpl]; rfl) (IOwn.mono (set3_own ho4 (by omega) _ _ _) hsz)
    have hB9 := hN4.set3 (.int .i64 116) (.int .i64 0) (.slice a4 (P.length + 1) c4)
    obtain ⟨v0, v1, v2, g0, g1, g2⟩ := rcells hN4
    clear hEq HGb HGi HGo hrow hinj hinT
    go_wp2_with fail
    exact bodyPost_ret (walk_results hB9 rfl rfl) rfl hPost
   have t1 : decide ((64 : Int) < (k' : Int) + 1) = false := by simp; omega
   by_cases h16 : 16 < P.length + 1
   ·
    have t2 : decide ((16 : Int) < (P.length : Int) + 1) = true := by simp; omega
    have hEq := see114 (Q := bndQ) (ah := l.take j) (f := x) h64 h16
    have hPost : RWalkPost G w (.returned (.tuple #[.int .i64 ((k' : Int) + 1), .agg #[.int .i64 114, .int .i64 0, .slice a4 (P.length + 1) c4]])) (((w4.setCell ⟨w.heap.size, 0, none⟩ (.int .i64 114)).setCell ⟨w.heap.size, 1, none⟩ (.int .i64 0)).setCell ⟨w.heap.size, 2, none⟩ (.slice a4 (P.length + 1) c4)) := rw_bad (HGb.out _ hEq (by decide)) (set3_below hb04 _ _ _) (by rw [hpl]; rfl) (IOwn.mono (set3_own ho4 (by omega) _ _ _) hsz)
    have hB9 := hN4.set3 (.int .i64 114) (.int .i64 0) (.slice a4 (P.length + 1) c4)
    obtain ⟨v0, v1, v2, g0, g1, g2⟩ := rcells hN4
    clear hEq HGb HGi HGo hrow hinj hinT
    go_wp2_with fail
    exact bodyPost_ret (walk_results hB9 rfl rfl) rfl hPost
   have t2 : decide ((16 : Int) < (P.length : Int) + 1) = false := by simp; omega
   have hrow4 := hrow.below hb4 (by omega)
   obtain ⟨r0, r1, r2, r3, r4, r5, r6, r7, r8, r9, r10, r11, r12, r13⟩ := hrow4
   have hb5 := (Below.refl w4.heap.size w4).alloc (Nat.le_refl _) (.cells #[.string x.own.name, .int .u8 x.own.kind, .bool x.own.down, .int .u8 x.own.nulls, .bool x.own.bnd, .bool x.own.ln, .string x.own.lm, .bool x.own.hn, .string x.own.hm, .int .i64 x.own.most, .int .i64 x.own.str, .bool x.own.shf, .bool x.own.bck, .slice aj x.fields.length cj] 48)
   have hF5 := Blk.new w4 48 #[.string x.own.name, .int .u8 x.own.kind, .bool x.own.down, .int .u8 x.own.nulls, .bool x.own.bnd, .bool x.own.ln, .string x.own.lm, .bool x.own.hn, .string x.own.hm, .int .i64 x.own.most, .int .i64 x.own.str, .bool x.own.shf, .bool x.own.bck, .slice aj x.fields.length cj]
   have hN5 := hN4.old hb5
   have ho5 : IOwn (w4.alloc (.cells #[.string x.own.name, .int .u8 x.own.kind, .bool x.own.down, .int .u8 x.own.nulls, .bool x.own.bnd, .bool x.own.ln, .string x.own.lm, .bool x.own.hn, .string x.own.hm, .int .i64 x.own.most, .int .i64 x.own.str, .bool x.own.shf, .bool x.own.bck, .slice aj x.fields.length cj] 48)) wr.heap.size (.slice a4 (P ++ [(j : Int)]).length c4) (P ++ [(j : Int)]) := own_after ho4 hb5
   have hb05 := hb04.trans (hb5.mono hb04.size)
   have hin5 : FIn (w4.alloc (.cells #[.string x.own.name, .int .u8 x.own.kind, .bool x.own.down, .int .u8 x.own.nulls, .bool x.own.bnd, .bool x.own.ln, .string x.own.lm, .bool x.own.hn, .string x.own.hm, .int .i64 x.own.most, .int .i64 x.own.str, .bool x.own.shf, .bool x.own.bck, .slice aj x.fields.length cj] 48)) lo n₀ (l.take j) (some ⟨bb, off, none⟩) := (hinT.keep hb4 (by omega)).keep hb5 (by have := hb4.size; omega)
   have hin5j : FIn (w4.alloc (.cells #[.string x.own.name, .int .u8 x.own.kind, .bool x.own.down, .int .u8 x.own.nulls, .bool x.own.bnd, .bool x.own.ln, .string x.own.lm, .bool x.own.hn, .string x.own.hm, .int .i64 x.own.most, .int .i64 x.own.str, .bool x.own.shf, .bool x.own.bck, .slice aj x.fields.length cj] 48)) lo n₀ x.fields aj := (hinj.keep hb4 (by omega)).keep hb5 (by have := hb4.size; omega)
   clear hrow hinj hinT ho4 hN4 hN
   go_upto_region 12 with fail
   clear r0 r1 r2 r3 r4 r5 r6 r7 r8 r9 r10 r11 r12 r13
   generalize w4.alloc (.cells #[.string x.own.name, .int .u8 x.own.kind, .bool x.own.down, .int .u8 x.own.nulls, .bool x.own.bnd, .bool x.own.ln, .string x.own.lm, .bool x.own.hn, .string x.own.hm, .int .i64 x.own.most, .int .i64 x.own.str, .bool x.own.shf, .bool x.own.bck, .slice aj x.fields.length cj] 48) = w5 at hb5 hF5 hN5 ho5 hb05 hin5 hin5j ⊢
   have hnm := rIsName_any x.own.name (by have := hfj.own.nm; omega) w5
   have s0 : w5.cell? ⟨w4.heap.size, 0, none⟩ = some (.string x.own.name) := hF5.cell 0
   cases h3 : isNameS x.own.name with
   | false =>
    rw [h3] at hnm
    go_wp2_with fail
    refine hnm.mono ?_
    rintro _ _ ⟨rfl, rfl⟩
    have hEq := see111 (Q := bndQ) (ah := l.take j) (f := x) h64 h16 h3
    have hPost : RWalkPost G w (.returned (.tuple #[.int .i64 ((k' : Int) + 1), .agg #[.int .i64 111, .int .i64 0, .slice a4 (P.length + 1) c4]])) (((w5.setCell ⟨w.heap.size, 0, none⟩ (.int .i64 111)).setCell ⟨w.heap.size, 1, none⟩ (.int .i64 0)).setCell ⟨w.heap.size, 2, none⟩ (.slice a4 (P.length + 1) c4)) := rw_bad (HGb.out _ hEq (by decide)) (set3_below hb05 _ _ _) (by rw [hpl]; rfl) (IOwn.mono (set3_own ho5 (by omega) _ _ _) hsz)
    have hB9 := hN5.set3 (.int .i64 111) (.int .i64 0) (.slice a4 (P.length + 1) c4)
    obtain ⟨v0, v1, v2, g0, g1, g2⟩ := rcells hN5
    clear hEq HGb HGi HGo hnm hin5 hin5j
    go_wp2_with fail
    exact bodyPost_ret (walk_results hB9 rfl rfl) rfl hPost
   | true =>
    rw [h3] at hnm
    go_wp2_with fail
    refine hnm.mono ?_
    rintro _ _ ⟨rfl, rfl⟩
    clear hnm
    obtain ⟨A, hA⟩ : ∃ A, (l.take j).any (fun g => decide (g.own.name = x.own.name)) = A := ⟨_, rfl⟩
    have HA : Hid (A = ((l.take j).drop 0).any (fun g => decide (g.own.name = x.own.name))) := hA.symm
    have HA' : Hid ((l.take j).any (fun g => decide (g.own.name = x.own.name)) = A) := hA
    clear hA
    go_upto_region 16 with fail
    obtain ⟨wo, hwo⟩ : ∃ wo, wo = wr := ⟨_, rfl⟩
    subst hwo
    go_loopw [12] (fun kv wq => ∃ q : Nat, q ≤ j ∧ kv = .int .i64 (q : Int) ∧ Hid (A = ((l.take j).drop q).any (fun g => decide (g.own.name = x.own.name))) ∧ Below w5.heap.size w5 wq) (fun kv _ => j - (intOf kv).toNat)
    case atStart => exact ⟨0, by omega, rfl, HA, Below.refl _ _⟩
    case round =>
     clear HA s0
     obtain ⟨q, hq, rfl, HQ, hbq⟩ := hrel
     have hNq := hN5.old hbq
     have hFq := hF5.old hbq
     have hoq : IOwn wr wo.heap.size (.slice a4 (P ++ [(j : Int)]).length c4) (P ++ [(j : Int)]) := own_after ho5 hbq
     have hb0q := hb05.trans (hbq.mono hb05.size)
     have h5s : n₀ ≤ w5.heap.size := by have := hb4.size; have := hb5.size; omega
     have hinq := hin5.keep hbq h5s
     have hinqj := hin5j.keep hbq h5s
     have s0 : wr.cell? ⟨w4.heap.size, 0, none⟩ = some (.string x.own.name) := hFq.cell 0
     by_cases hqj : q < j
     ·
      obtain ⟨b', off', aq, cq, ha, _, _, hrq, _⟩ := hinq.at (j := q) (by rw [htl]; exact hqj)
      cases ha
      have p0 := hrq.c0
      have hAq : Hid (A = (decide ((l.take j)[q].own.name = x.own.name) || ((l.take j).drop (q + 1)).any (fun g => decide (g.own.name = x.own.name)))) := by
       show _ = _
       rw [HQ.out, any_dropF _ _ _ (by rw [htl]; exact hqj)]
      have hql : q < l.length := by omega
      have hbe := bytes_eq (l.take j)[q].own.name x.own.name
      generalize (l.take j)[q]'(by rw [htl]; exact hqj) = y at *
      clear hrq HQ
      cases hq1 : decide (y.own.name = x.own.name) with
      | true =>
       rw [hq1] at hbe hAq
       have h4 : (l.take j).any (fun g => decide (g.own.name = x.own.name)) = true := by rw [HA'.out, hAq.out]; rfl
       clear hAq HA'
       go_upto_region 18 with fail
       go_region
       have hNd : Blk wr.drew w.heap.size 31 #[.int .i64 0, .int .i64 0, .slice none 0 0] := hNq
       have hod : IOwn wr.drew wo.heap.size (.slice a4 (P ++ [(j : Int)]).length c4) (P ++ [(j : Int)]) := hoq
       have hb0d := hb0q.drew
       clear hNq hoq hb0q hbq hinq hinqj hFq s0 p0 hbe
       generalize wr.drew = wd at *
       have hEq := see112 (Q := bndQ) (ah := l.take j) (f := x) h64 h16 h3 h4
       have hPost : RWalkPost G w (.returned (.tuple #[.int .i64 ((k' : Int) + 1), .agg #[.int .i64 112, .int .i64 0, .slice a4 (P.length + 1) c4]])) (((wd.setCell ⟨w.heap.size, 0, none⟩ (.int .i64 112)).setCell ⟨w.heap.size, 1, none⟩ (.int .i64 0)).setCell ⟨w.heap.size, 2, none⟩ (.slice a4 (P.length + 1) c4)) := rw_bad (HGb.out _ hEq (by decide)) (set3_below hb0d _ _ _) (by rw [hpl]; rfl) (IOwn.mono (set3_own hod (by omega) _ _ _) hsz)
       have hB9 := hNd.set3 (.int .i64 112) (.int .i64 0) (.slice a4 (P.length + 1) c4)
       obtain ⟨v0, v1, v2, g0, g1, g2⟩ := rcells hNd
       clear hEq HGb HGi HGo
       go_wp2_with fail
       exact bodyPost_ret (walk_results hB9 rfl rfl) rfl hPost
      | false =>
       rw [hq1] at hbe hAq
       have HQ2 : Hid (A = ((l.take j).drop (q + 1)).any (fun g => decide (g.own.name = x.own.name))) := by show _ = _; rw [hAq.out]; rfl
       clear hAq
       go_upto_region 18 with fail
       go_region
       go_wp2_with fail
       go_roundw
       case rel => exact ⟨q + 1, by omega, by simp, HQ2, hbq.drew⟩
       case measure => simp only [intOf]; omega
     ·
      have h4 : (l.take j).any (fun g => decide (g.own.name = x.own.name)) = false := by
       rw [HA'.out, HQ.out, List.drop_of_length_le (by rw [htl]; omega)]; rfl
      have hodd := odd_any x.own aj x.fields.length cj (by have := hfj.len; omega) (by have := hfj.own.lm; omega) (by have := hfj.own.hm; omega) wr
      unfold fV at hodd
      obtain ⟨s0, s1, s2, s3, s4, s5, s6, s7, s8, s9, s10, s11, s12, s13⟩ := hFq.c14
      have HA4 : Hid ((l.take j).any (fun g => decide (g.own.name = x.own.name)) = false) := h4
      clear HQ HA' h4 hinq hin5 hin5j
      go_wp2_with fail
      refine hodd.mono ?_
      clear hodd s0 s1 s2 s3 s4 s5 s6 s7 s8 s9 s10 s11 s12 s13
      cases h5 : maySayO (bndQ x.own) x.own x.fields.length with
      | false =>
       rintro _ w6 ⟨rfl, hb6⟩
       have hN6 := hNq.old hb6
       have ho6 : IOwn w6 wo.heap.size (.slice a4 (P ++ [(j : Int)]).length c4) (P ++ [(j : Int)]) := own_after hoq hb6
       have hb06 := hb0q.trans (hb6.mono hb0q.size)
       clear hNq hoq hb0q hbq hFq hb6
       have hEq := see113 (Q := bndQ) (ah := l.take j) (f := x) h64 h16 h3 HA4.out h5
       have hPost : RWalkPost G w (.returned (.tuple #[.int .i64 ((k' : Int) + 1), .agg #[.int .i64 113, .int .i64 0, .slice a4 (P.length + 1) c4]])) (((w6.setCell ⟨w.heap.size, 0, none⟩ (.int .i64 113)).setCell ⟨w.heap.size, 1, none⟩ (.int .i64 0)).setCell ⟨w.heap.size, 2, none⟩ (.slice a4 (P.length + 1) c4)) := rw_bad (HGb.out _ hEq (by decide)) (set3_below hb06 _ _ _) (by rw [hpl]; rfl) (IOwn.mono (set3_own ho6 (by omega) _ _ _) hsz)
       have hB9 := hN6.set3 (.int .i64 113) (.int .i64 0) (.slice a4 (P.length + 1) c4)
       obtain ⟨v0, v1, v2, g0, g1, g2⟩ := rcells hN6
       clear hEq HGb HGi HGo
       go_wp2_with fail
       exact bodyPost_ret (walk_results hB9 rfl rfl) rfl hPost
      | true =>
       rintro _ w6 ⟨rfl, hb6⟩
       have hN6 := hNq.old hb6
       have hF6 := hFq.old hb6
       have ho6 : IOwn w6 wo.heap.size (.slice a4 (P ++ [(j : Int)]).length c4) (P ++ [(j : Int)]) := own_after hoq hb6
       have hb06 := hb0q.trans (hb6.mono hb0q.size)
       have hin6 := hinqj.keep (n := wr.heap.size) hb6 (by have := hbq.size; omega)
       have s1 : w6.cell? ⟨w4.heap.size, 1, none⟩ = some (.int .u8 x.own.kind) := hF6.cell 1
       have s13 : w6.cell? ⟨w4.heap.size, 13, none⟩ = some (.slice aj x.fields.length cj) := hF6.cell 13
       have h6s : n₀ ≤ w6.heap.size := by have := hb6.size; have := hbq.size; omega
       clear hNq hoq hb0q hbq hFq hb6 hinqj
       by_cases h6 : x.own.kind = 7 ∧ x.fields = []
       ·
        have u1 : (x.own.kind == 7) = true := by rw [h6.1]; rfl
        have u2 : ((x.fields.length : Int) == 0) = true := by rw [h6.2]; rfl
        have u3 : (x.fields.length == 0) = true := by rw [h6.2]; rfl
        have hEq := see115 (Q := bndQ) (ah := l.take j) (f := x) h64 h16 h3 HA4.out h5 h6
        have hPost : RWalkPost G w (.returned (.tuple #[.int .i64 ((k' : Int) + 1), .agg #[.int .i64 115, .int .i64 0, .slice a4 (P.length + 1) c4]])) (((w6.setCell ⟨w.heap.size, 0, none⟩ (.int .i64 115)).setCell ⟨w.heap.size, 1, none⟩ (.int .i64 0)).setCell ⟨w.heap.size, 2, none⟩ (.slice a4 (P.length + 1) c4)) := rw_bad (HGb.out _ hEq (by decide)) (set3_below hb06 _ _ _) (by rw [hpl]; rfl) (IOwn.mono (set3_own ho6 (by omega) _ _ _) hsz)
        have hB9 := hN6.set3 (.int .i64 115) (.int .i64 0) (.slice a4 (P.length + 1) c4)
        obtain ⟨v0, v1, v2, g0, g1, g2⟩ := rcells hN6
        generalize x.fields.length = m at u2 u3 s13
        clear hEq HGb HGi HGo h6 hin6 hF6
        go_wp2_with fail
        exact bodyPost_ret (walk_results hB9 rfl rfl) rfl hPost
       have hE0 : Hid (seeF bndQ (P.length + 1) (k' + 1) (l.take j) x = 0) := see0 h64 h16 h3 HA4.out h5 h6
       have hih := hihj a4 c4 (P ++ [(j : Int)]) (k' + 1) aj cj lo n₀ wo.heap.size w6 (by rw [hpl]; omega) (by omega) (fun z hz => hfj.mem hz) hfj.len h6s ho6 hin6
       rw [hpl, show ((k' + 1 : Nat) : Int) = (k' : Int) + 1 from rfl] at hih
       have huu : ((x.own.kind == 7) = false) ∨ ((x.own.kind == 7) = true ∧ ((x.fields.length : Int) == 0) = false) := by
        by_cases h7 : x.own.kind = 7
        ·
         right
         refine ⟨by rw [h7]; rfl, ?_⟩
         have hne : x.fields ≠ [] := fun e => h6 ⟨h7, e⟩
         have := List.length_pos_iff.2 hne
         simp; exact hne
        ·
         left; simpa using h7
       clear h6 h5 HA4 hin6 ho6 hihj hF6 HGb
       rcases huu with u1 | ⟨u1, u2⟩
       ·
        skip
        go_wp2_with fail
        refine hih.mono ?_
        clear hih s1 s13
        cases h7 : tourL bndQ (P ++ [(j : Int)]) [] (k' + 1) x.fields with
        | ok m =>
         rintro e w7 ⟨hb7, rfl⟩
         have hm : m ≤ 64 := tourL_le bndQ _ x.fields (Nat.le_refl _) _ _ _ _ (by omega) h7
         have HS9 : Hid (G = tourL bndQ P (l.take (j + 1)) m (l.drop (j + 1))) := HGo.out hE0.out m h7
         have hb07 := hb06.trans (hb7.mono hb06.size)
         have hb8 := (Below.refl w7.heap.size w7).alloc (Nat.le_refl _) (.cells #[.int .i64 0, .int .i64 0, .slice none 0 0] 31)
         have hN8 := (hN6.old hb7).old hb8
         have hb08 := hb07.trans (hb8.mono hb07.size)
         clear h7 HGo HGi hE0 hN6 hb7 hb8 hb06 hb07
         go_wp2_with fail
         go_roundw
         case rel => exact ⟨j + 1, m, by omega, by simp, rfl, hm, hN8, HS9, hb08⟩
         case measure => simp only [intOf]; omega
        | bad c p m =>
         rintro e w7 ⟨hb7, a7, c7, rfl, ho7⟩
         have hGq : G = .bad c p m := HGi.out hE0.out c p m h7
         have hc : (c != 0) = true := by simpa using tourL_ne _ _ _ _ _ _ h7
         have hb07 := hb06.trans (hb7.mono hb06.size)
         have hb8 := (Below.refl w7.heap.size w7).alloc (Nat.le_refl _) (.cells #[.int .i64 c, .int .i64 0, .slice a7 p.length c7] 31)
         have hN7 := hN6.old hb7
         have hN8 := hN7.old hb8
         have hT8 := Blk.new w7 31 #[.int .i64 c, .int .i64 0, .slice a7 p.length c7]
         have ho8 : IOwn (w7.alloc (.cells #[.int .i64 c, .int .i64 0, .slice a7 p.length c7] 31)) w6.heap.size (.slice a7 p.length c7) p := own_after ho7 hb8
         have hb08 := hb07.trans (hb8.mono hb07.size)
         have hlt7 := hN7.lt
         have hPost : RWalkPost G w (.returned (.tuple #[.int .i64 (m : Int), .agg #[.int .i64 c, .int .i64 0, .slice a7 p.length c7]])) ((((w7.alloc (.cells #[.int .i64 c, .int .i64 0, .slice a7 p.length c7] 31)).setCell ⟨w.heap.size, 0, none⟩ (.int .i64 c)).setCell ⟨w.heap.size, 1, none⟩ (.int .i64 0)).setCell ⟨w.heap.size, 2, none⟩ (.slice a7 p.length c7)).drew := rw_bad hGq (set3_below hb08 _ _ _).drew rfl (IOwn.mono (set3_own ho8 (by have := hN6.lt; omega) _ _ _) hb06.size)
         have hB9 := hN8.set3 (.int .i64 c) (.int .i64 0) (.slice a7 p.length c7)
         obtain ⟨v0, v1, v2, g0, g1, g2⟩ := rcells hN8
         obtain ⟨y0, y1, y2, _, _, _⟩ := rcells hT8
         clear h7 HGo HGi hE0 hN6 hb7 hb8 hb06 hb07 hGq hN7 hN8 hT8 ho8 hb08 ho7
         go_upto_region 27 with fail
         generalize (w7.alloc (.cells #[.int .i64 c, .int .i64 0, .slice a7 p.length c7] 31)) = w8 at hPost hB9 v0 v1 v2 g0 g1 g2 y0 y1 y2 ⊢
         go_region
         go_wp2_with fail
         exact bodyPost_ret (walk_results hB9 rfl rfl) rfl hPost
       ·
        generalize hfl : x.fields.length = fm at u2 s13 hih
        clear hfl
        go_wp2_with fail
        refine hih.mono ?_
        clear hih s1 s13
        cases h7 : tourL bndQ (P ++ [(j : Int)]) [] (k' + 1) x.fields with
        | ok m =>
         rintro e w7 ⟨hb7, rfl⟩
         have hm : m ≤ 64 := tourL_le bndQ _ x.fields (Nat.le_refl _) _ _ _ _ (by omega) h7
         have HS9 : Hid (G = tourL bndQ P (l.take (j + 1)) m (l.drop (j + 1))) := HGo.out hE0.out m h7
         have hb07 := hb06.trans (hb7.mono hb06.size)
         have hb8 := (Below.refl w7.heap.size w7).alloc (Nat.le_refl _) (.cells #[.int .i64 0, .int .i64 0, .slice none 0 0] 31)
         have hN8 := (hN6.old hb7).old hb8
         have hb08 := hb07.trans (hb8.mono hb07.size)
         clear h7 HGo HGi hE0 hN6 hb7 hb8 hb06 hb07
         go_wp2_with fail
         go_roundw
         case rel => exact ⟨j + 1, m, by omega, by simp, rfl, hm, hN8, HS9, hb08⟩
         case measure => simp only [intOf]; omega
        | bad c p m =>
         rintro e w7 ⟨hb7, a7, c7, rfl, ho7⟩
         have hGq : G = .bad c p m := HGi.out hE0.out c p m h7
         have hc : (c != 0) = true := by simpa using tourL_ne _ _ _ _ _ _ h7
         have hb07 := hb06.trans (hb7.mono hb06.size)
         have hb8 := (Below.refl w7.heap.size w7).alloc (Nat.le_refl _) (.cells #[.int .i64 c, .int .i64 0, .slice a7 p.length c7] 31)
         have hN7 := hN6.old hb7
         have hN8 := hN7.old hb8
         have hT8 := Blk.new w7 31 #[.int .i64 c, .int .i64 0, .slice a7 p.length c7]
         have ho8 : IOwn (w7.alloc (.cells #[.int .i64 c, .int .i64 0, .slice a7 p.length c7] 31)) w6.heap.size (.slice a7 p.length c7) p := own_after ho7 hb8
         have hb08 := hb07.trans (hb8.mono hb07.size)
         have hlt7 := hN7.lt
         have hPost : RWalkPost G w (.returned (.tuple #[.int .i64 (m : Int), .agg #[.int .i64 c, .int .i64 0, .slice a7 p.length c7]])) ((((w7.alloc (.cells #[.int .i64 c, .int .i64 0, .slice a7 p.length c7] 31)).setCell ⟨w.heap.size, 0, none⟩ (.int .i64 c)).setCell ⟨w.heap.size, 1, none⟩ (.int .i64 0)).setCell ⟨w.heap.size, 2, none⟩ (.slice a7 p.length c7)).drew := rw_bad hGq (set3_below hb08 _ _ _).drew rfl (IOwn.mono (set3_own ho8 (by have := hN6.lt; omega) _ _ _) hb06.size)
         have hB9 := hN8.set3 (.int .i64 c) (.int .i64 0) (.slice a7 p.length c7)
         obtain ⟨v0, v1, v2, g0, g1, g2⟩ := rcells hN8
         obtain ⟨y0, y1, y2, _, _, _⟩ := rcells hT8
         clear h7 HGo HGi hE0 hN6 hb7 hb8 hb06 hb07 hGq hN7 hN8 hT8 ho8 hb08 ho7
         go_upto_region 27 with fail
         generalize (w7.alloc (.cells #[.int .i64 c, .int .i64 0, .slice a7 p.length c7] 31)) = w8 at hPost hB9 v0 v1 v2 g0 g1 g2 y0 y1 y2 ⊢
         go_region
         go_wp2_with fail
         exact bodyPost_ret (walk_results hB9 rfl rfl) rfl hPost
  ·
   have hGq : G = .ok k' := by rw [HS.out, List.drop_of_length_le (by omega), tourL_nil]
   have hB9 := hN.set3 (.int .i64 0) (.int .i64 0) (.slice none 0 0)
   have hPost : RWalkPost G w (.returned (.tuple #[.int .i64 (k' : Int), .agg #[.int .i64 0, .int .i64 0, .slice none 0 0]])) (((wr.setCell ⟨w.heap.size, 0, none⟩ (.int .i64 0)).setCell ⟨w.heap.size, 1, none⟩ (.int .i64 0)).setCell ⟨w.heap.size, 2, none⟩ (.slice none 0 0)) := by
    rw [hGq]; exact ⟨set3_below hbel _ _ _, rfl⟩
   obtain ⟨v0, v1, v2, g0, g1, g2⟩ := rcells hN
   clear HS ih hin hfit hN hGq hpath
   go_wp2_with fail
   exact bodyPost_ret (walk_results hB9 rfl rfl) rfl hPost
theorem fld_rwalk : ∀ f : Fld, RWalkOk f.fields := fun f => by
 induction f using Fld.ind with
 | h o l ih => exact rwalk_step l ih
theorem rwalk_any (l : List Fld) : RWalkOk l := rwalk_step l fun x _ => fld_rwalk x
def RCheckPost (r : Int × List Int) (w : World) (e : Ending) (w' : World) : Prop :=
  Below w.heap.size w w' ∧ ∃ a c, e = .returned (.agg #[.int .i64 r.1, .int .i64 0, .slice a r.2.length c]) ∧ IOwn w' w.heap.size (.slice a r.2.length c) r.2
theorem rchk_results {tmps : Array Value} {w : World} {h : Nat} {a b c : Value} (hb : Blk w h 31 #[a, b, c]) (t2 : tmps[2]?.getD undef = .pointer (some ⟨h, 0, none⟩)) :
    (results Tryz.f12 tmps).run Tryz.prog w = .ok (.agg #[a, b, c]) w := by
  have c0 := hb.cell 0
  have c1 := hb.cell 1
  have c2 := hb.cell 2
  simp at c0 c1 c2
  simp [results, Tryz.results12, go_sem, t2, c0, c1, c2]
set_option maxHeartbeats 4000000 in
set_option maxRecDepth 20000 in
theorem rscheck_any (limit : Int) (l : List Fld) (aa : Option Addr) (ca lo n₀ : Nat) (w : World) (hfit : ∀ x ∈ l, FitsF 17179869184 x) (hll : l.length ≤ 17179869184) (hn₀ : n₀ ≤ w.heap.size) (hin : FIn w lo n₀ l aa) :
    Calls Tryz.prog 12 #[.agg #[.int .i64 limit, .slice aa l.length ca]] w (RCheckPost (chkS bndQ limit l) w) := by
  have hb1 := (Below.refl w.heap.size w).alloc (Nat.le_refl _) (.cells #[.int .i64 limit, .slice aa l.length ca] 25)
  have hS1 := Blk.new w 25 #[.int .i64 limit, .slice aa l.length ca]
  have hs1 := alloc_size w (.cells #[.int .i64 limit, .slice aa l.length ca] 25)
  have hb2 := hb1.alloc hb1.size (.cells #[.int .i64 0, .int .i64 0, .slice none 0 0] 31)
  have hN2 := Blk.new (w.alloc (.cells #[.int .i64 limit, .slice aa l.length ca] 25)) 31 #[.int .i64 0, .int .i64 0, .slice none 0 0]
  rw [hs1] at hN2
  have hS2 := hS1.old ((Below.refl _ (w.alloc (.cells #[.int .i64 limit, .slice aa l.length ca] 25))).alloc (Nat.le_refl _) (.cells #[.int .i64 0, .int .i64 0, .slice none 0 0] 31))
  have hin2 := hin.keep hb2 hn₀
  obtain ⟨R, hR⟩ : ∃ R, chkS bndQ limit l = R := ⟨_, rfl⟩
  rw [hR]
  have HR : Hid (R = if limit < 1 ∨ 65536 < limit then (113, []) else if l = [] then (115, []) else match tourL bndQ [] [] 0 l with | .ok _ => (0, []) | .bad c p _ => (c, p)) := hR.symm
  clear hR hS1 hin hb1
  go_enter Tryz.func12, Tryz.ntmps12
  go_upto_region 1 with fail
  try simp only [hs1]
  generalize (w.alloc (.cells #[.int .i64 limit, .slice aa l.length ca] 25)).alloc (.cells #[.int .i64 0, .int .i64 0, .slice none 0 0] 31) = w2 at hb2 hN2 hS2 hin2 ⊢
  clear hs1
  obtain ⟨B, hB⟩ : ∃ B, w.heap.size + 1 = B := ⟨_, rfl⟩
  have HB : Hid (w.heap.size + 1 = B) := hB
  rw [hB] at hN2
  try rw [hB]
  clear hB
  have c0 : w2.cell? ⟨w.heap.size, 0, none⟩ = some (.int .i64 limit) := hS2.cell 0
  have c1 : w2.cell? ⟨w.heap.size, 1, none⟩ = some (.slice aa l.length ca) := hS2.cell 1
  obtain ⟨v0, v1, v2, g0, g1, g2⟩ := rcells hN2
  have HP : Hid (∀ why : Int, R = (why, []) → ∀ W, W = ((w2.setCell ⟨B, 0, none⟩ (.int .i64 why)).setCell ⟨B, 1, none⟩ (.int .i64 0)).setCell ⟨B, 2, none⟩ (.slice none 0 0) → RCheckPost R w (.returned (.agg #[.int .i64 why, .int .i64 0, .slice none 0 0])) W) := by
    rintro why rfl W rfl
    refine ⟨?_, none, 0, rfl, IOwn.nil _ _⟩
    have hBw := HB.out
    exact ((hb2.setCell (p := ⟨B, 0, none⟩) (by show w.heap.size ≤ B; omega) _).setCell (p := ⟨B, 1, none⟩) (by show w.heap.size ≤ B; omega) _).setCell (p := ⟨B, 2, none⟩) (by show w.heap.size ≤ B; omega) _
  by_cases h1 : limit < 1
  · have hRq : Hid (R = (113, [])) := by show _ = _; rw [HR.out, if_pos (.inl h1)]
    have t1 : decide (limit < 1) = true := by simpa using h1
    have hB9 := hN2.set3 (.int .i64 113) (.int .i64 0) (.slice none 0 0)
    clear HR h1 hin2
    go_wp2_with fail
    exact bodyPost_ret (rchk_results hB9 rfl) rfl (HP.out 113 hRq.out _ rfl)
  have t1 : decide (limit < 1) = false := by simpa using h1
  by_cases h2 : 65536 < limit
  · have hRq : Hid (R = (113, [])) := by show _ = _; rw [HR.out, if_pos (.inr h2)]
    have t2 : decide (65536 < limit) = true := by simpa using h2
    have hB9 := hN2.set3 (.int .i64 113) (.int .i64 0) (.slice none 0 0)
    clear HR h1 h2 hin2
    go_wp2_with fail
    exact bodyPost_ret (rchk_results hB9 rfl) rfl (HP.out 113 hRq.out _ rfl)
  have t2 : decide (65536 < limit) = false := by simpa using h2
  by_cases h3 : l = []
  · have hRq : Hid (R = (115, [])) := by show _ = _; rw [HR.out, if_neg (by omega), if_pos h3]
    have t3 : ((l.length : Int) == 0) = true := by rw [h3]; rfl
    have t4 : (l.length == 0) = true := by rw [h3]; rfl
    have hB9 := hN2.set3 (.int .i64 115) (.int .i64 0) (.slice none 0 0)
    generalize l.length = n at t3 t4 c1
    clear HR h1 h2 h3 hin2
    go_wp2_with fail
    exact bodyPost_ret (rchk_results hB9 rfl) rfl (HP.out 115 hRq.out _ rfl)
  have hlp := List.length_pos_iff.2 h3
  have t3 : ((l.length : Int) == 0) = false := by simp; exact h3
  have hgo := rwalk_any l none 0 [] 0 aa ca lo n₀ 0 w2 (by simp) (by omega) hfit hll (by have := hb2.size; omega) (IOwn.nil _ _) hin2
  have HR2 : Hid (R = match tourL bndQ [] [] 0 l with | .ok _ => (0, []) | .bad c p _ => (c, p)) := by
    show _ = _
    rw [HR.out, if_neg (by omega), if_neg h3]
  obtain ⟨n, hn⟩ : ∃ n, l.length = n := ⟨_, rfl⟩
  rw [hn] at t3 c1 hgo
  clear HR h1 h2 h3 hin2 hn hlp HP
  go_wp2_with fail
  refine hgo.mono ?_
  clear hgo
  cases h5 : tourL bndQ [] [] 0 l with
  | ok m =>
    rintro e w3 ⟨hb3, rfl⟩
    have hRq : R = (0, []) := by rw [HR2.out, h5]
    have hb4 := (Below.refl w3.heap.size w3).alloc (Nat.le_refl _) (.cells #[.int .i64 0, .int .i64 0, .slice none 0 0] 31)
    have hN4 := (hN2.old hb3).old hb4
    have hT4 := Blk.new w3 31 #[.int .i64 0, .int .i64 0, .slice none 0 0]
    have hb04 := (hb2.trans (hb3.mono hb2.size)).trans (hb4.mono (Nat.le_trans hb2.size hb3.size))
    have hPost : ∀ W, W = (((w3.alloc (.cells #[.int .i64 0, .int .i64 0, .slice none 0 0] 31)).setCell ⟨B, 0, none⟩ (.int .i64 0)).setCell ⟨B, 1, none⟩ (.int .i64 0)).setCell ⟨B, 2, none⟩ (.slice none 0 0) → RCheckPost R w (.returned (.agg #[.int .i64 0, .int .i64 0, .slice none 0 0])) W := by
      rintro W rfl
      rw [hRq]
      have hBw := HB.out
      refine ⟨?_, none, 0, rfl, IOwn.nil _ _⟩
      exact ((hb04.setCell (p := ⟨B, 0, none⟩) (by show w.heap.size ≤ B; omega) _).setCell (p := ⟨B, 1, none⟩) (by show w.heap.size ≤ B; omega) _).setCell (p := ⟨B, 2, none⟩) (by show w.heap.size ≤ B; omega) _
    have hB9 := hN4.set3 (.int .i64 0) (.int .i64 0) (.slice none 0 0)
    clear v0 v1 v2 g0 g1 g2 h5 HR2 hRq
    obtain ⟨v0, v1, v2, g0, g1, g2⟩ := rcells hN4
    obtain ⟨y0, y1, y2, _, _, _⟩ := rcells hT4
    go_upto_region 6 with fail
    generalize w3.alloc (.cells #[.int .i64 0, .int .i64 0, .slice none 0 0] 31) = w4 at hPost hB9 v0 v1 v2 g0 g1 g2 y0 y1 y2 ⊢
    go_wp2_with fail
    exact bodyPost_ret (rchk_results hB9 rfl) rfl (hPost _ rfl)
  | bad c p m =>
    rintro e w3 ⟨hb3, a, cc, rfl, ho⟩
    have hRq : R = (c, p) := by rw [HR2.out, h5]
    have hb4 := (Below.refl w3.heap.size w3).alloc (Nat.le_refl _) (.cells #[.int .i64 c, .int .i64 0, .slice a p.length cc] 31)
    have hN4 := (hN2.old hb3).old hb4
    have hT4 := Blk.new w3 31 #[.int .i64 c, .int .i64 0, .slice a p.length cc]
    have hb04 := (hb2.trans (hb3.mono hb2.size)).trans (hb4.mono (Nat.le_trans hb2.size hb3.size))
    have ho4 : IOwn (w3.alloc (.cells #[.int .i64 c, .int .i64 0, .slice a p.length cc] 31)) w2.heap.size (.slice a p.length cc) p := own_after ho hb4
    have hPost : ∀ W, W = (((w3.alloc (.cells #[.int .i64 c, .int .i64 0, .slice a p.length cc] 31)).setCell ⟨B, 0, none⟩ (.int .i64 c)).setCell ⟨B, 1, none⟩ (.int .i64 0)).setCell ⟨B, 2, none⟩ (.slice a p.length cc) → RCheckPost R w (.returned (.agg #[.int .i64 c, .int .i64 0, .slice a p.length cc])) W := by
      rintro W rfl
      rw [hRq]
      have hBw := HB.out
      refine ⟨?_, a, cc, rfl, IOwn.mono (set3_own ho4 hN2.lt _ _ _) hb2.size⟩
      exact ((hb04.setCell (p := ⟨B, 0, none⟩) (by show w.heap.size ≤ B; omega) _).setCell (p := ⟨B, 1, none⟩) (by show w.heap.size ≤ B; omega) _).setCell (p := ⟨B, 2, none⟩) (by show w.heap.size ≤ B; omega) _
    have hB9 := hN4.set3 (.int .i64 c) (.int .i64 0) (.slice a p.length cc)
    clear v0 v1 v2 g0 g1 g2 h5 HR2 hRq
    obtain ⟨v0, v1, v2, g0, g1, g2⟩ := rcells hN4
    obtain ⟨y0, y1, y2, _, _, _⟩ := rcells hT4
    clear ho ho4 hT4 hN4 hb4
    go_upto_region 6 with fail
    generalize w3.alloc (.cells #[.int .i64 c, .int .i64 0, .slice a p.length cc] 31) = w4 at hPost hB9 v0 v1 v2 g0 g1 g2 y0 y1 y2 ⊢
    go_wp2_with fail
    exact bodyPost_ret (rchk_results hB9 rfl) rfl (hPost _ rfl)
end Go.Proofs.YtcbjnifoojjipaaGreatDoor
