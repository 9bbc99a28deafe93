/- Contracts and lemmas (nothing is claimed here). -/
import Derived.Test.YtcbjnifoojjipaaGreatDoorJ9
import Derived.Test.YtcbjnifoojjipaaGreatDoorJ25
namespace Go.Proofs.YtcbjnifoojjipaaGreatDoor
open Go.RowKit Go.Vf

theorem maySayO_eq (q : Bool) (name : ByteArray) (kind : Int) (down : Bool) (nulls : Int) (bnd ln : Bool) (lm : ByteArray) (hn : Bool) (hm : ByteArray) (most str : Int) (shf bck : Bool) (n : Nat) {z1 z2 z3 z4 z5 : Bool} (h1 : (!ln && lm.size == 0) = z1) (h2 : (!hn && hm.size == 0) = z2) (h3 : (most == 0) = z3) (h4 : (str == 0 && !shf && !bck) = z4) (h5 : (n == 0) = z5) :
    maySayO q ⟨name, kind, down, nulls, bnd, ln, lm, hn, hm, most, str, shf, bck⟩ n = (decide (1 ≤ kind) && decide (kind ≤ 7) && decide (nulls ≤ 2) && (if kind = 2 then (if bnd then q else (z1 && z2)) else !bnd && (z1 && z2)) && (if kind = 3 ∨ kind = 5 then decide (0 ≤ most) && decide (most ≤ 65536) else z3) && (if kind = 6 then decide (1 ≤ str) && decide (str ≤ 4) && (decide (str < 4) || shf) else z4) && (kind == 7 || z5)) := by
  subst h1 h2 h3 h4 h5
  simp only [maySayO, Bool.and_assoc]

end Go.Proofs.YtcbjnifoojjipaaGreatDoor

namespace Go.Proofs.YtcbjnifoojjipaaGreatDoor
open Go.RowKit Go.Vf

set_option maxHeartbeats 8000000 in
set_option maxRecDepth 20000 in
theorem odd_1 (name : ByteArray) (down : Bool) (nulls : Int) (bnd ln : Bool) (lm : ByteArray) (hn : Bool) (hm : ByteArray) (most str : Int) (shf bck : Bool) (a : Option Addr) (n c : Nat) (hnn : n ≤ 281474976710656) (_hl : lm.size ≤ 17179869184) (_hh : hm.size ≤ 17179869184) (hnu : nulls ≤ 2) (w : World) :
    Calls Tryz.prog 55 #[fV ⟨name, 1, down, nulls, bnd, ln, lm, hn, hm, most, str, shf, bck⟩ a n c] w fun e w' => e = .returned (.bool (!maySayO (bndQ ⟨name, 1, down, nulls, bnd, ln, lm, hn, hm, most, str, shf, bck⟩) ⟨name, 1, down, nulls, bnd, ln, lm, hn, hm, most, str, shf, bck⟩ n)) ∧ Below w.heap.size w w' := by
  obtain ⟨z1, hz1⟩ : ∃ z, (!ln && lm.size == 0) = z := ⟨_, rfl⟩
  obtain ⟨z2, hz2⟩ : ∃ z, (!hn && hm.size == 0) = z := ⟨_, rfl⟩
  obtain ⟨z3, hz3⟩ : ∃ z, (most == 0) = z := ⟨_, rfl⟩
  obtain ⟨z4, hz4⟩ : ∃ z, (str == 0 && !shf && !bck) = z := ⟨_, rfl⟩
  obtain ⟨z5, hz5⟩ : ∃ z, (n == 0) = z := ⟨_, rfl⟩
  have he1 := num0 ln lm z1 hz1
  have he2 := num0 hn hm z2 hz2
  have he4 := col_eq str shf bck
  rw [hz4] at he4
  have he3 : (most != 0) = !z3 := by rw [← hz3]; rfl
  have he5 : decide ((0 : Int) < (n : Int)) = !z5 := by rw [← hz5]; cases n <;> simp <;> omega
  have he5' : decide (0 < n) = !z5 := by rw [← hz5]; cases n <;> simp
  have t3 : decide ((2 : Int) < nulls) = false := by simp; omega
  have hM := maySayO_eq (bndQ ⟨name, 1, down, nulls, bnd, ln, lm, hn, hm, most, str, shf, bck⟩) name 1 down nulls bnd ln lm hn hm most str shf bck n hz1 hz2 hz3 hz4 hz5
  rw [decide_eq_true hnu] at hM
  obtain ⟨R, hR⟩ : ∃ R, (!maySayO (bndQ ⟨name, 1, down, nulls, bnd, ln, lm, hn, hm, most, str, shf, bck⟩) ⟨name, 1, down, nulls, bnd, ln, lm, hn, hm, most, str, shf, bck⟩ n) = R := ⟨_, rfl⟩
  rw [hR]
  rw [hM] at hR
  have hb1 := (Below.refl w.heap.size w).alloc (Nat.le_refl _) (.cells #[.string name, .int .u8 1, .bool down, .int .u8 nulls, .bool bnd, .bool ln, .string lm, .bool hn, .string hm, .int .i64 most, .int .i64 str, .bool shf, .bool bck, .slice a n c] 48)
  have hb2 := hb1.alloc hb1.size (.cells #[.bool false, .string ⟨#[]⟩] 44)
  have hb3 := hb2.alloc hb2.size (.cells #[.int .i64 0, .bool false, .bool false] 46)
  clear hM hz1 hz2 hz4 hz5
  unfold fV
  dsimp only
  cases bnd with
  | true =>
    have hRn : R = true := by rw [← hR]; simp
    subst hRn
    clear hR
    go_enter Tryz.func55, Tryz.ntmps55
    go_wp2_with fail
    go_ret
    first | exact ⟨rfl, hb3⟩ | exact ⟨rfl, hb2⟩ | exact ⟨rfl, hb1⟩
  | false =>
    cases z1 with
    | false =>
      have hRn : R = true := by rw [← hR]; simp
      subst hRn
      clear hR
      go_enter Tryz.func55, Tryz.ntmps55
      go_wp2_with fail
      go_ret
      first | exact ⟨rfl, hb3⟩ | exact ⟨rfl, hb2⟩ | exact ⟨rfl, hb1⟩
    | true =>
      cases z2 with
      | false =>
        have hRn : R = true := by rw [← hR]; simp
        subst hRn
        clear hR
        go_enter Tryz.func55, Tryz.ntmps55
        go_wp2_with fail
        go_ret
        first | exact ⟨rfl, hb3⟩ | exact ⟨rfl, hb2⟩ | exact ⟨rfl, hb1⟩
      | true =>
        cases z3 with
        | false =>
          have hRn : R = true := by rw [← hR]; simp
          subst hRn
          clear hR
          go_enter Tryz.func55, Tryz.ntmps55
          go_wp2_with fail
          go_ret
          first | exact ⟨rfl, hb3⟩ | exact ⟨rfl, hb2⟩ | exact ⟨rfl, hb1⟩
        | true =>
          cases z4 with
          | false =>
            have hRn : R = true := by rw [← hR]; simp
            subst hRn
            clear hR
            go_enter Tryz.func55, Tryz.ntmps55
            go_wp2_with fail
            go_ret
            first | exact ⟨rfl, hb3⟩ | exact ⟨rfl, hb2⟩ | exact ⟨rfl, hb1⟩
          | true =>
            cases z5 with
            | false =>
              have hRn : R = true := by rw [← hR]; simp
              subst hRn
              clear hR
              go_enter Tryz.func55, Tryz.ntmps55
              go_wp2_with fail
              go_ret
              first | exact ⟨rfl, hb3⟩ | exact ⟨rfl, hb2⟩ | exact ⟨rfl, hb1⟩
            | true =>
              obtain rfl : most = 0 := by simpa using hz3
              have hRn : R = false := by rw [← hR]; simp
              subst hRn
              clear hR
              go_enter Tryz.func55, Tryz.ntmps55
              go_wp2_with fail
              go_ret
              first | exact ⟨rfl, hb3⟩ | exact ⟨rfl, hb2⟩ | exact ⟨rfl, hb1⟩

end Go.Proofs.YtcbjnifoojjipaaGreatDoor

namespace Go.Proofs.YtcbjnifoojjipaaGreatDoor
open Go.RowKit Go.Vf

set_option maxHeartbeats 8000000 in
set_option maxRecDepth 20000 in
theorem odd_2 (name : ByteArray) (down : Bool) (nulls : Int) (bnd ln : Bool) (lm : ByteArray) (hn : Bool) (hm : ByteArray) (most str : Int) (shf bck : Bool) (a : Option Addr) (n c : Nat) (hnn : n ≤ 281474976710656) (hl : lm.size ≤ 17179869184) (hh : hm.size ≤ 17179869184) (hnu : nulls ≤ 2) (w : World) :
    Calls Tryz.prog 55 #[fV ⟨name, 2, down, nulls, bnd, ln, lm, hn, hm, most, str, shf, bck⟩ a n c] w fun e w' => e = .returned (.bool (!maySayO (bndQ ⟨name, 2, down, nulls, bnd, ln, lm, hn, hm, most, str, shf, bck⟩) ⟨name, 2, down, nulls, bnd, ln, lm, hn, hm, most, str, shf, bck⟩ n)) ∧ Below w.heap.size w w' := by
  obtain ⟨z1, hz1⟩ : ∃ z, (!ln && lm.size == 0) = z := ⟨_, rfl⟩
  obtain ⟨z2, hz2⟩ : ∃ z, (!hn && hm.size == 0) = z := ⟨_, rfl⟩
  obtain ⟨z3, hz3⟩ : ∃ z, (most == 0) = z := ⟨_, rfl⟩
  obtain ⟨z4, hz4⟩ : ∃ z, (str == 0 && !shf && !bck) = z := ⟨_, rfl⟩
  obtain ⟨z5, hz5⟩ : ∃ z, (n == 0) = z := ⟨_, rfl⟩
  have he1 := num0 ln lm z1 hz1
  have he2 := num0 hn hm z2 hz2
  have he4 := col_eq str shf bck
  rw [hz4] at he4
  have he3 : (most != 0) = !z3 := by rw [← hz3]; rfl
  have he5 : decide ((0 : Int) < (n : Int)) = !z5 := by rw [← hz5]; cases n <;> simp <;> omega
  have he5' : decide (0 < n) = !z5 := by rw [← hz5]; cases n <;> simp
  have t3 : decide ((2 : Int) < nulls) = false := by simp; omega
  have hM := maySayO_eq (bndQ ⟨name, 2, down, nulls, bnd, ln, lm, hn, hm, most, str, shf, bck⟩) name 2 down nulls bnd ln lm hn hm most str shf bck n hz1 hz2 hz3 hz4 hz5
  rw [decide_eq_true hnu] at hM
  obtain ⟨R, hR⟩ : ∃ R, (!maySayO (bndQ ⟨name, 2, down, nulls, bnd, ln, lm, hn, hm, most, str, shf, bck⟩) ⟨name, 2, down, nulls, bnd, ln, lm, hn, hm, most, str, shf, bck⟩ n) = R := ⟨_, rfl⟩
  rw [hR]
  rw [hM] at hR
  have hb1 := (Below.refl w.heap.size w).alloc (Nat.le_refl _) (.cells #[.string name, .int .u8 2, .bool down, .int .u8 nulls, .bool bnd, .bool ln, .string lm, .bool hn, .string hm, .int .i64 most, .int .i64 str, .bool shf, .bool bck, .slice a n c] 48)
  have hb2 := hb1.alloc hb1.size (.cells #[.bool false, .string ⟨#[]⟩] 44)
  have hb3 := hb2.alloc hb2.size (.cells #[.int .i64 0, .bool false, .bool false] 46)
  clear hM hz1 hz2 hz4 hz5
  unfold fV
  dsimp only
  cases z3 with
  | false =>
    have hRn : R = true := by rw [← hR]; simp
    subst hRn
    clear hR
    go_enter Tryz.func55, Tryz.ntmps55
    go_wp2_with fail
    go_ret
    first | exact ⟨rfl, hb3⟩ | exact ⟨rfl, hb2⟩ | exact ⟨rfl, hb1⟩
  | true =>
    cases z4 with
    | false =>
      have hRn : R = true := by rw [← hR]; simp
      subst hRn
      clear hR
      go_enter Tryz.func55, Tryz.ntmps55
      go_wp2_with fail
      go_ret
      first | exact ⟨rfl, hb3⟩ | exact ⟨rfl, hb2⟩ | exact ⟨rfl, hb1⟩
    | true =>
      cases z5 with
      | false =>
        have hRn : R = true := by rw [← hR]; simp
        subst hRn
        clear hR
        go_enter Tryz.func55, Tryz.ntmps55
        go_wp2_with fail
        go_ret
        first | exact ⟨rfl, hb3⟩ | exact ⟨rfl, hb2⟩ | exact ⟨rfl, hb1⟩
      | true =>
        obtain rfl : most = 0 := by simpa using hz3
        cases bnd with
        | false =>
          cases z1 with
          | false =>
            have hRn : R = true := by rw [← hR]; simp
            subst hRn
            clear hR
            go_enter Tryz.func55, Tryz.ntmps55
            go_wp2_with fail
            go_ret
            first | exact ⟨rfl, hb3⟩ | exact ⟨rfl, hb2⟩ | exact ⟨rfl, hb1⟩
          | true =>
            cases z2 with
            | false =>
              have hRn : R = true := by rw [← hR]; simp
              subst hRn
              clear hR
              go_enter Tryz.func55, Tryz.ntmps55
              go_wp2_with fail
              go_ret
              first | exact ⟨rfl, hb3⟩ | exact ⟨rfl, hb2⟩ | exact ⟨rfl, hb1⟩
            | true =>
              have hRn : R = false := by rw [← hR]; simp
              subst hRn
              clear hR
              go_enter Tryz.func55, Tryz.ntmps55
              go_wp2_with fail
              go_ret
              first | exact ⟨rfl, hb3⟩ | exact ⟨rfl, hb2⟩ | exact ⟨rfl, hb1⟩
        | true =>
          have hcp : ∀ W, Calls Tryz.prog 82 #[.agg #[.bool ln, .string lm], .agg #[.bool hn, .string hm]] W fun e w' => e = compE ln lm.data.toList hn hm.data.toList ∧ Below W.heap.size W w' := fun W => rcompare_any ln lm hn hm hl hh W
          by_cases hc : chk ln lm.data.toList = 0 ∧ chk hn hm.data.toList = 0
          · rw [compE_0 hc.1 hc.2] at hcp
            have hRn : R = decide (0 < cmpN ln lm.data.toList hn hm.data.toList) := by
              rw [← hR]
              have hq : bndQ ⟨name, 2, down, nulls, true, ln, lm, hn, hm, 0, str, shf, bck⟩ = decide (cmpN ln lm.data.toList hn hm.data.toList ≤ 0) := by simp [bndQ, hc.1, hc.2]
              rw [hq]
              by_cases h9 : cmpN ln lm.data.toList hn hm.data.toList ≤ 0
              · simp [h9]
              · simp [h9]; omega
            subst hRn
            generalize cmpN ln lm.data.toList hn hm.data.toList = q at hcp ⊢
            clear hR hc
            go_enter Tryz.func55, Tryz.ntmps55
            go_wp2_with fail
            refine (hcp _).mono ?_
            rintro _ w2 ⟨rfl, hb4⟩
            have hb5 := hb3.trans (hb4.mono hb3.size)
            clear hcp hb1 hb2 hb3 hb4
            go_wp2_with fail
            go_ret
            exact ⟨rfl, hb5⟩
          · obtain ⟨e, he, hE⟩ := compE_1 hc
            rw [hE] at hcp
            have hB : bndQ ⟨name, 2, down, nulls, true, ln, lm, hn, hm, 0, str, shf, bck⟩ = false := by
              unfold bndQ
              cases h1 : decide (chk ln lm.data.toList = 0) with
              | false => rfl
              | true =>
                cases h2 : decide (chk hn hm.data.toList = 0) with
                | false => rfl
                | true => exact absurd ⟨of_decide_eq_true h1, of_decide_eq_true h2⟩ hc
            have hRn : R = true := by rw [← hR, hB]; simp
            subst hRn
            have t1 : (e != 0) = true := by simpa using he
            clear hR hc hE he hB
            go_enter Tryz.func55, Tryz.ntmps55
            go_wp2_with fail
            refine (hcp _).mono ?_
            rintro _ w2 ⟨rfl, hb4⟩
            have hb5 := hb3.trans (hb4.mono hb3.size)
            clear hcp hb1 hb2 hb3 hb4
            go_wp2_with fail
            go_ret
            exact ⟨rfl, hb5⟩

end Go.Proofs.YtcbjnifoojjipaaGreatDoor

namespace Go.Proofs.YtcbjnifoojjipaaGreatDoor
open Go.RowKit Go.Vf

set_option maxHeartbeats 8000000 in
set_option maxRecDepth 20000 in
theorem odd_3 (name : ByteArray) (down : Bool) (nulls : Int) (bnd ln : Bool) (lm : ByteArray) (hn : Bool) (hm : ByteArray) (most str : Int) (shf bck : Bool) (a : Option Addr) (n c : Nat) (hnn : n ≤ 281474976710656) (_hl : lm.size ≤ 17179869184) (_hh : hm.size ≤ 17179869184) (hnu : nulls ≤ 2) (w : World) :
    Calls Tryz.prog 55 #[fV ⟨name, 3, down, nulls, bnd, ln, lm, hn, hm, most, str, shf, bck⟩ a n c] w fun e w' => e = .returned (.bool (!maySayO (bndQ ⟨name, 3, down, nulls, bnd, ln, lm, hn, hm, most, str, shf, bck⟩) ⟨name, 3, down, nulls, bnd, ln, lm, hn, hm, most, str, shf, bck⟩ n)) ∧ Below w.heap.size w w' := by
  obtain ⟨z1, hz1⟩ : ∃ z, (!ln && lm.size == 0) = z := ⟨_, rfl⟩
  obtain ⟨z2, hz2⟩ : ∃ z, (!hn && hm.size == 0) = z := ⟨_, rfl⟩
  obtain ⟨z3, hz3⟩ : ∃ z, (most == 0) = z := ⟨_, rfl⟩
  obtain ⟨z4, hz4⟩ : ∃ z, (str == 0 && !shf && !bck) = z := ⟨_, rfl⟩
  obtain ⟨z5, hz5⟩ : ∃ z, (n == 0) = z := ⟨_, rfl⟩
  have he1 := num0 ln lm z1 hz1
  have he2 := num0 hn hm z2 hz2
  have he4 := col_eq str shf bck
  rw [hz4] at he4
  have he3 : (most != 0) = !z3 := by rw [← hz3]; rfl
  have he5 : decide ((0 : Int) < (n : Int)) = !z5 := by rw [← hz5]; cases n <;> simp <;> omega
  have he5' : decide (0 < n) = !z5 := by rw [← hz5]; cases n <;> simp
  have t3 : decide ((2 : Int) < nulls) = false := by simp; omega
  have hM := maySayO_eq (bndQ ⟨name, 3, down, nulls, bnd, ln, lm, hn, hm, most, str, shf, bck⟩) name 3 down nulls bnd ln lm hn hm most str shf bck n hz1 hz2 hz3 hz4 hz5
  rw [decide_eq_true hnu] at hM
  obtain ⟨R, hR⟩ : ∃ R, (!maySayO (bndQ ⟨name, 3, down, nulls, bnd, ln, lm, hn, hm, most, str, shf, bck⟩) ⟨name, 3, down, nulls, bnd, ln, lm, hn, hm, most, str, shf, bck⟩ n) = R := ⟨_, rfl⟩
  rw [hR]
  rw [hM] at hR
  have hb1 := (Below.refl w.heap.size w).alloc (Nat.le_refl _) (.cells #[.string name, .int .u8 3, .bool down, .int .u8 nulls, .bool bnd, .bool ln, .string lm, .bool hn, .string hm, .int .i64 most, .int .i64 str, .bool shf, .bool bck, .slice a n c] 48)
  have hb2 := hb1.alloc hb1.size (.cells #[.bool false, .string ⟨#[]⟩] 44)
  have hb3 := hb2.alloc hb2.size (.cells #[.int .i64 0, .bool false, .bool false] 46)
  clear hM hz1 hz2 hz4 hz5
  unfold fV
  dsimp only
  cases bnd with
  | true =>
    have hRn : R = true := by rw [← hR]; simp
    subst hRn
    clear hR
    go_enter Tryz.func55, Tryz.ntmps55
    go_wp2_with fail
    go_ret
    first | exact ⟨rfl, hb3⟩ | exact ⟨rfl, hb2⟩ | exact ⟨rfl, hb1⟩
  | false =>
    cases z1 with
    | false =>
      have hRn : R = true := by rw [← hR]; simp
      subst hRn
      clear hR
      go_enter Tryz.func55, Tryz.ntmps55
      go_wp2_with fail
      go_ret
      first | exact ⟨rfl, hb3⟩ | exact ⟨rfl, hb2⟩ | exact ⟨rfl, hb1⟩
    | true =>
      cases z2 with
      | false =>
        have hRn : R = true := by rw [← hR]; simp
        subst hRn
        clear hR
        go_enter Tryz.func55, Tryz.ntmps55
        go_wp2_with fail
        go_ret
        first | exact ⟨rfl, hb3⟩ | exact ⟨rfl, hb2⟩ | exact ⟨rfl, hb1⟩
      | true =>
        cases z4 with
        | false =>
          have hRn : R = true := by rw [← hR]; simp
          subst hRn
          clear hR
          go_enter Tryz.func55, Tryz.ntmps55
          go_wp2_with fail
          go_ret
          first | exact ⟨rfl, hb3⟩ | exact ⟨rfl, hb2⟩ | exact ⟨rfl, hb1⟩
        | true =>
          cases z5 with
          | false =>
            have hRn : R = true := by rw [← hR]; simp
            subst hRn
            clear hR
            go_enter Tryz.func55, Tryz.ntmps55
            go_wp2_with fail
            go_ret
            first | exact ⟨rfl, hb3⟩ | exact ⟨rfl, hb2⟩ | exact ⟨rfl, hb1⟩
          | true =>
            cases s1 : decide (0 ≤ most) with
            | false =>
              have s1' : decide (most < 0) = true := by simp at s1 ⊢; omega
              have hRn : R = true := by rw [← hR]; rw [s1]; simp
              subst hRn
              clear hR
              go_enter Tryz.func55, Tryz.ntmps55
              go_wp2_with fail
              go_ret
              first | exact ⟨rfl, hb3⟩ | exact ⟨rfl, hb2⟩ | exact ⟨rfl, hb1⟩
            | true =>
              have s1' : decide (most < 0) = false := by simp at s1 ⊢; omega
              cases s2 : decide (most ≤ 65536) with
              | false =>
                have s2' : decide (65536 < most) = true := by simp at s2 ⊢; omega
                have hRn : R = true := by rw [← hR]; rw [s1, s2]; simp
                subst hRn
                clear hR
                go_enter Tryz.func55, Tryz.ntmps55
                go_wp2_with fail
                go_ret
                first | exact ⟨rfl, hb3⟩ | exact ⟨rfl, hb2⟩ | exact ⟨rfl, hb1⟩
              | true =>
                have s2' : decide (65536 < most) = false := by simp at s2 ⊢; omega
                have hRn : R = false := by rw [← hR]; rw [s1, s2]; simp
                subst hRn
                clear hR
                go_enter Tryz.func55, Tryz.ntmps55
                go_wp2_with fail
                go_ret
                first | exact ⟨rfl, hb3⟩ | exact ⟨rfl, hb2⟩ | exact ⟨rfl, hb1⟩

end Go.Proofs.YtcbjnifoojjipaaGreatDoor

namespace Go.Proofs.YtcbjnifoojjipaaGreatDoor
open Go.RowKit Go.Vf

set_option maxHeartbeats 8000000 in
set_option maxRecDepth 20000 in
theorem odd_4 (name : ByteArray) (down : Bool) (nulls : Int) (bnd ln : Bool) (lm : ByteArray) (hn : Bool) (hm : ByteArray) (most str : Int) (shf bck : Bool) (a : Option Addr) (n c : Nat) (hnn : n ≤ 281474976710656) (_hl : lm.size ≤ 17179869184) (_hh : hm.size ≤ 17179869184) (hnu : nulls ≤ 2) (w : World) :
    Calls Tryz.prog 55 #[fV ⟨name, 4, down, nulls, bnd, ln, lm, hn, hm, most, str, shf, bck⟩ a n c] w fun e w' => e = .returned (.bool (!maySayO (bndQ ⟨name, 4, down, nulls, bnd, ln, lm, hn, hm, most, str, shf, bck⟩) ⟨name, 4, down, nulls, bnd, ln, lm, hn, hm, most, str, shf, bck⟩ n)) ∧ Below w.heap.size w w' := by
  obtain ⟨z1, hz1⟩ : ∃ z, (!ln && lm.size == 0) = z := ⟨_, rfl⟩
  obtain ⟨z2, hz2⟩ : ∃ z, (!hn && hm.size == 0) = z := ⟨_, rfl⟩
  obtain ⟨z3, hz3⟩ : ∃ z, (most == 0) = z := ⟨_, rfl⟩
  obtain ⟨z4, hz4⟩ : ∃ z, (str == 0 && !shf && !bck) = z := ⟨_, rfl⟩
  obtain ⟨z5, hz5⟩ : ∃ z, (n == 0) = z := ⟨_, rfl⟩
  have he1 := num0 ln lm z1 hz1
  have he2 := num0 hn hm z2 hz2
  have he4 := col_eq str shf bck
  rw [hz4] at he4
  have he3 : (most != 0) = !z3 := by rw [← hz3]; rfl
  have he5 : decide ((0 : Int) < (n : Int)) = !z5 := by rw [← hz5]; cases n <;> simp <;> omega
  have he5' : decide (0 < n) = !z5 := by rw [← hz5]; cases n <;> simp
  have t3 : decide ((2 : Int) < nulls) = false := by simp; omega
  have hM := maySayO_eq (bndQ ⟨name, 4, down, nulls, bnd, ln, lm, hn, hm, most, str, shf, bck⟩) name 4 down nulls bnd ln lm hn hm most str shf bck n hz1 hz2 hz3 hz4 hz5
  rw [decide_eq_true hnu] at hM
  obtain ⟨R, hR⟩ : ∃ R, (!maySayO (bndQ ⟨name, 4, down, nulls, bnd, ln, lm, hn, hm, most, str, shf, bck⟩) ⟨name, 4, down, nulls, bnd, ln, lm, hn, hm, most, str, shf, bck⟩ n) = R := ⟨_, rfl⟩
  rw [hR]
  rw [hM] at hR
  have hb1 := (Below.refl w.heap.size w).alloc (Nat.le_refl _) (.cells #[.string name, .int .u8 4, .bool down, .int .u8 nulls, .bool bnd, .bool ln, .string lm, .bool hn, .string hm, .int .i64 most, .int .i64 str, .bool shf, .bool bck, .slice a n c] 48)
  have hb2 := hb1.alloc hb1.size (.cells #[.bool false, .string ⟨#[]⟩] 44)
  have hb3 := hb2.alloc hb2.size (.cells #[.int .i64 0, .bool false, .bool false] 46)
  clear hM hz1 hz2 hz4 hz5
  unfold fV
  dsimp only
  cases bnd with
  | true =>
    have hRn : R = true := by rw [← hR]; simp
    subst hRn
    clear hR
    go_enter Tryz.func55, Tryz.ntmps55
    go_wp2_with fail
    go_ret
    first | exact ⟨rfl, hb3⟩ | exact ⟨rfl, hb2⟩ | exact ⟨rfl, hb1⟩
  | false =>
    cases z1 with
    | false =>
      have hRn : R = true := by rw [← hR]; simp
      subst hRn
      clear hR
      go_enter Tryz.func55, Tryz.ntmps55
      go_wp2_with fail
      go_ret
      first | exact ⟨rfl, hb3⟩ | exact ⟨rfl, hb2⟩ | exact ⟨rfl, hb1⟩
    | true =>
      cases z2 with
      | false =>
        have hRn : R = true := by rw [← hR]; simp
        subst hRn
        clear hR
        go_enter Tryz.func55, Tryz.ntmps55
        go_wp2_with fail
        go_ret
        first | exact ⟨rfl, hb3⟩ | exact ⟨rfl, hb2⟩ | exact ⟨rfl, hb1⟩
      | true =>
        cases z3 with
        | false =>
          have hRn : R = true := by rw [← hR]; simp
          subst hRn
          clear hR
          go_enter Tryz.func55, Tryz.ntmps55
          go_wp2_with fail
          go_ret
          first | exact ⟨rfl, hb3⟩ | exact ⟨rfl, hb2⟩ | exact ⟨rfl, hb1⟩
        | true =>
          cases z4 with
          | false =>
            have hRn : R = true := by rw [← hR]; simp
            subst hRn
            clear hR
            go_enter Tryz.func55, Tryz.ntmps55
            go_wp2_with fail
            go_ret
            first | exact ⟨rfl, hb3⟩ | exact ⟨rfl, hb2⟩ | exact ⟨rfl, hb1⟩
          | true =>
            cases z5 with
            | false =>
              have hRn : R = true := by rw [← hR]; simp
              subst hRn
              clear hR
              go_enter Tryz.func55, Tryz.ntmps55
              go_wp2_with fail
              go_ret
              first | exact ⟨rfl, hb3⟩ | exact ⟨rfl, hb2⟩ | exact ⟨rfl, hb1⟩
            | true =>
              obtain rfl : most = 0 := by simpa using hz3
              have hRn : R = false := by rw [← hR]; simp
              subst hRn
              clear hR
              go_enter Tryz.func55, Tryz.ntmps55
              go_wp2_with fail
              go_ret
              first | exact ⟨rfl, hb3⟩ | exact ⟨rfl, hb2⟩ | exact ⟨rfl, hb1⟩

end Go.Proofs.YtcbjnifoojjipaaGreatDoor

namespace Go.Proofs.YtcbjnifoojjipaaGreatDoor
open Go.RowKit Go.Vf

set_option maxHeartbeats 8000000 in
set_option maxRecDepth 20000 in
theorem odd_5 (name : ByteArray) (down : Bool) (nulls : Int) (bnd ln : Bool) (lm : ByteArray) (hn : Bool) (hm : ByteArray) (most str : Int) (shf bck : Bool) (a : Option Addr) (n c : Nat) (hnn : n ≤ 281474976710656) (_hl : lm.size ≤ 17179869184) (_hh : hm.size ≤ 17179869184) (hnu : nulls ≤ 2) (w : World) :
    Calls Tryz.prog 55 #[fV ⟨name, 5, down, nulls, bnd, ln, lm, hn, hm, most, str, shf, bck⟩ a n c] w fun e w' => e = .returned (.bool (!maySayO (bndQ ⟨name, 5, down, nulls, bnd, ln, lm, hn, hm, most, str, shf, bck⟩) ⟨name, 5, down, nulls, bnd, ln, lm, hn, hm, most, str, shf, bck⟩ n)) ∧ Below w.heap.size w w' := by
  obtain ⟨z1, hz1⟩ : ∃ z, (!ln && lm.size == 0) = z := ⟨_, rfl⟩
  obtain ⟨z2, hz2⟩ : ∃ z, (!hn && hm.size == 0) = z := ⟨_, rfl⟩
  obtain ⟨z3, hz3⟩ : ∃ z, (most == 0) = z := ⟨_, rfl⟩
  obtain ⟨z4, hz4⟩ : ∃ z, (str == 0 && !shf && !bck) = z := ⟨_, rfl⟩
  obtain ⟨z5, hz5⟩ : ∃ z, (n == 0) = z := ⟨_, rfl⟩
  have he1 := num0 ln lm z1 hz1
  have he2 := num0 hn hm z2 hz2
  have he4 := col_eq str shf bck
  rw [hz4] at he4
  have he3 : (most != 0) = !z3 := by rw [← hz3]; rfl
  have he5 : decide ((0 : Int) < (n : Int)) = !z5 := by rw [← hz5]; cases n <;> simp <;> omega
  have he5' : decide (0 < n) = !z5 := by rw [← hz5]; cases n <;> simp
  have t3 : decide ((2 : Int) < nulls) = false := by simp; omega
  have hM := maySayO_eq (bndQ ⟨name, 5, down, nulls, bnd, ln, lm, hn, hm, most, str, shf, bck⟩) name 5 down nulls bnd ln lm hn hm most str shf bck n hz1 hz2 hz3 hz4 hz5
  rw [decide_eq_true hnu] at hM
  obtain ⟨R, hR⟩ : ∃ R, (!maySayO (bndQ ⟨name, 5, down, nulls, bnd, ln, lm, hn, hm, most, str, shf, bck⟩) ⟨name, 5, down, nulls, bnd, ln, lm, hn, hm, most, str, shf, bck⟩ n) = R := ⟨_, rfl⟩
  rw [hR]
  rw [hM] at hR
  have hb1 := (Below.refl w.heap.size w).alloc (Nat.le_refl _) (.cells #[.string name, .int .u8 5, .bool down, .int .u8 nulls, .bool bnd, .bool ln, .string lm, .bool hn, .string hm, .int .i64 most, .int .i64 str, .bool shf, .bool bck, .slice a n c] 48)
  have hb2 := hb1.alloc hb1.size (.cells #[.bool false, .string ⟨#[]⟩] 44)
  have hb3 := hb2.alloc hb2.size (.cells #[.int .i64 0, .bool false, .bool false] 46)
  clear hM hz1 hz2 hz4 hz5
  unfold fV
  dsimp only
  cases bnd with
  | true =>
    have hRn : R = true := by rw [← hR]; simp
    subst hRn
    clear hR
    go_enter Tryz.func55, Tryz.ntmps55
    go_wp2_with fail
    go_ret
    first | exact ⟨rfl, hb3⟩ | exact ⟨rfl, hb2⟩ | exact ⟨rfl, hb1⟩
  | false =>
    cases z1 with
    | false =>
      have hRn : R = true := by rw [← hR]; simp
      subst hRn
      clear hR
      go_enter Tryz.func55, Tryz.ntmps55
      go_wp2_with fail
      go_ret
      first | exact ⟨rfl, hb3⟩ | exact ⟨rfl, hb2⟩ | exact ⟨rfl, hb1⟩
    | true =>
      cases z2 with
      | false =>
        have hRn : R = true := by rw [← hR]; simp
        subst hRn
        clear hR
        go_enter Tryz.func55, Tryz.ntmps55
        go_wp2_with fail
        go_ret
        first | exact ⟨rfl, hb3⟩ | exact ⟨rfl, hb2⟩ | exact ⟨rfl, hb1⟩
      | true =>
        cases z4 with
        | false =>
          have hRn : R = true := by rw [← hR]; simp
          subst hRn
          clear hR
          go_enter Tryz.func55, Tryz.ntmps55
          go_wp2_with fail
          go_ret
          first | exact ⟨rfl, hb3⟩ | exact ⟨rfl, hb2⟩ | exact ⟨rfl, hb1⟩
        | true =>
          cases z5 with
          | false =>
            have hRn : R = true := by rw [← hR]; simp
            subst hRn
            clear hR
            go_enter Tryz.func55, Tryz.ntmps55
            go_wp2_with fail
            go_ret
            first | exact ⟨rfl, hb3⟩ | exact ⟨rfl, hb2⟩ | exact ⟨rfl, hb1⟩
          | true =>
            cases s1 : decide (0 ≤ most) with
            | false =>
              have s1' : decide (most < 0) = true := by simp at s1 ⊢; omega
              have hRn : R = true := by rw [← hR]; rw [s1]; simp
              subst hRn
              clear hR
              go_enter Tryz.func55, Tryz.ntmps55
              go_wp2_with fail
              go_ret
              first | exact ⟨rfl, hb3⟩ | exact ⟨rfl, hb2⟩ | exact ⟨rfl, hb1⟩
            | true =>
              have s1' : decide (most < 0) = false := by simp at s1 ⊢; omega
              cases s2 : decide (most ≤ 65536) with
              | false =>
                have s2' : decide (65536 < most) = true := by simp at s2 ⊢; omega
                have hRn : R = true := by rw [← hR]; rw [s1, s2]; simp
                subst hRn
                clear hR
                go_enter Tryz.func55, Tryz.ntmps55
                go_wp2_with fail
                go_ret
                first | exact ⟨rfl, hb3⟩ | exact ⟨rfl, hb2⟩ | exact ⟨rfl, hb1⟩
              | true =>
                have s2' : decide (65536 < most) = false := by simp at s2 ⊢; omega
                have hRn : R = false := by rw [← hR]; rw [s1, s2]; simp
                subst hRn
                clear hR
                go_enter Tryz.func55, Tryz.ntmps55
                go_wp2_with fail
                go_ret
                first | exact ⟨rfl, hb3⟩ | exact ⟨rfl, hb2⟩ | exact ⟨rfl, hb1⟩

end Go.Proofs.YtcbjnifoojjipaaGreatDoor

namespace Go.Proofs.YtcbjnifoojjipaaGreatDoor
open Go.RowKit Go.Vf

set_option maxHeartbeats 8000000 in
set_option maxRecDepth 20000 in
theorem odd_6 (name : ByteArray) (down : Bool) (nulls : Int) (bnd ln : Bool) (lm : ByteArray) (hn : Bool) (hm : ByteArray) (most str : Int) (shf bck : Bool) (a : Option Addr) (n c : Nat) (hnn : n ≤ 281474976710656) (_hl : lm.size ≤ 17179869184) (_hh : hm.size ≤ 17179869184) (hnu : nulls ≤ 2) (w : World) :
    Calls Tryz.prog 55 #[fV ⟨name, 6, down, nulls, bnd, ln, lm, hn, hm, most, str, shf, bck⟩ a n c] w fun e w' => e = .returned (.bool (!maySayO (bndQ ⟨name, 6, down, nulls, bnd, ln, lm, hn, hm, most, str, shf, bck⟩) ⟨name, 6, down, nulls, bnd, ln, lm, hn, hm, most, str, shf, bck⟩ n)) ∧ Below w.heap.size w w' := by
  obtain ⟨z1, hz1⟩ : ∃ z, (!ln && lm.size == 0) = z := ⟨_, rfl⟩
  obtain ⟨z2, hz2⟩ : ∃ z, (!hn && hm.size == 0) = z := ⟨_, rfl⟩
  obtain ⟨z3, hz3⟩ : ∃ z, (most == 0) = z := ⟨_, rfl⟩
  obtain ⟨z4, hz4⟩ : ∃ z, (str == 0 && !shf && !bck) = z := ⟨_, rfl⟩
  obtain ⟨z5, hz5⟩ : ∃ z, (n == 0) = z := ⟨_, rfl⟩
  have he1 := num0 ln lm z1 hz1
  have he2 := num0 hn hm z2 hz2
  have he4 := col_eq str shf bck
  rw [hz4] at he4
  have he3 : (most != 0) = !z3 := by rw [← hz3]; rfl
  have he5 : decide ((0 : Int) < (n : Int)) = !z5 := by rw [← hz5]; cases n <;> simp <;> omega
  have he5' : decide (0 < n) = !z5 := by rw [← hz5]; cases n <;> simp
  have t3 : decide ((2 : Int) < nulls) = false := by simp; omega
  have hM := maySayO_eq (bndQ ⟨name, 6, down, nulls, bnd, ln, lm, hn, hm, most, str, shf, bck⟩) name 6 down nulls bnd ln lm hn hm most str shf bck n hz1 hz2 hz3 hz4 hz5
  rw [decide_eq_true hnu] at hM
  obtain ⟨R, hR⟩ : ∃ R, (!maySayO (bndQ ⟨name, 6, down, nulls, bnd, ln, lm, hn, hm, most, str, shf, bck⟩) ⟨name, 6, down, nulls, bnd, ln, lm, hn, hm, most, str, shf, bck⟩ n) = R := ⟨_, rfl⟩
  rw [hR]
  rw [hM] at hR
  have hb1 := (Below.refl w.heap.size w).alloc (Nat.le_refl _) (.cells #[.string name, .int .u8 6, .bool down, .int .u8 nulls, .bool bnd, .bool ln, .string lm, .bool hn, .string hm, .int .i64 most, .int .i64 str, .bool shf, .bool bck, .slice a n c] 48)
  have hb2 := hb1.alloc hb1.size (.cells #[.bool false, .string ⟨#[]⟩] 44)
  have hb3 := hb2.alloc hb2.size (.cells #[.int .i64 0, .bool false, .bool false] 46)
  clear hM hz1 hz2 hz4 hz5
  unfold fV
  dsimp only
  cases bnd with
  | true =>
    have hRn : R = true := by rw [← hR]; simp
    subst hRn
    clear hR
    go_enter Tryz.func55, Tryz.ntmps55
    go_wp2_with fail
    go_ret
    first | exact ⟨rfl, hb3⟩ | exact ⟨rfl, hb2⟩ | exact ⟨rfl, hb1⟩
  | false =>
    cases z1 with
    | false =>
      have hRn : R = true := by rw [← hR]; simp
      subst hRn
      clear hR
      go_enter Tryz.func55, Tryz.ntmps55
      go_wp2_with fail
      go_ret
      first | exact ⟨rfl, hb3⟩ | exact ⟨rfl, hb2⟩ | exact ⟨rfl, hb1⟩
    | true =>
      cases z2 with
      | false =>
        have hRn : R = true := by rw [← hR]; simp
        subst hRn
        clear hR
        go_enter Tryz.func55, Tryz.ntmps55
        go_wp2_with fail
        go_ret
        first | exact ⟨rfl, hb3⟩ | exact ⟨rfl, hb2⟩ | exact ⟨rfl, hb1⟩
      | true =>
        cases z3 with
        | false =>
          have hRn : R = true := by rw [← hR]; simp
          subst hRn
          clear hR
          go_enter Tryz.func55, Tryz.ntmps55
          go_wp2_with fail
          go_ret
          first | exact ⟨rfl, hb3⟩ | exact ⟨rfl, hb2⟩ | exact ⟨rfl, hb1⟩
        | true =>
          cases z5 with
          | false =>
            have hRn : R = true := by rw [← hR]; simp
            subst hRn
            clear hR
            go_enter Tryz.func55, Tryz.ntmps55
            go_wp2_with fail
            go_ret
            first | exact ⟨rfl, hb3⟩ | exact ⟨rfl, hb2⟩ | exact ⟨rfl, hb1⟩
          | true =>
            obtain rfl : most = 0 := by simpa using hz3
            cases s1 : decide (1 ≤ str) with
            | false =>
              have s1' : decide (str < 1) = true := by simp at s1 ⊢; omega
              have hRn : R = true := by rw [← hR]; rw [s1]; simp
              subst hRn
              clear hR
              go_enter Tryz.func55, Tryz.ntmps55
              go_wp2_with fail
              go_ret
              first | exact ⟨rfl, hb3⟩ | exact ⟨rfl, hb2⟩ | exact ⟨rfl, hb1⟩
            | true =>
              have s1' : decide (str < 1) = false := by simp at s1 ⊢; omega
              cases s2 : decide (str ≤ 4) with
              | false =>
                have s2' : decide (4 < str) = true := by simp at s2 ⊢; omega
                have hRn : R = true := by rw [← hR]; rw [s1, s2]; simp
                subst hRn
                clear hR
                go_enter Tryz.func55, Tryz.ntmps55
                go_wp2_with fail
                go_ret
                first | exact ⟨rfl, hb3⟩ | exact ⟨rfl, hb2⟩ | exact ⟨rfl, hb1⟩
              | true =>
                have s2' : decide (4 < str) = false := by simp at s2 ⊢; omega
                cases s3 : decide (str < 4) with
                | true =>
                  have s3' : (str == 4) = false := by simp at s3 ⊢; omega
                  have hRn : R = false := by rw [← hR]; rw [s1, s2, s3]; simp
                  subst hRn
                  clear hR
                  go_enter Tryz.func55, Tryz.ntmps55
                  go_wp2_with fail
                  go_ret
                  first | exact ⟨rfl, hb3⟩ | exact ⟨rfl, hb2⟩ | exact ⟨rfl, hb1⟩
                | false =>
                  have s3' : (str == 4) = true := by simp at s2 s3 ⊢; omega
                  cases shf with
                  | true =>
                    have hRn : R = false := by rw [← hR]; rw [s1, s2, s3]; simp
                    subst hRn
                    clear hR
                    go_enter Tryz.func55, Tryz.ntmps55
                    go_wp2_with fail
                    go_ret
                    first | exact ⟨rfl, hb3⟩ | exact ⟨rfl, hb2⟩ | exact ⟨rfl, hb1⟩
                  | false =>
                    have hRn : R = true := by rw [← hR]; rw [s1, s2, s3]; simp
                    subst hRn
                    clear hR
                    go_enter Tryz.func55, Tryz.ntmps55
                    go_wp2_with fail
                    go_ret
                    first | exact ⟨rfl, hb3⟩ | exact ⟨rfl, hb2⟩ | exact ⟨rfl, hb1⟩

end Go.Proofs.YtcbjnifoojjipaaGreatDoor

namespace Go.Proofs.YtcbjnifoojjipaaGreatDoor
open Go.RowKit Go.Vf

set_option maxHeartbeats 8000000 in
set_option maxRecDepth 20000 in
theorem odd_7 (name : ByteArray) (down : Bool) (nulls : Int) (bnd ln : Bool) (lm : ByteArray) (hn : Bool) (hm : ByteArray) (most str : Int) (shf bck : Bool) (a : Option Addr) (n c : Nat) (hnn : n ≤ 281474976710656) (_hl : lm.size ≤ 17179869184) (_hh : hm.size ≤ 17179869184) (hnu : nulls ≤ 2) (w : World) :
    Calls Tryz.prog 55 #[fV ⟨name, 7, down, nulls, bnd, ln, lm, hn, hm, most, str, shf, bck⟩ a n c] w fun e w' => e = .returned (.bool (!maySayO (bndQ ⟨name, 7, down, nulls, bnd, ln, lm, hn, hm, most, str, shf, bck⟩) ⟨name, 7, down, nulls, bnd, ln, lm, hn, hm, most, str, shf, bck⟩ n)) ∧ Below w.heap.size w w' := by
  obtain ⟨z1, hz1⟩ : ∃ z, (!ln && lm.size == 0) = z := ⟨_, rfl⟩
  obtain ⟨z2, hz2⟩ : ∃ z, (!hn && hm.size == 0) = z := ⟨_, rfl⟩
  obtain ⟨z3, hz3⟩ : ∃ z, (most == 0) = z := ⟨_, rfl⟩
  obtain ⟨z4, hz4⟩ : ∃ z, (str == 0 && !shf && !bck) = z := ⟨_, rfl⟩
  obtain ⟨z5, hz5⟩ : ∃ z, (n == 0) = z := ⟨_, rfl⟩
  have he1 := num0 ln lm z1 hz1
  have he2 := num0 hn hm z2 hz2
  have he4 := col_eq str shf bck
  rw [hz4] at he4
  have he3 : (most != 0) = !z3 := by rw [← hz3]; rfl
  have he5 : decide ((0 : Int) < (n : Int)) = !z5 := by rw [← hz5]; cases n <;> simp <;> omega
  have he5' : decide (0 < n) = !z5 := by rw [← hz5]; cases n <;> simp
  have t3 : decide ((2 : Int) < nulls) = false := by simp; omega
  have hM := maySayO_eq (bndQ ⟨name, 7, down, nulls, bnd, ln, lm, hn, hm, most, str, shf, bck⟩) name 7 down nulls bnd ln lm hn hm most str shf bck n hz1 hz2 hz3 hz4 hz5
  rw [decide_eq_true hnu] at hM
  obtain ⟨R, hR⟩ : ∃ R, (!maySayO (bndQ ⟨name, 7, down, nulls, bnd, ln, lm, hn, hm, most, str, shf, bck⟩) ⟨name, 7, down, nulls, bnd, ln, lm, hn, hm, most, str, shf, bck⟩ n) = R := ⟨_, rfl⟩
  rw [hR]
  rw [hM] at hR
  have hb1 := (Below.refl w.heap.size w).alloc (Nat.le_refl _) (.cells #[.string name, .int .u8 7, .bool down, .int .u8 nulls, .bool bnd, .bool ln, .string lm, .bool hn, .string hm, .int .i64 most, .int .i64 str, .bool shf, .bool bck, .slice a n c] 48)
  have hb2 := hb1.alloc hb1.size (.cells #[.bool false, .string ⟨#[]⟩] 44)
  have hb3 := hb2.alloc hb2.size (.cells #[.int .i64 0, .bool false, .bool false] 46)
  clear hM hz1 hz2 hz4 hz5
  unfold fV
  dsimp only
  cases bnd with
  | true =>
    have hRn : R = true := by rw [← hR]; simp
    subst hRn
    clear hR
    go_enter Tryz.func55, Tryz.ntmps55
    go_wp2_with fail
    go_ret
    first | exact ⟨rfl, hb3⟩ | exact ⟨rfl, hb2⟩ | exact ⟨rfl, hb1⟩
  | false =>
    cases z1 with
    | false =>
      have hRn : R = true := by rw [← hR]; simp
      subst hRn
      clear hR
      go_enter Tryz.func55, Tryz.ntmps55
      go_wp2_with fail
      go_ret
      first | exact ⟨rfl, hb3⟩ | exact ⟨rfl, hb2⟩ | exact ⟨rfl, hb1⟩
    | true =>
      cases z2 with
      | false =>
        have hRn : R = true := by rw [← hR]; simp
        subst hRn
        clear hR
        go_enter Tryz.func55, Tryz.ntmps55
        go_wp2_with fail
        go_ret
        first | exact ⟨rfl, hb3⟩ | exact ⟨rfl, hb2⟩ | exact ⟨rfl, hb1⟩
      | true =>
        cases z3 with
        | false =>
          have hRn : R = true := by rw [← hR]; simp
          subst hRn
          clear hR
          go_enter Tryz.func55, Tryz.ntmps55
          go_wp2_with fail
          go_ret
          first | exact ⟨rfl, hb3⟩ | exact ⟨rfl, hb2⟩ | exact ⟨rfl, hb1⟩
        | true =>
          cases z4 with
          | false =>
            have hRn : R = true := by rw [← hR]; simp
            subst hRn
            clear hR
            go_enter Tryz.func55, Tryz.ntmps55
            go_wp2_with fail
            go_ret
            first | exact ⟨rfl, hb3⟩ | exact ⟨rfl, hb2⟩ | exact ⟨rfl, hb1⟩
          | true =>
            obtain rfl : most = 0 := by simpa using hz3
            have hRn : R = false := by rw [← hR]; simp
            subst hRn
            clear hR
            go_enter Tryz.func55, Tryz.ntmps55
            go_wp2_with fail
            go_ret
            first | exact ⟨rfl, hb3⟩ | exact ⟨rfl, hb2⟩ | exact ⟨rfl, hb1⟩

end Go.Proofs.YtcbjnifoojjipaaGreatDoor

namespace Go.Proofs.YtcbjnifoojjipaaGreatDoor
open Go.RowKit Go.Vf

set_option maxHeartbeats 1000000 in
theorem odd_any (o : Own) (a : Option Addr) (n c : Nat) (hn : n ≤ 281474976710656) (hl : o.lm.size ≤ 17179869184) (hh : o.hm.size ≤ 17179869184) (w : World) :
    Calls Tryz.prog 55 #[fV o a n c] w fun e w' => e = .returned (.bool (!maySayO (bndQ o) o n)) ∧ Below w.heap.size w w' := by
  have hb0 := (Below.refl w.heap.size w).alloc (Nat.le_refl _) (.cells (cellsF o a n c) 48)
  by_cases h1 : o.kind < 1
  · have hR : maySayO (bndQ o) o n = false := by simp [maySayO]; omega
    have t1 : decide (o.kind < 1) = true := by simpa using h1
    rw [hR]
    unfold fV
    simp only [cellsF] at hb0
    clear hR h1
    go_enter Tryz.func55, Tryz.ntmps55
    go_wp2_with fail
    go_ret
    exact ⟨rfl, hb0⟩
  have t1 : decide (o.kind < 1) = false := by simpa using h1
  by_cases h7 : 7 < o.kind
  · have hR : maySayO (bndQ o) o n = false := by simp [maySayO]; omega
    have t2 : decide (7 < o.kind) = true := by simpa using h7
    rw [hR]
    unfold fV
    simp only [cellsF] at hb0
    clear hR h1 h7
    go_enter Tryz.func55, Tryz.ntmps55
    go_wp2_with fail
    go_ret
    exact ⟨rfl, hb0⟩
  have t2 : decide (7 < o.kind) = false := by simpa using h7
  by_cases h2 : 2 < o.nulls
  · have hR : maySayO (bndQ o) o n = false := by
      have : decide (o.nulls ≤ 2) = false := by simpa using h2
      simp [maySayO, this]
    have t3 : decide (2 < o.nulls) = true := by simpa using h2
    rw [hR]
    unfold fV
    simp only [cellsF] at hb0
    clear hR h1 h7 h2
    go_enter Tryz.func55, Tryz.ntmps55
    go_wp2_with fail
    go_ret
    exact ⟨rfl, hb0⟩
  obtain ⟨name, kind, down, nulls, bnd, ln, lm, hn', hm, most, str, shf, bck⟩ := o
  simp only at h1 h7 h2 hl hh
  clear t1 t2 hb0
  have hnu : nulls ≤ 2 := by omega
  have hk : kind = 1 ∨ kind = 2 ∨ kind = 3 ∨ kind = 4 ∨ kind = 5 ∨ kind = 6 ∨ kind = 7 := by omega
  rcases hk with rfl | rfl | rfl | rfl | rfl | rfl | rfl
  · exact odd_1 name down nulls bnd ln lm hn' hm most str shf bck a n c hn hl hh hnu w
  · exact odd_2 name down nulls bnd ln lm hn' hm most str shf bck a n c hn hl hh hnu w
  · exact odd_3 name down nulls bnd ln lm hn' hm most str shf bck a n c hn hl hh hnu w
  · exact odd_4 name down nulls bnd ln lm hn' hm most str shf bck a n c hn hl hh hnu w
  · exact odd_5 name down nulls bnd ln lm hn' hm most str shf bck a n c hn hl hh hnu w
  · exact odd_6 name down nulls bnd ln lm hn' hm most str shf bck a n c hn hl hh hnu w
  · exact odd_7 name down nulls bnd ln lm hn' hm most str shf bck a n c hn hl hh hnu w

end Go.Proofs.YtcbjnifoojjipaaGreatDoor
