/- Contracts and lemmas (nothing is claimed here). -/
import Derived.Test.YtkjoomdglealmaaGreatDoorJ5
import Derived.Test.YtkjoomdglealmaaGreatDoorJ6
namespace Go.Proofs.YtkjoomdglealmaaGreatDoor
open Go.RowKit Go.Vf

def NmRel (R b : Bool) (l : List UInt8) (j : Nat) : Prop := (j = 0 → R = (b && (l.drop j).all isNameC)) ∧ (0 < j → R = (l.drop j).all isNameC)
set_option maxHeartbeats 4000000 in
set_option maxRecDepth 20000 in
theorem rIsName_any (s : ByteArray) (hs : s.size ≤ 281474976710656) (w : World) : Calls Tryz.prog 148 #[.string s] w fun e w' => e = .returned (.bool (isNameS s)) ∧ w = w' := by
  by_cases h0 : s.size = 0
  · rw [isNameS_nil s h0]
    have t0 : decide ((s.size : Int) < 1) = true := decide_eq_true (by omega)
    have t1 : decide (s.size < 1) = true := decide_eq_true (by omega)
    go_enter Tryz.func148, Tryz.ntmps148
    go_wp2
    go_ret
    exact ⟨rfl, rfl⟩
  have hpos : 0 < s.size := by omega
  have t0 : decide ((s.size : Int) < 1) = false := by simp; omega
  rw [isNameS_eq s hpos]
  by_cases h16 : s.size ≤ 16
  · have t1 : decide ((16 : Int) < (s.size : Int)) = false := by simp; omega
    obtain ⟨R, hR⟩ : ∃ R, (isSmallU s[0] && s.data.toList.all isNameC) = R := ⟨_, rfl⟩
    rw [show (decide (s.size ≤ 16) && isSmallU s[0] && s.data.toList.all isNameC) = R by rw [← hR]; simp [h16]]
    have HR : Hid (NmRel R (isSmallU s[0]) s.data.toList 0) := ⟨fun _ => hR.symm, fun h => absurd h (by omega)⟩
    have hlen : s.data.toList.length = s.size := (Lib.size_eq s).symm
    clear hR
    go_enter Tryz.func148, Tryz.ntmps148
    go_wp2_with fail
    go_loopw [3] (fun i wr => ∃ (j : Nat), j ≤ s.size ∧ i = .int .i64 j ∧ Hid (NmRel R (isSmallU s[0]) s.data.toList j) ∧ w = wr) (fun i _ => s.size - (intOf i).toNat)
    case atStart => exact ⟨0, by omega, rfl, HR, rfl⟩
    case round =>
      clear HR
      obtain ⟨j, hj, rfl, HS, rfl⟩ := hrel
      by_cases hlt : j < s.size
      · have HD : Hid ((j = 0 → R = (isSmallU s[j] && (s.data.toList.drop (j + 1)).all isNameC)) ∧ (0 < j → R = (isNameC s[j] && (s.data.toList.drop (j + 1)).all isNameC))) := by
          refine ⟨fun h => ?_, fun h => ?_⟩
          · have q := HS.out.1 h
            subst h
            rw [q, all_dropN _ _ _ (by omega)]
            have e1 : s.data.toList[0]'(by omega) = s[0] := rfl
            rw [e1]
            cases h1 : isSmallU s[0] with
            | false => rfl
            | true => rw [show isNameC s[0] = true by rw [isNameC, h1]; rfl]; rfl
          · rw [HS.out.2 h, all_dropN _ _ _ (by omega)]; rfl
        clear HS hlen
        have hc := (s[j]).toNat_lt
        have hn0 : ∀ b : Bool, isNameC s[j] = b → isSmallU s[j] = b → Hid (R = (b && (s.data.toList.drop (j + 1)).all isNameC)) := fun b h1 h2 => by
          show _ = _
          rcases Nat.eq_zero_or_pos j with h | h
          · rw [HD.out.1 h, h2]
          · rw [HD.out.2 h, h1]
        by_cases hA : 97 ≤ (s[j]).toNat ∧ (s[j]).toNat ≤ 122
        · have hsm : isSmallU s[j] = true := by simp [isSmallU, hA]
          have hnm : isNameC s[j] = true := by rw [isNameC, hsm]; rfl
          have HD2 : Hid (NmRel R (isSmallU s[0]) s.data.toList (j + 1)) := ⟨fun h => absurd h (by omega), fun _ => by rw [(hn0 true hnm hsm).out]; rfl⟩
          have a1 : decide ((97 : Int) ≤ ((s[j]).toNat : Int)) = true := by simp; omega
          have a2 : decide (((s[j]).toNat : Int) ≤ 122) = true := by simp; omega
          have a3 : decide ((48 : Int) ≤ ((s[j]).toNat : Int)) = true := by simp; omega
          have a4 : decide (((s[j]).toNat : Int) ≤ 57) = false := by simp; omega
          clear HD hn0 hsm hnm hA
          go_wp2_with fail
          go_roundw
          case rel => exact ⟨j + 1, by omega, by simp, HD2, trivial⟩
          case measure => simp only [intOf]; omega
        have hsm : isSmallU s[j] = false := by
          simp only [isSmallU, Bool.and_eq_false_iff, decide_eq_false_iff_not]; omega
        rcases Nat.eq_zero_or_pos j with hz | hz
        · have hRn : R = false := by rw [HD.out.1 hz, hsm]; rfl
          have z1 : ((j : Int) == 0) = true := by simp; omega
          subst hRn
          clear HD hn0 hz
          by_cases hB : (s[j]).toNat < 48
          · skip
            have a1 : decide ((97 : Int) ≤ ((s[j]).toNat : Int)) = false := by simp; omega
            have a3 : decide ((48 : Int) ≤ ((s[j]).toNat : Int)) = false := by simp; omega
            go_wp2_with fail
            go_ret
            exact ⟨rfl, rfl⟩
          by_cases hC : (s[j]).toNat ≤ 57
          · skip
            have a1 : decide ((97 : Int) ≤ ((s[j]).toNat : Int)) = false := by simp; omega
            have a3 : decide ((48 : Int) ≤ ((s[j]).toNat : Int)) = true := by simp; omega
            have a4 : decide (((s[j]).toNat : Int) ≤ 57) = true := by simp; omega
            go_wp2_with fail
            go_ret
            exact ⟨rfl, rfl⟩
          by_cases hD : (s[j]).toNat < 97
          · skip
            have a1 : decide ((97 : Int) ≤ ((s[j]).toNat : Int)) = false := by simp; omega
            have a3 : decide ((48 : Int) ≤ ((s[j]).toNat : Int)) = true := by simp; omega
            have a4 : decide (((s[j]).toNat : Int) ≤ 57) = false := by simp; omega
            go_wp2_with fail
            go_ret
            exact ⟨rfl, rfl⟩
          · skip
            have a1 : decide ((97 : Int) ≤ ((s[j]).toNat : Int)) = true := by simp; omega
            have a2 : decide (((s[j]).toNat : Int) ≤ 122) = false := by simp; omega
            have a3 : decide ((48 : Int) ≤ ((s[j]).toNat : Int)) = true := by simp; omega
            have a4 : decide (((s[j]).toNat : Int) ≤ 57) = false := by simp; omega
            go_wp2_with fail
            go_ret
            exact ⟨rfl, rfl⟩
        · have z1 : ((j : Int) == 0) = false := by simp; omega
          by_cases hB : (s[j]).toNat < 48
          · skip
            have a1 : decide ((97 : Int) ≤ ((s[j]).toNat : Int)) = false := by simp; omega
            have a3 : decide ((48 : Int) ≤ ((s[j]).toNat : Int)) = false := by simp; omega
            have hdg : isDigU s[j] = false := by simp only [isDigU, Bool.and_eq_false_iff, decide_eq_false_iff_not]; omega
            by_cases h45 : s[j] = 45
            · have hnm : isNameC s[j] = true := by rw [isNameC, hsm, hdg, h45]; rfl
              have t3 : (((s[j]).toNat : Int) != 45) = false := by rw [h45]; rfl
              have HD2 : Hid (NmRel R (isSmallU s[0]) s.data.toList (j + 1)) := ⟨fun h => absurd h (by omega), fun _ => by rw [HD.out.2 hz, hnm]; rfl⟩
              clear HD hn0 hdg hnm h45
              go_wp2_with fail
              go_roundw
              case rel => exact ⟨j + 1, by omega, by simp, HD2, trivial⟩
              case measure => simp only [intOf]; omega
            · skip
              have hRn : R = false := by rw [HD.out.2 hz, isNameC, hsm, hdg]; simp [h45]
              have t3 : (((s[j]).toNat : Int) != 45) = true := by
                rw [bne_iff_ne]; intro e
                have e' : (s[j]).toNat = 45 := by omega
                exact h45 (UInt8.toNat.inj (by rw [e']; rfl))
              subst hRn
              clear HD hn0 hdg h45
              go_wp2_with fail
              go_ret
              exact ⟨rfl, rfl⟩
          by_cases hC : (s[j]).toNat ≤ 57
          · skip
            have a1 : decide ((97 : Int) ≤ ((s[j]).toNat : Int)) = false := by simp; omega
            have a3 : decide ((48 : Int) ≤ ((s[j]).toNat : Int)) = true := by simp; omega
            have a4 : decide (((s[j]).toNat : Int) ≤ 57) = true := by simp; omega
            have hdg : isDigU s[j] = true := by simp only [isDigU, Bool.and_eq_true, decide_eq_true_eq]; omega
            have hnm : isNameC s[j] = true := by rw [isNameC, hsm, hdg]; rfl
            have HD2 : Hid (NmRel R (isSmallU s[0]) s.data.toList (j + 1)) := ⟨fun h => absurd h (by omega), fun _ => by rw [HD.out.2 hz, hnm]; rfl⟩
            clear HD hn0 hdg hnm
            go_wp2_with fail
            go_roundw
            case rel => exact ⟨j + 1, by omega, by simp, HD2, trivial⟩
            case measure => simp only [intOf]; omega
          by_cases hD : (s[j]).toNat < 97
          · skip
            have a1 : decide ((97 : Int) ≤ ((s[j]).toNat : Int)) = false := by simp; omega
            have a3 : decide ((48 : Int) ≤ ((s[j]).toNat : Int)) = true := by simp; omega
            have a4 : decide (((s[j]).toNat : Int) ≤ 57) = false := by simp; omega
            have hdg : isDigU s[j] = false := by simp only [isDigU, Bool.and_eq_false_iff, decide_eq_false_iff_not]; omega
            have h45 : ¬ s[j] = 45 := fun h => by have := congrArg UInt8.toNat h; simp at this; omega
            have hRn : R = false := by rw [HD.out.2 hz, isNameC, hsm, hdg]; simp [h45]
            have t3 : (((s[j]).toNat : Int) != 45) = true := by
              rw [bne_iff_ne]; intro e
              have e' : (s[j]).toNat = 45 := by omega
              exact h45 (UInt8.toNat.inj (by rw [e']; rfl))
            subst hRn
            clear HD hn0 hdg h45
            go_wp2_with fail
            go_ret
            exact ⟨rfl, rfl⟩
          · skip
            have a1 : decide ((97 : Int) ≤ ((s[j]).toNat : Int)) = true := by simp; omega
            have a2 : decide (((s[j]).toNat : Int) ≤ 122) = false := by simp; omega
            have a3 : decide ((48 : Int) ≤ ((s[j]).toNat : Int)) = true := by simp; omega
            have a4 : decide (((s[j]).toNat : Int) ≤ 57) = false := by simp; omega
            have hdg : isDigU s[j] = false := by simp only [isDigU, Bool.and_eq_false_iff, decide_eq_false_iff_not]; omega
            have h45 : ¬ s[j] = 45 := fun h => by have := congrArg UInt8.toNat h; simp at this; omega
            have hRn : R = false := by rw [HD.out.2 hz, isNameC, hsm, hdg]; simp [h45]
            have t3 : (((s[j]).toNat : Int) != 45) = true := by
              rw [bne_iff_ne]; intro e
              have e' : (s[j]).toNat = 45 := by omega
              exact h45 (UInt8.toNat.inj (by rw [e']; rfl))
            subst hRn
            clear HD hn0 hdg h45
            go_wp2_with fail
            go_ret
            exact ⟨rfl, rfl⟩
      · have hRn : R = true := by rw [HS.out.2 (by omega), List.drop_of_length_le (by omega)]; rfl
        clear HS
        subst hRn
        go_wp2_with fail
        go_ret
        exact ⟨rfl, rfl⟩
  · have t1 : decide ((16 : Int) < (s.size : Int)) = true := by simp; omega
    have hR : (decide (s.size ≤ 16) && isSmallU s[0] && s.data.toList.all isNameC) = false := by simp [h16]
    rw [hR]
    clear hR
    go_enter Tryz.func148, Tryz.ntmps148
    go_wp2
    go_ret
    exact ⟨rfl, rfl⟩

end Go.Proofs.YtkjoomdglealmaaGreatDoor

namespace Go.Vf

end Go.Vf

namespace Go.Proofs.YtkjoomdglealmaaGreatDoor
open Go.RowKit Go.Vf

end Go.Proofs.YtkjoomdglealmaaGreatDoor

namespace Go.Proofs.YtkjoomdglealmaaGreatDoor
open Go.RowKit Go.Vf

end Go.Proofs.YtkjoomdglealmaaGreatDoor

namespace Go.Proofs.YtkjoomdglealmaaGreatDoor
open Go.RowKit Go.Vf

end Go.Proofs.YtkjoomdglealmaaGreatDoor

namespace Go.Proofs.YtkjoomdglealmaaGreatDoor
open Go.RowKit Go.Vf

end Go.Proofs.YtkjoomdglealmaaGreatDoor

namespace Go.Proofs.YtkjoomdglealmaaGreatDoor
open Go.RowKit Go.Vf

end Go.Proofs.YtkjoomdglealmaaGreatDoor

namespace Go.Proofs.YtkjoomdglealmaaGreatDoor
open Go.RowKit Go.Vf

def hval (l : List UInt8) : Nat := lval l.reverse
end Go.Proofs.YtkjoomdglealmaaGreatDoor

namespace Go.Proofs.YtkjoomdglealmaaGreatDoor
open Go.RowKit Go.Vf

theorem sgn_eq {a b : Int} : sgn a b = 0 ↔ a = b := by unfold sgn; split <;> (try split) <;> omega
theorem sgn_lt {a b : Int} (h : a < b) : sgn a b = -1 := by unfold sgn; rw [if_pos h]
theorem sgn_gt {a b : Int} (h : b < a) : sgn a b = 1 := by unfold sgn; rw [if_neg (by omega), if_pos h]

end Go.Proofs.YtkjoomdglealmaaGreatDoor

namespace Go.Proofs.YtkjoomdglealmaaGreatDoor
open Go.RowKit Go.Vf

theorem sgn_neg (a b : Int) : sgn b a = - sgn a b := by unfold sgn; repeat' split <;> omega
theorem magC_neg (a b : List UInt8) : magC b a = - magC a b := by
  unfold magC
  have := sgn_neg a.length b.length
  by_cases h : sgn (a.length : Int) (b.length : Int) = 0
  · rw [if_pos h, if_pos (by omega), cmpL_neg]
  · rw [if_neg h, if_neg (by omega), this]
theorem magC_zero {a b : List UInt8} : magC a b = 0 ↔ a = b := by
  unfold magC
  constructor
  · intro h
    split at h
    · exact cmpL_eq.1 h
    · exact absurd h ‹_›
  · rintro rfl
    rw [if_pos (sgn_eq.2 rfl), cmpL_same]
theorem cmpN_neg (p : Bool) (a : List UInt8) (q : Bool) (b : List UInt8) : cmpN q b p a = - cmpN p a q b := by
  unfold cmpN
  have := magC_neg a b
  cases p <;> cases q <;> simp <;> omega
theorem cmpN_zero {p : Bool} {a : List UInt8} {q : Bool} {b : List UInt8} : cmpN p a q b = 0 ↔ p = q ∧ a = b := by
  unfold cmpN
  cases p <;> cases q
  · show magC a b = 0 ↔ _
    simp [magC_zero]
  · simp
  · simp
  · show magC b a = 0 ↔ _
    rw [magC_zero]
    exact ⟨fun h => ⟨rfl, h.symm⟩, fun h => h.2.symm⟩

end Go.Proofs.YtkjoomdglealmaaGreatDoor

namespace Go.Proofs.YtkjoomdglealmaaGreatDoor
open Go.RowKit Go.Vf

set_option maxHeartbeats 400000 in
theorem rcheck_any (b : Bool) (m : ByteArray) (hm : m.size ≤ 17179869184) (w : World) :
    Calls Tryz.prog 65 #[numV b m] w fun e w' => e = .returned (.int .i64 (chk b m.data.toList)) ∧ Below w.heap.size w w' := by
  have hl : m.data.toList.length = m.size := (Lib.size_eq m).symm
  have hbel := (Below.refl w.heap.size w).alloc (Nat.le_refl _) (.cells #[.bool b, .string m] 27)
  by_cases h1 : 255 < m.size
  · have hR : chk b m.data.toList = 21 := by simp [chk, hl, h1]
    rw [hR]
    go_enter Tryz.func65, Tryz.ntmps65
    go_wp2
    go_ret
    exact ⟨rfl, hbel⟩
  · by_cases h2 : m.size = 0
    · have hn : m.data.toList = [] := List.eq_nil_of_length_eq_zero (by omega)
      have he : m.toList.isEmpty = true := by rw [ByteArray.toList_eq, hn]; rfl
      rw [hn]
      clear hn hl
      cases b
      all_goals
        go_enter Tryz.func65, Tryz.ntmps65
        go_wp2
        go_ret
        exact ⟨rfl, hbel⟩
    · have he : m.toList.isEmpty = false := by
        rw [ByteArray.toList_eq]
        cases h : m.data.toList with
        | nil => rw [h] at hl; exact absurd hl.symm h2
        | cons x r => rfl
      have h0 : 0 < m.size := by omega
      obtain ⟨r, hd⟩ : ∃ r, m.data.toList = m[0] :: r := ⟨_, (List.drop_zero (l := m.data.toList)).symm.trans (drop_at m 0 h0)⟩
      by_cases h3 : m[0] = 0
      · have hR : chk b m.data.toList = 20 := by
          have h4 : ¬ 255 < m.data.toList.length := by omega
          rw [hd] at h4 ⊢
          simp only [chk, h4, if_false]
          simp [h3]
        have hx : (m[0].toNat : Int) = 0 := by rw [h3]; rfl
        rw [hR]
        clear hR h3 hd
        go_enter Tryz.func65, Tryz.ntmps65
        go_wp2
        go_ret
        exact ⟨rfl, hbel⟩
      · have hR : chk b m.data.toList = 0 := by
          have h4 : ¬ 255 < m.data.toList.length := by omega
          rw [hd] at h4 ⊢
          simp only [chk, h4, if_false]
          simp [h3]
        have hx : ¬ (m[0].toNat : Int) = 0 := fun h => h3 (UInt8.toNat_inj.1 (by simpa using h))
        rw [hR]
        clear hR h3 hd
        go_enter Tryz.func65, Tryz.ntmps65
        go_wp2
        go_ret
        exact ⟨rfl, hbel⟩

theorem sgn_rng (a b : Int) : -1 ≤ sgn a b ∧ sgn a b ≤ 1 := by unfold sgn; repeat' split <;> omega
theorem magC_rng (a b : List UInt8) : -1 ≤ magC a b ∧ magC a b ≤ 1 := by
  unfold magC
  split
  · rcases cmpL_three a b with h | h | h <;> omega
  · exact sgn_rng _ _

set_option maxHeartbeats 1000000 in
theorem rmag_any (a b : ByteArray) (w : World) (_ha : a.size ≤ 17179869184) (hb : b.size ≤ 17179869184) :
    Calls Tryz.prog 150 #[.string a, .string b] w fun e w' => e = .returned (.int .i64 (magC a.data.toList b.data.toList)) ∧ Below w.heap.size w w' := by
  have hal : a.data.toList.length = a.size := (Lib.size_eq a).symm
  have hbl : b.data.toList.length = b.size := (Lib.size_eq b).symm
  by_cases h1 : a.size < b.size
  · have hR : magC a.data.toList b.data.toList = -1 := by
      unfold magC
      rw [hal, hbl, if_neg (by rw [sgn_eq]; omega), sgn_lt (by omega)]
    rw [hR]
    go_enter Tryz.func150, Tryz.ntmps150
    go_wp2
    go_ret
    exact ⟨rfl, Below.refl _ _⟩
  by_cases h2 : b.size < a.size
  · have hR : magC a.data.toList b.data.toList = 1 := by
      unfold magC
      rw [hal, hbl, if_neg (by rw [sgn_eq]; omega), sgn_gt (by omega)]
    rw [hR]
    go_enter Tryz.func150, Tryz.ntmps150
    go_wp2
    go_ret
    exact ⟨rfl, Below.refl _ _⟩
  have hR : magC a.data.toList b.data.toList = cmpL a.data.toList b.data.toList := by
    unfold magC
    rw [hal, hbl, if_pos (by rw [sgn_eq]; omega)]
  rw [hR]
  generalize hC : cmpL a.data.toList b.data.toList = R
  have HC : Hid (cmpL a.data.toList b.data.toList = R) := hC
  clear hR hC
  go_enter Tryz.func150, Tryz.ntmps150
  go_wp2
  go_loopw [5] (fun i wr => ∃ k : Nat, k ≤ a.size ∧ i = .int .i64 k ∧ Hid (cmpL (a.data.toList.drop k) (b.data.toList.drop k) = R) ∧ Below w.heap.size w wr) (fun i _ => a.size - (intOf i).toNat)
  case atStart => exact ⟨0, Nat.zero_le _, rfl, by simpa using HC, Below.refl _ _⟩
  case round =>
    obtain ⟨k, hk, rfl, HK, hbel⟩ := hrel
    by_cases hlt : k < a.size
    · have hlt2 : k < b.size := by omega
      have hc := HK.out
      rw [drop_at a k hlt, drop_at b k hlt2, cmpL] at hc
      simp only [UInt8.lt_iff_toNat_lt] at hc
      by_cases hx : a[k].toNat < b[k].toNat
      · rw [if_pos hx] at hc
        subst hc
        clear HK HC
        go_wp2
        go_region
        go_wp2
        go_ret
        exact ⟨rfl, hbel.drew⟩
      · rw [if_neg hx] at hc
        by_cases hy : b[k].toNat < a[k].toNat
        · rw [if_pos hy] at hc
          subst hc
          clear HK HC
          go_wp2
          go_region
          go_wp2
          go_region
          go_wp2
          go_ret
          exact ⟨rfl, hbel.drew.drew⟩
        · rw [if_neg hy] at hc
          have HK2 : Hid (cmpL (a.data.toList.drop (k + 1)) (b.data.toList.drop (k + 1)) = R) := hc
          clear HK HC hc
          go_wp2
          go_region
          go_wp2
          go_region
          go_wp2
          go_roundw
          case rel => exact ⟨k + 1, by omega, by go_num, HK2, hbel.drew.drew⟩
          case measure => simp [intOf]; omega
    · have hc := HK.out
      rw [List.drop_of_length_le (by omega), List.drop_of_length_le (by omega)] at hc
      subst hc
      clear HK HC
      go_wp2
      go_ret
      exact ⟨rfl, hbel⟩

set_option maxHeartbeats 1000000 in
theorem rless_any (ba : Bool) (a : ByteArray) (bb : Bool) (b : ByteArray) (ha : a.size ≤ 17179869184) (hb : b.size ≤ 17179869184) (w : World) :
    Calls Tryz.prog 112 #[numV ba a, numV bb b] w fun e w' => e = .returned (.int .i64 (cmpN ba a.data.toList bb b.data.toList)) ∧ Below w.heap.size w w' := by
  have hW := ((Below.refl w.heap.size w).alloc (Nat.le_refl _) (.cells #[.bool ba, .string a] 27)).alloc (by simp) (.cells #[.bool bb, .string b] 27)
  have hr := magC_rng a.data.toList b.data.toList
  cases ba <;> cases bb
  · go_enter Tryz.func112, Tryz.ntmps112
    go_wp2_with fail
    refine (rmag_any a b _ ha hb).mono ?_
    rintro e w1 ⟨rfl, hb1⟩
    obtain ⟨p0, p1, p2⟩ := box_num hb1 (h := w.heap.size) (v0 := .bool false) (v1 := .string a) ⟨by simp [go_sem], by simp [go_sem], by simp; omega⟩
    go_wp2
    go_ret
    exact ⟨rfl, hW.trans (hb1.mono hW.size)⟩
  · go_enter Tryz.func112, Tryz.ntmps112
    go_wp2
    go_ret
    exact ⟨rfl, hW⟩
  · go_enter Tryz.func112, Tryz.ntmps112
    go_wp2
    go_ret
    exact ⟨rfl, hW⟩
  · have hR : cmpN true a.data.toList true b.data.toList = - magC a.data.toList b.data.toList := magC_neg _ _
    rw [hR]
    clear hR
    go_enter Tryz.func112, Tryz.ntmps112
    go_wp2_with fail
    refine (rmag_any a b _ ha hb).mono ?_
    rintro e w1 ⟨rfl, hb1⟩
    obtain ⟨p0, p1, p2⟩ := box_num hb1 (h := w.heap.size) (v0 := .bool true) (v1 := .string a) ⟨by simp [go_sem], by simp [go_sem], by simp; omega⟩
    go_wp2
    go_ret
    exact ⟨rfl, hW.trans (hb1.mono hW.size)⟩

set_option maxHeartbeats 1000000 in
theorem rcompare_any (ba : Bool) (a : ByteArray) (bb : Bool) (b : ByteArray) (ha : a.size ≤ 17179869184) (hb : b.size ≤ 17179869184) (w : World) :
    Calls Tryz.prog 76 #[numV ba a, numV bb b] w fun e w' => e = compE ba a.data.toList bb b.data.toList ∧ Below w.heap.size w w' := by
  have hW := ((Below.refl w.heap.size w).alloc (Nat.le_refl _) (.cells #[.bool ba, .string a] 27)).alloc (by simp) (.cells #[.bool bb, .string b] 27)
  by_cases h1 : chk ba a.data.toList = 0
  · by_cases h2 : chk bb b.data.toList = 0
    · have hR : compE ba a.data.toList bb b.data.toList = .returned (.tuple #[.int .i64 (cmpN ba a.data.toList bb b.data.toList), .int .i64 0]) := by simp [compE, h1, h2]
      rw [hR]
      clear hR
      go_enter Tryz.func76, Tryz.ntmps76
      go_wp2_with fail
      refine (rcheck_any ba a ha _).mono ?_
      rintro e w1 ⟨rfl, hb1⟩
      rw [h1]
      clear h1
      obtain ⟨p0, p1, p2⟩ := box_num hb1 (h := w.heap.size) (v0 := .bool ba) (v1 := .string a) ⟨by simp [go_sem], by simp [go_sem], by simp; omega⟩
      obtain ⟨q0, q1, q2⟩ := box_num hb1 (h := w.heap.size + 1) (v0 := .bool bb) (v1 := .string b) ⟨by simp [go_sem], by simp [go_sem], by simp⟩
      replace hW := hW.trans (hb1.mono hW.size)
      clear hb1
      go_wp2_with fail
      refine (rcheck_any bb b hb _).mono ?_
      rintro e w2 ⟨rfl, hb2⟩
      rw [h2]
      clear h2
      replace hW := hW.trans (hb2.mono hW.size)
      obtain ⟨p0, p1, p2⟩ := box_num hb2 (h := w.heap.size) (v0 := .bool ba) (v1 := .string a) ⟨p0, p1, p2⟩
      obtain ⟨q0, q1, q2⟩ := box_num hb2 (h := w.heap.size + 1) (v0 := .bool bb) (v1 := .string b) ⟨q0, q1, q2⟩
      clear hb2
      go_wp2_with fail
      refine (rless_any ba a bb b ha hb _).mono ?_
      rintro e w3 ⟨rfl, hb3⟩
      go_wp2
      go_ret2
      exact ⟨rfl, hW.trans (hb3.mono hW.size)⟩
    · have hR : compE ba a.data.toList bb b.data.toList = .returned (.tuple #[.int .i64 0, .int .i64 (chk bb b.data.toList)]) := by simp [compE, h1, h2]
      rw [hR]
      clear hR
      generalize hcc : chk bb b.data.toList = c at h2 ⊢
      go_enter Tryz.func76, Tryz.ntmps76
      go_wp2_with fail
      refine (rcheck_any ba a ha _).mono ?_
      rintro e w1 ⟨rfl, hb1⟩
      rw [h1]
      clear h1
      obtain ⟨q0, q1, q2⟩ := box_num hb1 (h := w.heap.size + 1) (v0 := .bool bb) (v1 := .string b) ⟨by simp [go_sem], by simp [go_sem], by simp⟩
      replace hW := hW.trans (hb1.mono hW.size)
      clear hb1
      go_wp2_with fail
      refine (rcheck_any bb b hb _).mono ?_
      rintro e w2 ⟨rfl, hb2⟩
      rw [hcc]
      go_wp2
      go_ret2
      exact ⟨rfl, hW.trans (hb2.mono hW.size)⟩
  · have hR : compE ba a.data.toList bb b.data.toList = .returned (.tuple #[.int .i64 0, .int .i64 (chk ba a.data.toList)]) := by simp [compE, h1]
    rw [hR]
    clear hR
    generalize hcc : chk ba a.data.toList = c at h1 ⊢
    go_enter Tryz.func76, Tryz.ntmps76
    go_wp2_with fail
    refine (rcheck_any ba a ha _).mono ?_
    rintro e w1 ⟨rfl, hb1⟩
    rw [hcc]
    go_wp2
    go_ret2
    exact ⟨rfl, hW.trans (hb1.mono hW.size)⟩
end Go.Proofs.YtkjoomdglealmaaGreatDoor

namespace Go.Proofs.YtkjoomdglealmaaGreatDoor
open Go.RowKit Go.Vf

theorem maySayO_eq (q : Bool) (name : ByteArray) (kind : Int) (down : Bool) (nulls : Int) (bnd ln : Bool) (lm : ByteArray) (hn : Bool) (hm : ByteArray) (most str : Int) (shf bck : Bool) (n : Nat) {z1 z2 z3 z4 z5 : Bool} (h1 : (!ln && lm.size == 0) = z1) (h2 : (!hn && hm.size == 0) = z2) (h3 : (most == 0) = z3) (h4 : (str == 0 && !shf && !bck) = z4) (h5 : (n == 0) = z5) :
    maySayO q ⟨name, kind, down, nulls, bnd, ln, lm, hn, hm, most, str, shf, bck⟩ n = (decide (1 ≤ kind) && decide (kind ≤ 7) && decide (nulls ≤ 2) && (if kind = 2 then (if bnd then q else (z1 && z2)) else !bnd && (z1 && z2)) && (if kind = 3 ∨ kind = 5 then decide (0 ≤ most) && decide (most ≤ 65536) else z3) && (if kind = 6 then decide (1 ≤ str) && decide (str ≤ 4) && (decide (str < 4) || shf) else z4) && (kind == 7 || z5)) := by
  subst h1 h2 h3 h4 h5
  simp only [maySayO, Bool.and_assoc]

end Go.Proofs.YtkjoomdglealmaaGreatDoor

namespace Go.Proofs.YtkjoomdglealmaaGreatDoor
open Go.RowKit Go.Vf

set_option maxHeartbeats 8000000 in
set_option maxRecDepth 20000 in
theorem odd_1 (name : ByteArray) (down : Bool) (nulls : Int) (bnd ln : Bool) (lm : ByteArray) (hn : Bool) (hm : ByteArray) (most str : Int) (shf bck : Bool) (a : Option Addr) (n c : Nat) (hnn : n ≤ 281474976710656) (_hl : lm.size ≤ 17179869184) (_hh : hm.size ≤ 17179869184) (hnu : nulls ≤ 2) (w : World) :
    Calls Tryz.prog 149 #[fV ⟨name, 1, down, nulls, bnd, ln, lm, hn, hm, most, str, shf, bck⟩ a n c] w fun e w' => e = .returned (.bool (!maySayO (bndQ ⟨name, 1, down, nulls, bnd, ln, lm, hn, hm, most, str, shf, bck⟩) ⟨name, 1, down, nulls, bnd, ln, lm, hn, hm, most, str, shf, bck⟩ n)) ∧ Below w.heap.size w w' := by
  obtain ⟨z1, hz1⟩ : ∃ z, (!ln && lm.size == 0) = z := ⟨_, rfl⟩
  obtain ⟨z2, hz2⟩ : ∃ z, (!hn && hm.size == 0) = z := ⟨_, rfl⟩
  obtain ⟨z3, hz3⟩ : ∃ z, (most == 0) = z := ⟨_, rfl⟩
  obtain ⟨z4, hz4⟩ : ∃ z, (str == 0 && !shf && !bck) = z := ⟨_, rfl⟩
  obtain ⟨z5, hz5⟩ : ∃ z, (n == 0) = z := ⟨_, rfl⟩
  have he1 := num0 ln lm z1 hz1
  have he2 := num0 hn hm z2 hz2
  have he4 := col_eq str shf bck
  rw [hz4] at he4
  have he3 : (most != 0) = !z3 := by rw [← hz3]; rfl
  have he5 : decide ((0 : Int) < (n : Int)) = !z5 := by rw [← hz5]; cases n <;> simp <;> omega
  have he5' : decide (0 < n) = !z5 := by rw [← hz5]; cases n <;> simp
  have t3 : decide ((2 : Int) < nulls) = false := by simp; omega
  have hM := maySayO_eq (bndQ ⟨name, 1, down, nulls, bnd, ln, lm, hn, hm, most, str, shf, bck⟩) name 1 down nulls bnd ln lm hn hm most str shf bck n hz1 hz2 hz3 hz4 hz5
  rw [decide_eq_true hnu] at hM
  obtain ⟨R, hR⟩ : ∃ R, (!maySayO (bndQ ⟨name, 1, down, nulls, bnd, ln, lm, hn, hm, most, str, shf, bck⟩) ⟨name, 1, down, nulls, bnd, ln, lm, hn, hm, most, str, shf, bck⟩ n) = R := ⟨_, rfl⟩
  rw [hR]
  rw [hM] at hR
  have hb1 := (Below.refl w.heap.size w).alloc (Nat.le_refl _) (.cells #[.string name, .int .u8 1, .bool down, .int .u8 nulls, .bool bnd, .bool ln, .string lm, .bool hn, .string hm, .int .i64 most, .int .i64 str, .bool shf, .bool bck, .slice a n c] 57)
  have hb2 := hb1.alloc hb1.size (.cells #[.bool false, .string ⟨#[]⟩] 27)
  have hb3 := hb2.alloc hb2.size (.cells #[.int .i64 0, .bool false, .bool false] 55)
  clear hM hz1 hz2 hz4 hz5
  unfold fV
  dsimp only
  cases bnd with
  | true =>
    have hRn : R = true := by rw [← hR]; simp
    subst hRn
    clear hR
    go_enter Tryz.func149, Tryz.ntmps149
    go_wp2_with fail
    go_ret
    first | exact ⟨rfl, hb3⟩ | exact ⟨rfl, hb2⟩ | exact ⟨rfl, hb1⟩
  | false =>
    cases z1 with
    | false =>
      have hRn : R = true := by rw [← hR]; simp
      subst hRn
      clear hR
      go_enter Tryz.func149, Tryz.ntmps149
      go_wp2_with fail
      go_ret
      first | exact ⟨rfl, hb3⟩ | exact ⟨rfl, hb2⟩ | exact ⟨rfl, hb1⟩
    | true =>
      cases z2 with
      | false =>
        have hRn : R = true := by rw [← hR]; simp
        subst hRn
        clear hR
        go_enter Tryz.func149, Tryz.ntmps149
        go_wp2_with fail
        go_ret
        first | exact ⟨rfl, hb3⟩ | exact ⟨rfl, hb2⟩ | exact ⟨rfl, hb1⟩
      | true =>
        cases z3 with
        | false =>
          have hRn : R = true := by rw [← hR]; simp
          subst hRn
          clear hR
          go_enter Tryz.func149, Tryz.ntmps149
          go_wp2_with fail
          go_ret
          first | exact ⟨rfl, hb3⟩ | exact ⟨rfl, hb2⟩ | exact ⟨rfl, hb1⟩
        | true =>
          cases z4 with
          | false =>
            have hRn : R = true := by rw [← hR]; simp
            subst hRn
            clear hR
            go_enter Tryz.func149, Tryz.ntmps149
            go_wp2_with fail
            go_ret
            first | exact ⟨rfl, hb3⟩ | exact ⟨rfl, hb2⟩ | exact ⟨rfl, hb1⟩
          | true =>
            cases z5 with
            | false =>
              have hRn : R = true := by rw [← hR]; simp
              subst hRn
              clear hR
              go_enter Tryz.func149, Tryz.ntmps149
              go_wp2_with fail
              go_ret
              first | exact ⟨rfl, hb3⟩ | exact ⟨rfl, hb2⟩ | exact ⟨rfl, hb1⟩
            | true =>
              obtain rfl : most = 0 := by simpa using hz3
              have hRn : R = false := by rw [← hR]; simp
              subst hRn
              clear hR
              go_enter Tryz.func149, Tryz.ntmps149
              go_wp2_with fail
              go_ret
              first | exact ⟨rfl, hb3⟩ | exact ⟨rfl, hb2⟩ | exact ⟨rfl, hb1⟩

end Go.Proofs.YtkjoomdglealmaaGreatDoor
