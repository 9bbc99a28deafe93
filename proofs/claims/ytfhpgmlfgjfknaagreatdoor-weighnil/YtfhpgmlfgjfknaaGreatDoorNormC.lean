/- What package normal's rowEnd and the function that it sorts by do (contracts; nothing is claimed here). -/
import Derived.Test.YtfhpgmlfgjfknaaGreatDoorNormD
import Derived.Test.YtfhpgmlfgjfknaaGreatDoorJ7
namespace Go.Proofs.YtfhpgmlfgjfknaaGreatDoor
open Go.RowKit Go.Vf Go.Maps

theorem isNaN_any (x : Int) (w : World) : Calls Tryz.prog 74 #[.int .i64 x] w fun e w' => e = .returned (.bool false) ∧ w' = w := by
  go_enter Tryz.func74, Tryz.ntmps74
  go_wp2
  go_ret
  exact ⟨rfl, rfl⟩
theorem compare_any (key : Int → Int) (x y : Int) (w : World) : Calls Tryz.prog 42 #[.int .i64 (key x), .int .i64 (key y)] w fun e w' => e = .returned (.int .i64 (cmpK key x y)) ∧ w' = w := by
  generalize hc : cmpK key x y = c
  have HC : Hid (cmpK key x y = c) := hc
  clear hc
  go_enter Tryz.func42, Tryz.ntmps42
  go_wp2_with fail
  refine (isNaN_any (key x) w).mono ?_
  rintro e w1 ⟨rfl, rfl⟩
  go_wp2_with fail
  refine (isNaN_any (key y) w1).mono ?_
  rintro e w2 ⟨rfl, rfl⟩
  by_cases h1 : key x < key y
  · have E : Hid (c = -1) := by show _ = _; rw [← HC.out]; unfold cmpK; rw [if_pos h1]
    go_wp2
    go_ret
    rw [E.out]
    exact ⟨rfl, rfl⟩
  · by_cases h2 : key y < key x
    · have E : Hid (c = 1) := by show _ = _; rw [← HC.out]; unfold cmpK; rw [if_neg h1, if_pos h2]
      go_wp2
      go_ret
      rw [E.out]
      exact ⟨rfl, rfl⟩
    · have E : Hid (c = 0) := by show _ = _; rw [← HC.out]; unfold cmpK; rw [if_neg h1, if_neg h2]
      go_wp2
      go_ret
      rw [E.out]
      exact ⟨rfl, rfl⟩
theorem below_drewQ (w : World) (q : Nat) : Below w.heap.size w (w.drewN q) := ⟨rfl, rfl, rfl, Nat.le_refl _, fun _ _ => rfl⟩

set_option maxHeartbeats 8000000 in
set_option maxRecDepth 20000 in
theorem byClass_any (bx bd : Nat) (L : List Mk) (E : Int → List Int) (x y : Int) (w : World) (hx : InI x) (hy : InI y) (hb : w.cell? ⟨bx, 0, none⟩ = some (.pointer (some ⟨bd, 0, none⟩))) (hd : DataAt w bd L E) :
    Calls Tryz.prog 41 #[.int .i64 x, .int .i64 y, .pointer (some ⟨bx, 0, none⟩)] w fun e w' => e = .returned (.int .i64 (cmpK (classAt L) x y)) ∧ ∃ q, w' = w.drewN q := by
  have hb' : ∀ q, (w.drewN q).cell? ⟨bx, 0, none⟩ = some (.pointer (some ⟨bd, 0, none⟩)) := fun q => hb
  have h1 : ∀ p q, InI p → Calls Tryz.prog 43 #[.pointer (some ⟨bd, 0, none⟩), .int .i64 p] (w.drewN q) fun e w' => e = .returned (.int .i64 (classAt L p)) ∧ w' = w.drewN q := fun p q hp => (class_any bd L E p _ hp (hd.below (below_drewQ w q))).mono fun e w' h => ⟨h.1, h.2.symm⟩
  have h3 : ∀ q, Calls Tryz.prog 42 #[.int .i64 (classAt L x), .int .i64 (classAt L y)] (w.drewN q) fun e w' => e = .returned (.int .i64 (cmpK (classAt L) x y)) ∧ w' = w.drewN q := fun q => compare_any (classAt L) x y _
  generalize cmpK (classAt L) x y = c at h3 ⊢
  generalize classAt L = K at h1 h3
  clear hd hb
  go_enter Tryz.func41, Tryz.ntmps41
  go_wp2_with fail
  go_quiet (first | (go_at_call 43; exact Calls.quiet_of_same (h1 _ _ (by assumption))) | (go_at_call 42; exact Calls.quiet_of_same (h3 _)))
  go_wp2
  go_ret
  exact ⟨rfl, _, rfl⟩

/-- Where a row of neighbours ends of which none is a starter. -/
structure RowEnds (cls : Int → Int) (X : List Int) (at0 en : Nat) : Prop where
  le : at0 ≤ en
  top : en ≤ X.length
  none : ∀ i, at0 ≤ i → i < en → cls (X.getD i 0) ≠ 0
  stop : en < X.length → cls (X.getD en 0) = 0

set_option maxHeartbeats 4000000 in
set_option maxRecDepth 20000 in
theorem rowEnd_any (bd : Nat) (L : List Mk) (E : Int → List Int) (a : Option Addr) (kp cap at0 n₀ : Nat) (X : List Int) (w : World) (hX : ∀ q ∈ X, InI q) (hd : DataAt w bd L E) (hin : Ints n₀ w (.slice a kp cap) X) (hkp : kp = X.length) (hkl : kp ≤ 68719476736) (hat : at0 ≤ kp) :
    Calls Tryz.prog 44 #[.pointer (some ⟨bd, 0, none⟩), .slice a kp cap, .int .i64 at0] w fun e w' => ∃ en : Nat, e = .returned (.int .i64 en) ∧ RowEnds (classAt L) X at0 en ∧ w = w' := by
  have HKP : Hid (kp = X.length) := hkp
  have HI : Aside (Ints n₀ w (.slice a kp cap) X) := hin
  have hX' : Aside _ := hX
  have hd' : Aside _ := hd
  clear hkp hin hX hd
  go_enter Tryz.func44, Tryz.ntmps44
  go_wp2_with fail
  go_loopw [2] (fun i wr => ∃ (k : Nat), k ≤ kp ∧ i = .int .i64 k ∧ at0 ≤ k ∧ Hid (∀ i, at0 ≤ i → i < k → classAt L (X.getD i 0) ≠ 0) ∧ wr = w) (fun i _ => kp - (intOf i).toNat)
  case atStart => exact ⟨at0, hat, rfl, Nat.le_refl _, fun i h1 h2 => absurd h2 (by omega), rfl⟩
  case round =>
    obtain ⟨k, hk, rfl, hak, HK, rfl⟩ := hrel
    by_cases hlt : k < kp
    · have hltz : (k : Int) < (kp : Int) := by omega
      have hltp : k < X.length := by rw [← HKP.out]; exact hlt
      obtain ⟨bp, op, hao, hnk, hblt, hcell⟩ := HI.out.cell (fun e => by rw [e] at hltp; simp at hltp)
      have hcj := hcell k hltp
      have hg : X[k]?.getD 0 = X.getD k 0 := (List.getD_eq_getElem?_getD ..).symm
      rw [hg] at hcj
      have hqI := hX'.out _ (getD_mem hltp)
      have hS : ∀ c, c = classAt L (X.getD k 0) → c = 0 → RowEnds (classAt L) X at0 k := fun c e e0 => ⟨hak, by omega, HK.out, fun _ => by rw [← e, e0]⟩
      have hN : ∀ c, c = classAt L (X.getD k 0) → c ≠ 0 → Hid (∀ i, at0 ≤ i → i < k + 1 → classAt L (X.getD i 0) ≠ 0) := fun c e e0 i h1 h2 => by
        rcases Nat.lt_or_ge i k with h | h
        · exact HK.out i h1 h
        · obtain rfl : i = k := by omega
          rw [← e]; exact e0
      have hc := class_any bd L E (X.getD k 0) wr hqI hd'.out
      generalize X.getD k 0 = q at hcj hqI hS hN hc
      generalize classAt L q = c at hS hN hc
      have hS := hS c rfl
      have hN := hN c rfl
      have HS : Aside _ := hS
      have HN : Aside _ := hN
      subst hao
      clear hcell hnk hltp hg HK hS hN
      by_cases hc0 : c = 0
      · have hfin := HS.out hc0
        subst hc0
        go_wp2_with fail
        refine hc.mono ?_
        rintro e w1 ⟨rfl, rfl⟩
        go_wp2
        go_ret
        exact ⟨k, rfl, hfin, rfl⟩
      · have hfin := HN.out hc0
        have hc0' : (c == 0) = false := by simpa using hc0
        go_wp2_with fail
        refine hc.mono ?_
        rintro e w1 ⟨rfl, rfl⟩
        go_wp2
        go_roundw
        case rel => exact ⟨k + 1, by omega, by simp, by omega, hfin, trivial⟩
        case measure => simp only [intOf]; omega
    · have hltz : ¬ (k : Int) < (kp : Int) := by omega
      have hfin : RowEnds (classAt L) X at0 k := ⟨hak, by rw [← HKP.out]; omega, HK.out, fun h => absurd h (by rw [← HKP.out]; omega)⟩
      clear HK
      go_wp2
      go_ret
      exact ⟨k, rfl, hfin, rfl⟩
end Go.Proofs.YtfhpgmlfgjfknaaGreatDoor
