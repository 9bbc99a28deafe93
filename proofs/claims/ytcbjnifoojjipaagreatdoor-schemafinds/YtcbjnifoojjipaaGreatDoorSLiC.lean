/- What schema's takeCount does (contracts; nothing is claimed here). -/
import Derived.Test.YtcbjnifoojjipaaGreatDoorSLin
import Derived.Test.YtcbjnifoojjipaaGreatDoorJ8
import Derived.Test.YtcbjnifoojjipaaGreatDoorSTof
namespace Go.Proofs.YtcbjnifoojjipaaGreatDoor
open Go.RowKit Go.Vf
def cntV : List UInt8 → Int → Int
  | [], a => a
  | x :: r, a => cntV r (a * 10 + ((x.toNat : Int) - 48))
def cntL (x : List UInt8) : Option Int := if x.length ≤ 7 ∧ (x = [48] ∨ x.head? ≠ some 48) ∧ x.all isDigU = true then some (cntV x 0) else none
theorem cntV_drop (l : List UInt8) (a : Int) {j : Nat} (hj : j < l.length) : cntV (l.drop j) a = cntV (l.drop (j + 1)) (a * 10 + ((l[j].toNat : Int) - 48)) := by
  rw [List.drop_eq_getElem_cons hj, cntV]
set_option maxHeartbeats 4000000 in
set_option maxRecDepth 20000 in
theorem takeCount_any (B : Nat) (num : Int) (x : ByteArray) (hx0 : 0 < x.size) (hxs : x.size ≤ 1000000) (r : List ByteArray) (hwl : r.length ≤ 1000000) (w : World) (h : LnAt w B num (x :: r)) :
    Calls Tryz.prog 79 #[.pointer (some ⟨B, 0, none⟩)] w fun e w' => (match cntL x.data.toList with | some z => e = .returned (.int .i64 z) ∧ LnAt w' B num r ∧ Oth B w w' | none => e = lostL num ∧ Oth B w w') := by
  have htk := take_ok B num x r hwl w h
  have hl : x.data.toList.length = x.size := (Lib.size_eq x).symm
  obtain ⟨R, hR⟩ : ∃ R, cntL x.data.toList = R := ⟨_, rfl⟩
  rw [hR]
  have HR : Hid (cntL x.data.toList = R) := hR
  clear hR h
  have HXL : Hid (x.toList = x.data.toList) := ByteArray.toList_eq x
  go_enter Tryz.func79, Tryz.ntmps79
  go_wp2_with fail
  refine htk.mono ?_
  rintro _ w2 ⟨rfl, hL, hO⟩
  clear htk
  obtain ⟨a, c, hB, hW⟩ := id hL
  have HL : Hid (LnAt w2 B num r) := hL
  have hno := lneed_no B num _ w2 false rfl hB
  have hyes := lneed_ok (.pointer (some ⟨B, 0, none⟩)) true w2 rfl
  clear hL hB hW
  have HO : Hid (Oth B w w2) := hO
  clear hO
  by_cases h7 : x.size ≤ 7
  case neg =>
    have hRn : R = none := by rw [← HR.out, cntL, if_neg (fun h => h7 (by omega))]
    subst hRn
    clear HR
    unfold lostL at *
    go_wp2_with fail
    refine hno.mono ?_
    rintro _ w3 ⟨rfl, rfl⟩
    clear hno hyes
    go_wp2_with fail
    refine ⟨rfl, ?_, HO.out⟩
    unfold lostL; rfl
  by_cases h8 : (x.toList == [48]) = false ∧ ((x[0].toNat : Int) != 48) = false
  case pos =>
    obtain ⟨t1, t2⟩ := h8
    have hRn : R = none := by
      rw [← HR.out, cntL, if_neg]
      rintro ⟨_, h2, _⟩
      rcases h2 with h2 | h2
      · rw [HXL.out, h2] at t1; cases t1
      · apply h2
        have e1 : x.data.toList[0]'(by omega) = 48 := by
          have : x[0].toNat = 48 := by
            have := bne_eq_false_iff_eq.1 t2
            omega
          exact UInt8.toNat.inj (by rw [show (48 : UInt8).toNat = 48 from rfl]; exact this)
        rw [List.head?_eq_getElem?, List.getElem?_eq_getElem (by omega), e1]
    subst hRn
    clear HR
    unfold lostL at *
    go_wp2_with fail
    refine hno.mono ?_
    rintro _ w3 ⟨rfl, rfl⟩
    clear hno hyes
    go_wp2_with fail
    refine ⟨rfl, ?_, HO.out⟩
    unfold lostL; rfl
  have HX : Hid (R = if (x.data.toList.drop 0).all isDigU = true then some (cntV (x.data.toList.drop 0) ((0 : Nat) : Int)) else none) := by
    show _ = _
    rw [List.drop_zero, ← HR.out, cntL]
    by_cases ha : x.data.toList.all isDigU = true
    · rw [if_pos ha, if_pos]
      · rfl
      refine ⟨by omega, ?_, ha⟩
      cases h1 : (x.toList == [48]) with
      | true => left; rw [← HXL.out]; exact eq_of_beq h1
      | false =>
        right
        intro h2
        rw [List.head?_eq_getElem?, List.getElem?_eq_getElem (by omega)] at h2
        have h3 : x[0] = 48 := Option.some.inj h2
        exact h8 ⟨h1, by rw [h3]; rfl⟩
    · rw [if_neg ha, if_neg (fun h => ha h.2.2)]
  clear HR HXL
  cases t1 : (x.toList == [48]) with
  | true =>
    clear h8
    go_wp2_with fail
    refine hyes.mono ?_
    rintro _ w3 ⟨rfl, rfl⟩
    clear hyes
    go_wp2_with fail
    go_loopw [4, 24] (fun m i wr => ∃ (j n : Nat), j ≤ x.size ∧ i = .int .i64 j ∧ m = .int .i64 n ∧ Hid (n < 10 ^ j) ∧ Hid (R = if (x.data.toList.drop j).all isDigU = true then some (cntV (x.data.toList.drop j) n) else none) ∧ w2 = wr) (fun _ i _ => x.size - (intOf i).toNat)
    case atStart => exact ⟨0, 0, by omega, rfl, rfl, by show _ < _; decide, HX, rfl⟩
    case round =>
      clear HX
      obtain ⟨j, n, hj, rfl, rfl, HN, HS, rfl⟩ := hrel
      by_cases hlt : j < x.size
      · have hdg := isDigit_any x[j] w2
        have hn6 : n ≤ 1000000 := by
          have h1 := HN.out
          have h2 : (10 : Nat) ^ j ≤ 10 ^ 6 := Nat.pow_le_pow_right (by omega) (by omega)
          omega
        cases hd : isDigU x[j] with
        | true =>
          rw [hd] at hdg
          have hd1 : 48 ≤ x[j].toNat ∧ x[j].toNat ≤ 57 := by
            simpa [isDigU] using hd
          obtain ⟨hd1, hd2⟩ := hd1
          obtain ⟨d, hde⟩ : ∃ d, x[j].toNat = d + 48 := ⟨x[j].toNat - 48, by omega⟩
          have HS2 : Hid (R = if (x.data.toList.drop (j + 1)).all isDigU = true then some (cntV (x.data.toList.drop (j + 1)) ((n * 10 + d : Nat) : Int)) else none) := by
            show _ = _
            rw [HS.out, all_dropN _ _ _ (by omega), cntV_drop _ _ (by omega)]
            have e1 : (x.data.toList[j]'(by omega)) = x[j] := rfl
            rw [e1, hd, hde]
            have e2 : ((n : Int) * 10 + (((d + 48 : Nat) : Int) - 48)) = ((n * 10 + d : Nat) : Int) := by omega
            rw [e2]
            rfl
          have HN2 : Hid (n * 10 + d < 10 ^ (j + 1)) := by
            show _ < _
            have := HN.out
            rw [Nat.pow_succ]
            omega
          have hyes := lneed_ok (.pointer (some ⟨B, 0, none⟩)) true w2 rfl
          have e3 : (x[j].toNat : Int) = (d : Int) + 48 := by omega
          have hd9 : d ≤ 9 := by omega
          rw [e3] at hdg
          clear HS HN hd e3
          go_wp2_with fail
          refine hdg.mono ?_
          rintro _ w3 ⟨rfl, rfl⟩
          go_wp2_with fail
          refine hyes.mono ?_
          rintro _ w3 ⟨rfl, rfl⟩
          clear hyes hdg
          go_wp2_with fail
          go_roundw
          case rel => exact ⟨j + 1, n * 10 + d, by omega, by simp, by simp; try omega, HN2, HS2, trivial⟩
          case measure => simp only [intOf]; omega
        | false =>
          rw [hd] at hdg
          have hRn : R = none := by
            rw [HS.out, all_dropN _ _ _ (by omega)]
            have e1 : (x.data.toList[j]'(by omega)) = x[j] := rfl
            rw [e1, hd]
            rfl
          clear HS HN hd
          subst hRn
          unfold lostL at *
          go_wp2_with fail
          refine hdg.mono ?_
          rintro _ w3 ⟨rfl, rfl⟩
          go_wp2_with fail
          refine hno.mono ?_
          rintro _ w3 ⟨rfl, rfl⟩
          clear hno hdg
          go_wp2_with fail
          refine ⟨rfl, ?_, HO.out⟩
          unfold lostL; rfl
      · have hRn : R = some (n : Int) := by rw [HS.out, List.drop_of_length_le (by omega)]; rfl
        clear HS
        subst hRn
        clear hno
        go_wp2_with fail
        go_ret
        exact ⟨rfl, HL.out, HO.out⟩
  | false =>
    have t2 : ((x[0].toNat : Int) != 48) = true := by
      cases t2 : ((x[0].toNat : Int) != 48) with
      | true => rfl
      | false => exact absurd ⟨t1, t2⟩ h8
    clear h8
    go_wp2_with fail
    refine hyes.mono ?_
    rintro _ w3 ⟨rfl, rfl⟩
    clear hyes
    go_wp2_with fail
    go_loopw [4, 24] (fun m i wr => ∃ (j n : Nat), j ≤ x.size ∧ i = .int .i64 j ∧ m = .int .i64 n ∧ Hid (n < 10 ^ j) ∧ Hid (R = if (x.data.toList.drop j).all isDigU = true then some (cntV (x.data.toList.drop j) n) else none) ∧ w2 = wr) (fun _ i _ => x.size - (intOf i).toNat)
    case atStart => exact ⟨0, 0, by omega, rfl, rfl, by show _ < _; decide, HX, rfl⟩
    case round =>
      clear HX
      obtain ⟨j, n, hj, rfl, rfl, HN, HS, rfl⟩ := hrel
      by_cases hlt : j < x.size
      · have hdg := isDigit_any x[j] w2
        have hn6 : n ≤ 1000000 := by
          have h1 := HN.out
          have h2 : (10 : Nat) ^ j ≤ 10 ^ 6 := Nat.pow_le_pow_right (by omega) (by omega)
          omega
        cases hd : isDigU x[j] with
        | true =>
          rw [hd] at hdg
          have hd1 : 48 ≤ x[j].toNat ∧ x[j].toNat ≤ 57 := by
            simpa [isDigU] using hd
          obtain ⟨hd1, hd2⟩ := hd1
          obtain ⟨d, hde⟩ : ∃ d, x[j].toNat = d + 48 := ⟨x[j].toNat - 48, by omega⟩
          have HS2 : Hid (R = if (x.data.toList.drop (j + 1)).all isDigU = true then some (cntV (x.data.toList.drop (j + 1)) ((n * 10 + d : Nat) : Int)) else none) := by
            show _ = _
            rw [HS.out, all_dropN _ _ _ (by omega), cntV_drop _ _ (by omega)]
            have e1 : (x.data.toList[j]'(by omega)) = x[j] := rfl
            rw [e1, hd, hde]
            have e2 : ((n : Int) * 10 + (((d + 48 : Nat) : Int) - 48)) = ((n * 10 + d : Nat) : Int) := by omega
            rw [e2]
            rfl
          have HN2 : Hid (n * 10 + d < 10 ^ (j + 1)) := by
            show _ < _
            have := HN.out
            rw [Nat.pow_succ]
            omega
          have hyes := lneed_ok (.pointer (some ⟨B, 0, none⟩)) true w2 rfl
          have e3 : (x[j].toNat : Int) = (d : Int) + 48 := by omega
          have hd9 : d ≤ 9 := by omega
          rw [e3] at hdg
          clear HS HN hd e3
          go_wp2_with fail
          refine hdg.mono ?_
          rintro _ w3 ⟨rfl, rfl⟩
          go_wp2_with fail
          refine hyes.mono ?_
          rintro _ w3 ⟨rfl, rfl⟩
          clear hyes hdg
          go_wp2_with fail
          go_roundw
          case rel => exact ⟨j + 1, n * 10 + d, by omega, by simp, by simp; try omega, HN2, HS2, trivial⟩
          case measure => simp only [intOf]; omega
        | false =>
          rw [hd] at hdg
          have hRn : R = none := by
            rw [HS.out, all_dropN _ _ _ (by omega)]
            have e1 : (x.data.toList[j]'(by omega)) = x[j] := rfl
            rw [e1, hd]
            rfl
          clear HS HN hd
          subst hRn
          unfold lostL at *
          go_wp2_with fail
          refine hdg.mono ?_
          rintro _ w3 ⟨rfl, rfl⟩
          go_wp2_with fail
          refine hno.mono ?_
          rintro _ w3 ⟨rfl, rfl⟩
          clear hno hdg
          go_wp2_with fail
          refine ⟨rfl, ?_, HO.out⟩
          unfold lostL; rfl
      · have hRn : R = some (n : Int) := by rw [HS.out, List.drop_of_length_le (by omega)]; rfl
        clear HS
        subst hRn
        clear hno
        go_wp2_with fail
        go_ret
        exact ⟨rfl, HL.out, HO.out⟩
end Go.Proofs.YtcbjnifoojjipaaGreatDoor
