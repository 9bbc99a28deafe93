/- Contracts and lemmas (nothing is claimed here). -/
import Derived.Test.YtkjoomdglealmaaGreatDoorJ26
import Derived.Test.YtkjoomdglealmaaGreatDoorJ14
namespace Go.Proofs.YtkjoomdglealmaaGreatDoor
open Go.RowKit Go.Vf

def OkTo (k : Nat) (l : List UInt8) (j : Nat) : Prop := (2 ≤ j → secB k l = true) ∧ ∀ i, 2 ≤ i → i < j → tailB (l[i]?.getD 0) = true

def AccB (a j : Nat) : Prop := a ≤ 67375167 ∧ (j ≤ 3 → a ≤ 1052735) ∧ (j ≤ 2 → a ≤ 16447) ∧ (j ≤ 1 → a ≤ 255)
theorem AccB.next {a b j c : Nat} (h : AccB a j) (hj0 : 1 ≤ j) (hj : j ≤ 3) (hb : b ≤ 191) (e : c = a * 64 + (b - 128)) : AccB c (j + 1) := by
  obtain ⟨h1, h2, h3, h4⟩ := h
  have g2 := h2 hj
  refine ⟨by omega, fun h => ?_, fun h => ?_, fun h => absurd h (by omega)⟩
  · have g3 := h3 (by omega)
    omega
  · have g4 := h4 (by omega)
    omega

theorem ok_bad {k : Nat} {l : List UInt8} {z j : Nat} (hw : wholeL k l = (secB k l && ((l.take z).drop 2).all tailB)) (hz : z ≤ l.length) (hlh : 128 ≤ (utab k).low ∧ (utab k).high ≤ 191) (hj : 1 ≤ j) (hjz : j < z)
    (hb : (l[j]?.getD 0).toNat < 128 ∨ 191 < (l[j]?.getD 0).toNat) : wholeL k l = false := by
  cases h : wholeL k l with
  | false => rfl
  | true =>
    rw [hw, Bool.and_eq_true, tail_all hz] at h
    rcases Nat.lt_or_ge 1 j with h2 | h2
    · have h3 := h.2 j h2 hjz
      rw [tailB, Bool.and_eq_true, decide_eq_true_eq, decide_eq_true_eq] at h3
      omega
    · have h3 := h.1
      obtain rfl : j = 1 := by omega
      rw [secB, Bool.and_eq_true, decide_eq_true_eq, decide_eq_true_eq] at h3
      omega

theorem ok_next {k : Nat} {l : List UInt8} {j : Nat} (h : OkTo k l j) (hj : 2 ≤ j) (h1 : 128 ≤ (l[j]?.getD 0).toNat) (h2 : (l[j]?.getD 0).toNat ≤ 191) : OkTo k l (j + 1) :=
  ⟨fun _ => h.1 hj, fun n g1 g2 => by
    rcases Nat.lt_or_ge n j with h3 | h3
    · exact h.2 n g1 h3
    · obtain rfl : n = j := by omega
      rw [tailB, Bool.and_eq_true, decide_eq_true_eq, decide_eq_true_eq]
      exact ⟨h1, h2⟩⟩

set_option maxHeartbeats 2000000 in
set_option maxRecDepth 20000 in
theorem one_any (s : ByteArray) (at_ : Nat) (hat : at_ < s.size) (hs : s.size ≤ 4294967296) (w : World) :
    Calls Tryz.prog 113 #[.string s, .int .i64 (at_ : Int)] w fun e w' => e = .returned (.tuple #[.int .i64 ((oneN (s.data.toList.drop at_)).1 : Int), .int .i64 ((oneN (s.data.toList.drop at_)).2 : Int)]) ∧ w = w' := by
  obtain ⟨l, hl⟩ : ∃ l, l = s.data.toList.drop at_ := ⟨_, rfl⟩
  rw [← hl]
  have hget : ∀ i (h : at_ + i < s.size), l[i]?.getD 0 = s[at_ + i] := fun i h => by
    rw [hl, List.getElem?_drop, list_get s (at_ + i) h]; rfl
  have hll : l.length = s.size - at_ := by rw [hl, List.length_drop, ← Lib.size_eq]
  have hg0 : l[0]?.getD 0 = s[at_] := hget 0 hat
  obtain ⟨A, B, hAB⟩ : ∃ A B, oneN l = (A, B) := ⟨_, _, rfl⟩
  rw [hAB]
  have HAB : Hid (oneN l = (A, B)) := hAB
  have hln : longN s[at_].toNat = (match rowBU s[at_].toNat with | some k => (utab k).size | none => 0) := rfl
  have h256 : s[at_].toNat < 256 := s[at_].toNat_lt
  clear hl hAB
  cases hrow : rowBU s[at_].toNat with
  | none =>
    have e0 : A = 0 ∧ B = 0 := by
      have := HAB.out
      unfold oneN at this
      rw [hg0, hrow] at this
      simp at this
      exact ⟨this.1.symm, this.2.symm⟩
    obtain ⟨rfl, rfl⟩ := e0
    rw [hrow] at hln
    have hln' : longN s[at_].toNat = 0 := hln
    clear hrow hln hget hg0
    go_enter Tryz.func113, Tryz.ntmps113
    go_wp2_with fail
    refine (long_any s[at_].toNat w).mono ?_
    rintro e w1 ⟨rfl, rfl⟩
    rw [hln']
    go_wp2
    refine bodyPost_ret (results21_run rfl rfl) rfl ?_
    exact ⟨rfl, rfl⟩
  | some k =>
    obtain ⟨hk9, hf1, hf2⟩ := rowB_lt hrow
    have HROW : Hid (rowBU s[at_].toNat = some k) := hrow
    have hz1 : 1 ≤ (utab k).size ∧ (utab k).size ≤ 4 := by rcases cases_nine hk9 with rfl | rfl | rfl | rfl | rfl | rfl | rfl | rfl | rfl <;> simp [utab]
    rw [hrow] at hln
    have hln' : longN s[at_].toNat = (utab k).size := hln
    have hAB2 : (if wholeL k l then (accL (l.take (utab k).size) (utab k).size, (utab k).size) else (0, 0)) = (A, B) := by
      have := HAB.out
      unfold oneN at this
      rw [hg0, hrow] at this
      exact this
    obtain ⟨z, hz⟩ : ∃ z, z = (utab k).size := ⟨_, rfl⟩
    rw [← hz] at hz1 hln' hAB2
    have HZ : Hid (z = (utab k).size) := hz
    clear hrow hln HAB hz
    by_cases hfit : at_ + z ≤ s.size
    · have hlz : z ≤ l.length := by omega
      have htz : (l.take z).length = z := by rw [List.length_take]; omega
      obtain ⟨L, hL⟩ : ∃ L, L = l.take z := ⟨_, rfl⟩
      rw [← hL] at hAB2 htz
      have hLg : ∀ i (h : i < z), L[i]?.getD 0 = s[at_ + i]'(by omega) := fun i h => by
        have h2 : L[i]? = l[i]? := by rw [hL, List.getElem?_take, if_pos h]
        rw [h2]; exact hget i (by omega)
      have hA1 : accL L 1 = s[at_].toNat - headOf z := by
        show (L[0]?.getD 0).toNat - headOf L.length = _
        rw [hLg 0 (by omega), htz]
        rfl
      have hAs : ∀ j, j + 1 < z → ∀ (h : at_ + (j + 1) < s.size), accL L (j + 2) = accL L (j + 1) * 64 + (s[at_ + (j + 1)].toNat - 128) := fun j hj h => by
        show accL L (j + 1) * 64 + ((L[j + 1]?.getD 0).toNat - 128) = _
        rw [hLg (j + 1) hj]
      have hwh : wholeL k l = ((decide (z ≤ 1) || secB k l) && ((l.take z).drop 2).all tailB) := by
        unfold wholeL
        rw [← HZ.out, decide_eq_true hlz, Bool.true_and]
      rcases (show z = 1 ∨ 2 ≤ z by omega) with hz | hz2
      · have hw1 : wholeL k l = true := by
          rw [hwh, hz, List.drop_eq_nil_of_le (by simp; omega)]
          simp
        rw [hw1] at hAB2
        simp only [if_true, Prod.mk.injEq] at hAB2
        obtain ⟨rfl, rfl⟩ := hAB2
        subst hz
        rw [hA1]
        have hh : s[at_].toNat - headOf 1 = s[at_].toNat := by simp [headOf]
        rw [hh]
        clear hwh hAs hA1 hLg hL hget hg0 hf1 hf2 hw1 hh
        go_enter Tryz.func113, Tryz.ntmps113
        go_wp2_with fail
        refine (long_any s[at_].toNat w).mono ?_
        rintro e w1 ⟨rfl, rfl⟩
        rw [hln']
        go_wp2
        refine bodyPost_ret (results21_run rfl rfl) rfl ?_
        exact ⟨rfl, rfl⟩
      · have hwh2 : wholeL k l = (secB k l && ((l.take z).drop 2).all tailB) := by
          rw [hwh, show decide (z ≤ 1) = false by simp; omega]
          simp
        have HAS : Hid (∀ j, j + 1 < z → ∀ (h : at_ + (j + 1) < s.size), accL L (j + 2) = accL L (j + 1) * 64 + (s[at_ + (j + 1)].toNat - 128)) := hAs
        have hkz : 2 ≤ (utab k).size := by rw [← HZ.out]; exact hz2
        have hlh : 128 ≤ (utab k).low ∧ (utab k).high ≤ 191 := by
          rcases cases_nine hk9 with rfl | rfl | rfl | rfl | rfl | rfl | rfl | rfl | rfl <;> simp only [utab] at hkz ⊢ <;> omega
        have hmod : (z = 2 → s[at_].toNat % 32 = accL L 1) ∧ (z = 3 → s[at_].toNat % 16 = accL L 1) ∧ (z = 4 → s[at_].toNat % 8 = accL L 1) ∧ accL L 1 ≤ 255 := by
          have HZ' := HZ.out
          rw [hA1]
          refine ⟨fun h => ?_, fun h => ?_, fun h => ?_, by omega⟩
          · rw [h]; show _ = s[at_].toNat - 192
            rw [h] at HZ'
            rcases cases_nine hk9 with rfl | rfl | rfl | rfl | rfl | rfl | rfl | rfl | rfl <;> simp only [utab] at hf1 hf2 HZ' <;> omega
          · rw [h]; show _ = s[at_].toNat - 224
            rw [h] at HZ'
            rcases cases_nine hk9 with rfl | rfl | rfl | rfl | rfl | rfl | rfl | rfl | rfl <;> simp only [utab] at hf1 hf2 HZ' <;> omega
          · rw [h]; show _ = s[at_].toNat - 240
            rw [h] at HZ'
            rcases cases_nine hk9 with rfl | rfl | rfl | rfl | rfl | rfl | rfl | rfl | rfl <;> simp only [utab] at hf1 hf2 HZ' <;> omega
        obtain ⟨m2, m3, m4, hb1⟩ := hmod
        have hF0 : wholeL k l = false → A = 0 ∧ B = 0 := fun h => by
          rw [h] at hAB2
          simp at hAB2
          exact ⟨hAB2.1.symm, hAB2.2.symm⟩
        have HBAD : Hid (∀ i (h : at_ + (i + 1) < s.size), i + 1 < z → (s[at_ + (i + 1)].toNat < 128 ∨ 191 < s[at_ + (i + 1)].toNat) → A = 0 ∧ B = 0) := fun i h h1 h2 => by
          rw [← hget (i + 1) h] at h2
          exact hF0 (ok_bad hwh2 hlz hlh (by omega) h1 h2)
        have HSEC0 : Hid (secB k l = false → A = 0 ∧ B = 0) := fun h => hF0 (by rw [hwh2, h]; rfl)
        have HSECV : Hid (∀ i (h : at_ + (i + 1) < s.size), i = 0 → (decide ((utab k).low ≤ s[at_ + (i + 1)].toNat) && decide (s[at_ + (i + 1)].toNat ≤ (utab k).high)) = secB k l) := fun i h h0 => by
          subst h0
          rw [secB, hget 1 h]
        have HNEXT : Hid (∀ i (h : at_ + (i + 1) < s.size), OkTo k l (i + 1) → 1 ≤ i → 128 ≤ s[at_ + (i + 1)].toNat → s[at_ + (i + 1)].toNat ≤ 191 → OkTo k l (i + 2)) := fun i h h0 h1 h2 h3 => by
          rw [← hget (i + 1) h] at h2 h3
          exact ok_next h0 (by omega) h2 h3
        have HEND : Hid (OkTo k l z → A = accL L z ∧ B = z) := fun h => by
          have hw : wholeL k l = true := by rw [hwh2, Bool.and_eq_true, tail_all hlz]; exact ⟨h.1 hz2, h.2⟩
          rw [hw] at hAB2
          simp only [if_true, Prod.mk.injEq] at hAB2
          exact ⟨hAB2.1.symm, hAB2.2.symm⟩
        have hac0 : AccB (accL L 1) 1 := ⟨by omega, fun _ => by omega, fun _ => by omega, fun _ => by omega⟩
        clear hwh hwh2 hAs hA1 hLg hL hget hg0 hf1 hf2 hAB2 hF0
        have hz1' : ((z : Int) == 1) = false := by simp; omega
        have hz0' : ((z : Int) == 0) = false := by simp; omega
        have hfit' : decide ((s.size : Int) < (at_ : Int) + (z : Int)) = false := by simp; omega
        have hmid : (((z : Int) == 3) = false ∧ ((z : Int) == 4) = false ∧ (s[at_].toNat : Int) % 32 = (accL L 1 : Int)) ∨ (((z : Int) == 3) = true ∧ ((z : Int) == 4) = false ∧ (s[at_].toNat : Int) % 16 = (accL L 1 : Int)) ∨ (((z : Int) == 3) = false ∧ ((z : Int) == 4) = true ∧ (s[at_].toNat : Int) % 8 = (accL L 1 : Int)) := by
          rcases (show z = 2 ∨ z = 3 ∨ z = 4 by omega) with h | h | h
          · exact .inl ⟨by rw [h]; decide, by rw [h]; decide, by have := m2 h; omega⟩
          · exact .inr (.inl ⟨by rw [h]; decide, by rw [h]; decide, by have := m3 h; omega⟩)
          · exact .inr (.inr ⟨by rw [h]; decide, by rw [h]; decide, by have := m4 h; omega⟩)
        clear m2 m3 m4
        rcases hmid with ⟨q1, q2, q3⟩ | ⟨q1, q2, q3⟩ | ⟨q1, q2, q3⟩
        all_goals
          go_enter Tryz.func113, Tryz.ntmps113
          go_wp2_with fail
          refine (long_any s[at_].toNat w).mono ?_
          rintro e w1 ⟨rfl, rfl⟩
          rw [hln']
          go_wp2
          go_loopw [8, 9] (fun n i wr => ∃ j : Nat, 1 ≤ j ∧ j ≤ z ∧ i = .int .i64 j ∧ n = .int .i64 ((accL L j : Nat) : Int) ∧ AccB (accL L j) j ∧ OkTo k l j ∧ wr = w) (fun _ i _ => z - (intOf i).toNat)
          case atStart => exact ⟨1, by omega, by omega, rfl, by rw [q3], hac0, ⟨fun h => absurd h (by decide), fun i h1 h2 => absurd h2 (by omega)⟩, rfl⟩
          case round =>
            obtain ⟨j, hj1, hj2, rfl, rfl, hac, hok, rfl⟩ := hrel
            clear q3
            rcases Nat.lt_or_ge j z with hlt | hge
            · obtain ⟨i, rfl⟩ : ∃ i, j = i + 1 := ⟨j - 1, by omega⟩
              have hai : at_ + (i + 1) < s.size := by omega
              have h256i : (s[at_ + (i + 1)]'hai).toNat < 256 := (s[at_ + (i + 1)]'hai).toNat_lt
              by_cases t1 : (s[at_ + (i + 1)]'hai).toNat < 128
              · obtain ⟨rfl, rfl⟩ := HBAD.out i hai hlt (.inl t1)
                clear HEND HNEXT HSECV HSEC0 HBAD HAS hac
                go_wp2
                refine bodyPost_ret (results21_run rfl rfl) rfl ?_
                exact ⟨rfl, rfl⟩
              · by_cases t2 : 191 < (s[at_ + (i + 1)]'hai).toNat
                · obtain ⟨rfl, rfl⟩ := HBAD.out i hai hlt (.inr t2)
                  clear HEND HNEXT HSECV HSEC0 HBAD HAS hac
                  go_wp2_with fail
                  refine bodyPost_ret (results21_run rfl rfl) rfl ?_
                  exact ⟨rfl, rfl⟩
                · have HE : Hid (accL L (i + 2) = accL L (i + 1) * 64 + ((s[at_ + (i + 1)]'hai).toNat - 128)) := HAS.out i hlt hai
                  have hbd := hac.1
                  have hac2 : AccB (accL L (i + 2)) (i + 2) := hac.next (by omega) (by omega) (by omega) HE.out
                  rcases Nat.eq_zero_or_pos i with hi0 | hi0
                  · have g1 : (((i : Int) + 1) == 1) = true := by rw [hi0]; decide
                    have HV := HSECV.out i hai hi0
                    have HV2 : Hid ((decide ((utab k).low ≤ (s[at_ + (i + 1)]'hai).toNat) && decide ((s[at_ + (i + 1)]'hai).toNat ≤ (utab k).high)) = secB k l) := HV
                    have hok2 : secB k l = true → OkTo k l (i + 2) := fun h => ⟨fun _ => h, fun n h1 h2 => absurd h2 (by omega)⟩
                    clear HV hi0 hok
                    cases hsb : secB k l with
                    | false =>
                      obtain ⟨rfl, rfl⟩ := HSEC0.out hsb
                      have HSB : Hid (secB k l = false) := hsb
                      clear hsb HEND HNEXT HSECV HSEC0 HBAD HAS hok2
                      go_wp2_with fail
                      refine (second_any s[at_].toNat _ k HROW.out hkz _).mono ?_
                      rintro e w1 ⟨rfl, rfl⟩
                      rw [HV2.out, HSB.out]
                      go_wp2
                      refine bodyPost_ret (results21_run rfl rfl) rfl ?_
                      exact ⟨rfl, rfl⟩
                    | true =>
                      have HSB : Hid (secB k l = true) := hsb
                      have hok3 := hok2 hsb
                      clear hsb HEND HNEXT HSECV HSEC0 HBAD HAS hok2
                      go_wp2_with fail
                      refine (second_any s[at_].toNat _ k HROW.out hkz _).mono ?_
                      rintro e w1 ⟨rfl, rfl⟩
                      rw [HV2.out, HSB.out]
                      go_wp2
                      go_roundw
                      case rel => exact ⟨i + 2, by omega, by omega, by go_num, by rw [HE.out]; go_num, hac2, hok3, trivial⟩
                      case measure => simp [intOf]; omega
                  · have g1 : (((i : Int) + 1) == 1) = false := by simp; omega
                    have hok3 := HNEXT.out i hai hok hi0 (by omega) (by omega)
                    clear HEND HNEXT HSECV HSEC0 HBAD HAS hok
                    go_wp2
                    go_roundw
                    case rel => exact ⟨i + 2, by omega, by omega, by go_num, by rw [HE.out]; go_num, hac2, hok3, trivial⟩
                    case measure => simp [intOf]; omega
            · obtain rfl : j = z := Nat.le_antisymm hj2 hge
              obtain ⟨rfl, rfl⟩ := HEND.out hok
              clear HEND HNEXT HSECV HSEC0 HBAD HAS hok
              go_wp2
              refine bodyPost_ret (results21_run rfl rfl) rfl ?_
              exact ⟨rfl, rfl⟩
    · have e0 : A = 0 ∧ B = 0 := by
        have : wholeL k l = false := by unfold wholeL; rw [← HZ.out, hll]; simp; omega
        rw [this] at hAB2
        simp at hAB2
        exact ⟨hAB2.1.symm, hAB2.2.symm⟩
      obtain ⟨rfl, rfl⟩ := e0
      clear hAB2 hget hg0 hf1 hf2
      have hz0 : ((z : Int) == 0) = false := by simp; omega
      go_enter Tryz.func113, Tryz.ntmps113
      go_wp2_with fail
      refine (long_any s[at_].toNat w).mono ?_
      rintro e w1 ⟨rfl, rfl⟩
      rw [hln']
      go_wp2
      refine bodyPost_ret (results21_run rfl rfl) rfl ?_
      exact ⟨rfl, rfl⟩

end Go.Proofs.YtkjoomdglealmaaGreatDoor

namespace Go.Proofs.YtkjoomdglealmaaGreatDoor
open Go.RowKit Go.Vf

set_option maxHeartbeats 1000000 in
set_option maxRecDepth 20000 in
theorem refCheck_any (s : ByteArray) (hsz : s.size ≤ 4294967296) (ps : List Nat) (rest : List UInt8) (hs : s.data.toList = encs ps ++ rest) (hps : ∀ p ∈ ps, IsPt p) (hrest : rest = [] ∨ noChar rest) (w : World) :
    Calls Tryz.prog 77 #[.string s] w fun e w' => e = .returned (.int .i64 (chkOf ps rest)) ∧ w = w' := by
  have HS : Hid (s.data.toList = encs ps ++ rest) := hs
  obtain ⟨C, HC⟩ : ∃ C, Hid (C = chkOf ps rest) := ⟨_, rfl⟩
  rw [← HC.out]
  clear hs
  go_enter Tryz.func77, Tryz.ntmps77
  go_wp2
  go_loopw [3] (fun i wr => ∃ (ps1 ps2 : List Nat) (k : Nat), Hid (ps = ps1 ++ ps2 ∧ k = (encs ps1).length) ∧ k ≤ s.size ∧ i = .int .i64 k ∧ wr = w) (fun i _ => s.size - (intOf i).toNat)
  case atStart => exact ⟨[], ps, 0, ⟨rfl, rfl⟩, Nat.zero_le _, rfl, rfl⟩
  case round =>
    obtain ⟨ps1, ps2, k, HP, hk, rfl, rfl⟩ := hrel
    by_cases hlt : k < s.size
    · cases ps2 with
      | nil =>
        have hdrop : s.data.toList.drop k = rest := by rw [HS.out, HP.out.1, HP.out.2, List.append_nil, List.drop_left]
        have hne : rest ≠ [] := by
          intro h
          have := congrArg List.length hdrop
          rw [h, List.length_drop, ← Lib.size_eq] at this
          simp at this
          omega
        have h1 : oneN (s.data.toList.drop k) = (0, 0) := by rw [hdrop]; exact oneN_none (hrest.resolve_left hne)
        have hC : C = (k : Int) := by rw [HC.out, chkOf, if_neg hne, HP.out.1, List.append_nil, ← HP.out.2]
        have H1 : Hid (oneN (s.data.toList.drop k) = (0, 0)) := h1
        clear h1 hdrop
        go_wp2_with fail
        refine (one_any s k hlt hsz _).mono ?_
        rintro e w1 ⟨rfl, rfl⟩
        rw [H1.out]
        go_wp2
        go_ret
        exact ⟨by first | (rw [hC]; rfl) | rfl, rfl⟩
      | cons p ps2 =>
        have hp : IsPt p := hps p (by rw [HP.out.1]; simp)
        have hdrop : s.data.toList.drop k = enc p ++ (encs ps2 ++ rest) := by
          rw [HS.out, HP.out.1, HP.out.2, encs_append, List.append_assoc, List.drop_left]; simp [encs]
        obtain ⟨z, hz⟩ : ∃ z, z = (enc p).length := ⟨_, rfl⟩
        have h1 : oneN (s.data.toList.drop k) = (p, z) := by rw [hdrop, hz]; exact oneN_enc hp _
        have hz1 : 1 ≤ z ∧ z ≤ 4 := by rw [hz]; exact ⟨enc_pos p, enc_le p⟩
        have hfit : k + z ≤ s.size := by
          have := congrArg List.length hdrop
          rw [List.length_drop, ← Lib.size_eq, List.length_append, ← hz] at this
          omega
        have HP2 : Hid (ps = (ps1 ++ [p]) ++ ps2 ∧ k + z = (encs (ps1 ++ [p])).length) := by
          refine ⟨by rw [HP.out.1]; simp, ?_⟩
          rw [encs_append, List.length_append, ← HP.out.2, hz]; simp [encs]
        have H1 : Hid (oneN (s.data.toList.drop k) = (p, z)) := h1
        have hz0 : ((z : Int) == 0) = false := by simp; omega
        clear h1 hdrop hz HP
        go_wp2_with fail
        refine (one_any s k hlt hsz _).mono ?_
        rintro e w1 ⟨rfl, rfl⟩
        rw [H1.out]
        go_wp2
        go_roundw
        case rel => exact ⟨ps1 ++ [p], ps2, k + z, HP2, hfit, by go_num, trivial⟩
        case measure => simp [intOf]; omega
    · have hend : rest = [] := by
        have h1 := Lib.size_eq s
        rw [HS.out, HP.out.1, encs_append, List.append_assoc, List.length_append, ← HP.out.2, List.length_append] at h1
        exact List.eq_nil_of_length_eq_zero (by omega)
      have hC : C = -1 := by rw [HC.out, chkOf, if_pos hend]
      go_wp2
      go_ret
      exact ⟨by first | (rw [hC]; rfl) | rfl, rfl⟩
end Go.Proofs.YtkjoomdglealmaaGreatDoor
