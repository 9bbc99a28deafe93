/- What the reader's readClass does (a contract; nothing is claimed here). -/
import Derived.Test.YtadbkkakjekopaaDoorPoint
namespace Go.Proofs.YtadbkkakjekopaaDoor
open Go.RowKit Go.Vf

def classE (line : Int) (r : Option Nat) : Ending := gotI line (match r with
  | none => none
  | some n => if n ≤ 254 then some (n : Int) else none)

set_option maxHeartbeats 1000000 in
theorem readClass_any (b : Nat) (s : ByteArray) (line : Int) (w : World) (hs : s.size ≤ 17179869184) (hl : w.cell? ⟨b, 0, none⟩ = some (.int .i64 line)) :
    Calls Tryd.prog 56 #[.pointer (some ⟨b, 0, none⟩), .string s] w fun e w' => e = gotI line (classR s.data.toList) ∧ w = w' := by
  have hsl : s.data.toList.length = s.size := (Lib.size_eq s).symm
  by_cases hlen : s.data.toList = [48] ∨ (s.data.toList ≠ [] ∧ s.data.toList.head? ≠ some 48 ∧ s.data.toList.length ≤ 3)
  · have e1 : gotI line (classR s.data.toList) = classE line (numB decV 10 s.data.toList 0) := by
      unfold classR classE
      rw [if_pos hlen]
      rfl
    rw [e1]
    generalize hR : numB decV 10 s.data.toList 0 = R
    have HR : Hid (numB decV 10 s.data.toList 0 = R) := hR
    clear hR e1
    rcases hlen with h0 | ⟨h1, h0, h3⟩
    · have h4' : (s.toList == [48]) = true := by rw [ByteArray.toList_eq]; simp [h0]
      have hs3 : s.size ≤ 3 := by rw [← hsl, h0]; simp
      clear h0
      go_enter Tryd.func56, Tryd.ntmps56
      go_wp2_with fail
      refine (need_ok _ _ _ _ (by simp; try omega)).mono ?_
      rintro e w1 ⟨rfl, rfl⟩
      go_wp2_with fail
      go_loopw [5, 27] (fun x i wr => ∃ k n : Nat, k ≤ s.size ∧ i = .int .i64 k ∧ x = .int .i64 n ∧ n < 10 ^ k ∧ Hid (numB decV 10 (s.data.toList.drop k) n = R) ∧ w = wr) (fun _ i _ => s.size - (intOf i).toNat)
      case atStart => exact ⟨0, 0, by omega, rfl, rfl, by omega, by simpa using HR, rfl⟩
      case round =>
        obtain ⟨k, n, hk, rfl, rfl, hn, HK, rfl⟩ := hrel
        have hp6 : (10 : Nat) ^ k ≤ 10 ^ 3 := Nat.pow_le_pow_right (by omega) (by omega)
        by_cases hlt : k < s.size
        · have hd := drop_at s k hlt
          have hb8 := s[k].toNat_lt
          go_wp2_with fail
          refine (readDecimal_any b s[k] line _ hl).mono ?_
          rintro e w2 ⟨rfl, rfl⟩
          cases hv : decV s[k] with
          | none =>
            have hRn : R = none := by rw [← HK.out, hd, numB, hv]
            simp only [gotN]
            go_wp2
            exact ⟨rfl, by rw [hRn]; rfl, rfl⟩
          | some d =>
            have hd16 := decV_lt hv
            have HK2 : Hid (numB decV 10 (s.data.toList.drop (k + 1)) (n * 10 + d) = R) := by
              show _ = _
              rw [← HK.out, hd, numB, hv]
            simp only [gotN]
            have hn2 : n * 10 + d < 10 ^ (k + 1) := by rw [Nat.pow_succ]; omega
            clear HK hd hv
            go_wp2
            go_roundw
            case rel => exact ⟨k + 1, n * 10 + d, by omega, by simp, by simp; try omega, hn2, HK2, by trivial⟩
            case measure => simp only [intOf]; omega
        · have hRs : R = some n := by rw [← HK.out, drop_end s k (by omega)]; rfl
          clear HK
          by_cases hm : n ≤ 254
          · go_wp2_with fail
            refine (need_ok _ _ _ _ (by simp; try omega)).mono ?_
            rintro e w2 ⟨rfl, rfl⟩
            go_wp2
            go_ret
            exact ⟨by rw [hRs]; simp [classE, hm, gotI], rfl⟩
          · go_wp2_with fail
            refine (need_no b _ _ line _ (by simp; try omega) hl).mono ?_
            rintro e w2 ⟨rfl, rfl⟩
            go_wp2
            exact ⟨rfl, by rw [hRs]; simp [classE, hm, gotI], rfl⟩
    · have hpos : 0 < s.size := by
        rw [← hsl]
        exact List.length_pos_iff.2 h1
      have hs3 : s.size ≤ 3 := by omega
      have hne' : ¬ (s[0].toNat : Int) = 48 := by
        rw [head_at s hpos] at h0
        simp only [ne_eq, Option.some.injEq] at h0
        intro e
        exact h0 (UInt8.toNat_inj.1 (by have : s[0].toNat = 48 := by omega
                                        simpa using this))
      have hne : ((s[0].toNat : Int) == 48) = false := by simpa using hne'
      have h4' : (s.toList == [48]) = false := by
        rw [ByteArray.toList_eq]
        simp only [beq_eq_false_iff_ne, ne_eq]
        intro e
        rw [e] at h0
        simp at h0
      have hemp : s.toList.isEmpty = false := by rw [ByteArray.toList_eq]; simpa using h1
      clear h0 h1
      go_enter Tryd.func56, Tryd.ntmps56
      go_wp2_with fail
      refine (need_ok _ _ _ _ (by simp; try first | omega | exact hne')).mono ?_
      rintro e w1 ⟨rfl, rfl⟩
      go_wp2_with fail
      go_loopw [5, 27] (fun x i wr => ∃ k n : Nat, k ≤ s.size ∧ i = .int .i64 k ∧ x = .int .i64 n ∧ n < 10 ^ k ∧ Hid (numB decV 10 (s.data.toList.drop k) n = R) ∧ w = wr) (fun _ i _ => s.size - (intOf i).toNat)
      case atStart => exact ⟨0, 0, by omega, rfl, rfl, by omega, by simpa using HR, rfl⟩
      case round =>
        obtain ⟨k, n, hk, rfl, rfl, hn, HK, rfl⟩ := hrel
        have hp6 : (10 : Nat) ^ k ≤ 10 ^ 3 := Nat.pow_le_pow_right (by omega) (by omega)
        by_cases hlt : k < s.size
        · have hd := drop_at s k hlt
          have hb8 := s[k].toNat_lt
          go_wp2_with fail
          refine (readDecimal_any b s[k] line _ hl).mono ?_
          rintro e w2 ⟨rfl, rfl⟩
          cases hv : decV s[k] with
          | none =>
            have hRn : R = none := by rw [← HK.out, hd, numB, hv]
            simp only [gotN]
            go_wp2
            exact ⟨rfl, by rw [hRn]; rfl, rfl⟩
          | some d =>
            have hd16 := decV_lt hv
            have HK2 : Hid (numB decV 10 (s.data.toList.drop (k + 1)) (n * 10 + d) = R) := by
              show _ = _
              rw [← HK.out, hd, numB, hv]
            simp only [gotN]
            have hn2 : n * 10 + d < 10 ^ (k + 1) := by rw [Nat.pow_succ]; omega
            clear HK hd hv
            go_wp2
            go_roundw
            case rel => exact ⟨k + 1, n * 10 + d, by omega, by simp, by simp; try omega, hn2, HK2, by trivial⟩
            case measure => simp only [intOf]; omega
        · have hRs : R = some n := by rw [← HK.out, drop_end s k (by omega)]; rfl
          clear HK
          by_cases hm : n ≤ 254
          · go_wp2_with fail
            refine (need_ok _ _ _ _ (by simp; try omega)).mono ?_
            rintro e w2 ⟨rfl, rfl⟩
            go_wp2
            go_ret
            exact ⟨by rw [hRs]; simp [classE, hm, gotI], rfl⟩
          · go_wp2_with fail
            refine (need_no b _ _ line _ (by simp; try omega) hl).mono ?_
            rintro e w2 ⟨rfl, rfl⟩
            go_wp2
            exact ⟨rfl, by rw [hRs]; simp [classE, hm, gotI], rfl⟩
  · have e1 : classR s.data.toList = none := by
      unfold classR
      rw [if_neg hlen]
    rw [e1]
    have h4' : (s.toList == [48]) = false := by
      rw [ByteArray.toList_eq]
      simp only [beq_eq_false_iff_ne, ne_eq]
      exact fun e => hlen (Or.inl e)
    by_cases hemp : s.data.toList = []
    · have hemp' : s.toList.isEmpty = true := by rw [ByteArray.toList_eq]; simpa using hemp
      clear hlen
      go_enter Tryd.func56, Tryd.ntmps56
      go_wp2_with fail
      refine (need_no b _ _ line _ (by simp; try omega) hl).mono ?_
      rintro e w1 ⟨rfl, rfl⟩
      go_wp2
      exact ⟨rfl, rfl, rfl⟩
    · have hemp' : s.toList.isEmpty = false := by rw [ByteArray.toList_eq]; simpa using hemp
      have hpos : 0 < s.size := by
        rw [← hsl]
        exact List.length_pos_iff.2 hemp
      by_cases h0 : s[0] = 48
      · have he' : (s[0].toNat : Int) = 48 := by rw [h0]; rfl
        have he : ((s[0].toNat : Int) == 48) = true := by simpa using he'
        clear h0 hlen hemp
        go_enter Tryd.func56, Tryd.ntmps56
        go_wp2_with fail
        refine (need_no b _ _ line _ (by simp; try first | omega | exact he') hl).mono ?_
        rintro e w1 ⟨rfl, rfl⟩
        go_wp2
        exact ⟨rfl, rfl, rfl⟩
      · have hne' : ¬ (s[0].toNat : Int) = 48 := by
          intro e
          exact h0 (UInt8.toNat_inj.1 (by have : s[0].toNat = 48 := by omega
                                          simpa using this))
        have hne : ((s[0].toNat : Int) == 48) = false := by simpa using hne'
        have h3 : 3 < s.size := by
          by_cases h3 : 3 < s.size
          · exact h3
          · refine absurd (Or.inr ⟨hemp, ?_, by omega⟩) hlen
            rw [head_at s hpos]
            simpa using h0
        clear h0 hlen hemp
        go_enter Tryd.func56, Tryd.ntmps56
        go_wp2_with fail
        refine (need_no b _ _ line _ (by simp; try first | omega | exact he') hl).mono ?_
        rintro e w1 ⟨rfl, rfl⟩
        go_wp2
        exact ⟨rfl, rfl, rfl⟩

end Go.Proofs.YtadbkkakjekopaaDoor
