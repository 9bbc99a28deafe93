/- What the reader's readHex, readPoint, readClass, and isSyllable, mayStand do (contracts; nothing is claimed here). -/
import Derived.Test.YtadbkkakjekopaaDoorNeed
namespace Go.Proofs.YtadbkkakjekopaaDoor
open Go.RowKit Go.Vf

theorem readHex_any (b : Nat) (c : UInt8) (line : Int) (w : World) (hl : w.cell? ⟨b, 0, none⟩ = some (.int .i64 line)) :
    Calls Tryd.prog 71 #[.pointer (some ⟨b, 0, none⟩), .int .u8 (c.toNat : Int)] w fun e w' => e = gotN line (hexV c) ∧ w = w' := by
  have hc := c.toNat_lt
  by_cases h : 65 ≤ c.toNat ∧ c.toNat ≤ 70
  · obtain ⟨h1, h2⟩ := h
    have e1 : hexV c = some (c.toNat - 55) := by simp [hexV, h1, h2]
    rw [e1]
    go_enter Tryd.func71, Tryd.ntmps71
    go_wp2
    go_ret
    refine ⟨?_, rfl⟩
    simp [gotN]
    omega
  · have e1 : hexV c = decV c := by
      unfold hexV decV
      rw [if_neg h]
    rw [e1]
    by_cases h1 : c.toNat < 65
    · go_enter Tryd.func71, Tryd.ntmps71
      go_wp2_with fail
      refine (readDecimal_any b c line _ hl).mono ?_
      rintro e w1 ⟨rfl, rfl⟩
      cases hd : decV c with
      | none =>
        simp only [gotN]
        go_wp2
        exact ⟨rfl, by rw [hd]; rfl, rfl⟩
      | some d =>
        simp only [gotN]
        go_wp2
        go_ret
        exact ⟨by rw [hd]; rfl, rfl⟩
    · have h2 : 70 < c.toNat := by omega
      go_enter Tryd.func71, Tryd.ntmps71
      go_wp2_with fail
      refine (readDecimal_any b c line _ hl).mono ?_
      rintro e w1 ⟨rfl, rfl⟩
      cases hd : decV c with
      | none =>
        simp only [gotN]
        go_wp2
        exact ⟨rfl, by rw [hd]; rfl, rfl⟩
      | some d =>
        simp only [gotN]
        go_wp2
        go_ret
        exact ⟨by rw [hd]; rfl, rfl⟩

theorem isSyllable_any (n : Int) (w : World) :
    Calls Tryd.prog 63 #[.int .i64 n] w fun e w' => e = .returned (.bool (isSyl n)) ∧ w = w' := by
  by_cases h1 : 44032 ≤ n
  · by_cases h2 : n ≤ 55203
    · go_enter Tryd.func63, Tryd.ntmps63
      go_wp2
      go_ret
      exact ⟨by simp [isSyl, h1, h2], rfl⟩
    · go_enter Tryd.func63, Tryd.ntmps63
      go_wp2
      go_ret
      exact ⟨by simp [isSyl, h2], rfl⟩
  · go_enter Tryd.func63, Tryd.ntmps63
    go_wp2
    go_ret
    exact ⟨by simp [isSyl]; omega, rfl⟩

theorem mayStand_any (n : Int) (w : World) :
    Calls Tryd.prog 72 #[.int .i64 n] w fun e w' => e = .returned (.bool (mayB n)) ∧ w = w' := by
  by_cases h1 : 0 ≤ n
  · by_cases h2 : n ≤ 1114111
    · by_cases h3 : n < 55296
      · go_enter Tryd.func72, Tryd.ntmps72
        go_wp2_with fail
        refine (isSyllable_any n _).mono ?_
        rintro e w1 ⟨rfl, rfl⟩
        go_wp2
        go_ret
        exact ⟨by simp [mayB, h1, h2, h3], rfl⟩
      · by_cases h4 : 57343 < n
        · go_enter Tryd.func72, Tryd.ntmps72
          go_wp2_with fail
          refine (isSyllable_any n _).mono ?_
          rintro e w1 ⟨rfl, rfl⟩
          go_wp2
          go_ret
          exact ⟨by simp [mayB, h1, h2, h4], rfl⟩
        · go_enter Tryd.func72, Tryd.ntmps72
          go_wp2
          go_ret
          exact ⟨by simp [mayB]; omega, rfl⟩
    · go_enter Tryd.func72, Tryd.ntmps72
      go_wp2
      go_ret
      exact ⟨by simp [mayB]; omega, rfl⟩
  · go_enter Tryd.func72, Tryd.ntmps72
    go_wp2
    go_ret
    exact ⟨by simp [mayB]; omega, rfl⟩

def gotI (line : Int) : Option Int → Ending
  | some n => .returned (.int .i64 n)
  | none => lostE 40 line

theorem drop_at (s : ByteArray) (k : Nat) (hk : k < s.size) : s.data.toList.drop k = s[k] :: s.data.toList.drop (k + 1) := by
  rw [List.drop_eq_getElem_cons (by rw [← Lib.size_eq]; exact hk)]
  rfl
theorem drop_end (s : ByteArray) (k : Nat) (hk : s.size ≤ k) : s.data.toList.drop k = [] := List.drop_of_length_le (by rw [← Lib.size_eq]; exact hk)
theorem head_at (s : ByteArray) (h : 0 < s.size) : s.data.toList.head? = some s[0] := by
  have := drop_at s 0 h
  rw [List.drop_zero] at this
  rw [this]; rfl

/-- Behind the test on the digits' number. -/
def pointE (line : Int) (r : Option Nat) : Ending := gotI line (match r with
  | none => none
  | some n => if mayB (n : Int) then some (n : Int) else none)

theorem hexV_lt {c : UInt8} {d : Nat} (h : hexV c = some d) : d < 16 := by
  unfold hexV at h
  split at h
  · simp at h; omega
  · split at h
    · simp at h; omega
    · cases h
theorem decV_lt {c : UInt8} {d : Nat} (h : decV c = some d) : d < 10 := by
  unfold decV at h
  split at h
  · simp at h; omega
  · cases h

set_option maxHeartbeats 1000000 in
theorem readPoint_any (b : Nat) (s : ByteArray) (line : Int) (w : World) (hs : s.size ≤ 17179869184) (hl : w.cell? ⟨b, 0, none⟩ = some (.int .i64 line)) :
    Calls Tryd.prog 55 #[.pointer (some ⟨b, 0, none⟩), .string s] w fun e w' => e = gotI line (pointR s.data.toList) ∧ w = w' := by
  have hsl : s.data.toList.length = s.size := (Lib.size_eq s).symm
  by_cases hlen : s.size = 4 ∨ (4 < s.size ∧ s.size ≤ 6 ∧ s.data.toList.head? ≠ some 48)
  · have e1 : gotI line (pointR s.data.toList) = pointE line (numB hexV 16 s.data.toList 0) := by
      unfold pointR pointE
      rw [if_pos (by rw [hsl]; exact hlen)]
      rfl
    rw [e1]
    have hs6 : s.size ≤ 6 := by omega
    generalize hR : numB hexV 16 s.data.toList 0 = R
    have HR : Hid (numB hexV 16 s.data.toList 0 = R) := hR
    clear hR e1
    rcases hlen with h4 | ⟨h4, _, h0⟩
    · have h4' : ((s.size : Int) == 4) = true := by simp [h4]
      go_enter Tryd.func55, Tryd.ntmps55
      go_wp2_with fail
      refine (need_ok _ _ _ _ (by simp; try omega)).mono ?_
      rintro e w1 ⟨rfl, rfl⟩
      go_wp2_with fail
      go_loopw [5, 29] (fun x i wr => ∃ k n : Nat, k ≤ s.size ∧ i = .int .i64 k ∧ x = .int .i64 n ∧ n < 16 ^ k ∧ Hid (numB hexV 16 (s.data.toList.drop k) n = R) ∧ w = wr) (fun _ i _ => s.size - (intOf i).toNat)
      case atStart => exact ⟨0, 0, by omega, rfl, rfl, by omega, by simpa using HR, rfl⟩
      case round =>
        obtain ⟨k, n, hk, rfl, rfl, hn, HK, rfl⟩ := hrel
        have hp6 : (16 : Nat) ^ k ≤ 16 ^ 6 := Nat.pow_le_pow_right (by omega) (by omega)
        by_cases hlt : k < s.size
        · have hd := drop_at s k hlt
          have hb8 := s[k].toNat_lt
          go_wp2_with fail
          refine (readHex_any b s[k] line _ hl).mono ?_
          rintro e w2 ⟨rfl, rfl⟩
          cases hv : hexV s[k] with
          | none =>
            have hRn : R = none := by rw [← HK.out, hd, numB, hv]
            simp only [gotN]
            go_wp2
            exact ⟨rfl, by rw [hRn]; rfl, rfl⟩
          | some d =>
            have hd16 := hexV_lt hv
            have HK2 : Hid (numB hexV 16 (s.data.toList.drop (k + 1)) (n * 16 + d) = R) := by
              show _ = _
              rw [← HK.out, hd, numB, hv]
            simp only [gotN]
            have hn2 : n * 16 + d < 16 ^ (k + 1) := by rw [Nat.pow_succ]; omega
            clear HK hd hv
            go_wp2
            go_roundw
            case rel => exact ⟨k + 1, n * 16 + d, by omega, by simp, by simp; try omega, hn2, HK2, by trivial⟩
            case measure => simp only [intOf]; omega
        · have hRs : R = some n := by rw [← HK.out, drop_end s k (by omega)]; rfl
          clear HK
          go_wp2_with fail
          refine (mayStand_any n _).mono ?_
          rintro e w2 ⟨rfl, rfl⟩
          cases hm : mayB (n : Int) with
          | true =>
            go_wp2_with fail
            refine (need_ok _ _ _ _ rfl).mono ?_
            rintro e w2 ⟨rfl, rfl⟩
            go_wp2
            go_ret
            exact ⟨by rw [hRs]; simp [pointE, hm, gotI], rfl⟩
          | false =>
            go_wp2_with fail
            refine (need_no b _ _ line _ rfl hl).mono ?_
            rintro e w2 ⟨rfl, rfl⟩
            go_wp2
            exact ⟨rfl, by rw [hRs]; simp [pointE, hm, gotI], rfl⟩
    · have hne' : ¬ (s[0].toNat : Int) = 48 := by
        rw [head_at s (by omega)] at h0
        simp only [ne_eq, Option.some.injEq] at h0
        intro e
        exact h0 (UInt8.toNat_inj.1 (by have : s[0].toNat = 48 := by omega
                                        simpa using this))
      have hne : ((s[0].toNat : Int) == 48) = false := by simpa using hne'
      have h4' : ((s.size : Int) == 4) = false := by simp; omega
      clear h0
      go_enter Tryd.func55, Tryd.ntmps55
      go_wp2_with fail
      refine (need_ok _ _ _ _ (by simp; try first | omega | exact hne')).mono ?_
      rintro e w1 ⟨rfl, rfl⟩
      go_wp2_with fail
      go_loopw [5, 29] (fun x i wr => ∃ k n : Nat, k ≤ s.size ∧ i = .int .i64 k ∧ x = .int .i64 n ∧ n < 16 ^ k ∧ Hid (numB hexV 16 (s.data.toList.drop k) n = R) ∧ w = wr) (fun _ i _ => s.size - (intOf i).toNat)
      case atStart => exact ⟨0, 0, by omega, rfl, rfl, by omega, by simpa using HR, rfl⟩
      case round =>
        obtain ⟨k, n, hk, rfl, rfl, hn, HK, rfl⟩ := hrel
        have hp6 : (16 : Nat) ^ k ≤ 16 ^ 6 := Nat.pow_le_pow_right (by omega) (by omega)
        by_cases hlt : k < s.size
        · have hd := drop_at s k hlt
          have hb8 := s[k].toNat_lt
          go_wp2_with fail
          refine (readHex_any b s[k] line _ hl).mono ?_
          rintro e w2 ⟨rfl, rfl⟩
          cases hv : hexV s[k] with
          | none =>
            have hRn : R = none := by rw [← HK.out, hd, numB, hv]
            simp only [gotN]
            go_wp2
            exact ⟨rfl, by rw [hRn]; rfl, rfl⟩
          | some d =>
            have hd16 := hexV_lt hv
            have HK2 : Hid (numB hexV 16 (s.data.toList.drop (k + 1)) (n * 16 + d) = R) := by
              show _ = _
              rw [← HK.out, hd, numB, hv]
            simp only [gotN]
            have hn2 : n * 16 + d < 16 ^ (k + 1) := by rw [Nat.pow_succ]; omega
            clear HK hd hv
            go_wp2
            go_roundw
            case rel => exact ⟨k + 1, n * 16 + d, by omega, by simp, by simp; try omega, hn2, HK2, by trivial⟩
            case measure => simp only [intOf]; omega
        · have hRs : R = some n := by rw [← HK.out, drop_end s k (by omega)]; rfl
          clear HK
          go_wp2_with fail
          refine (mayStand_any n _).mono ?_
          rintro e w2 ⟨rfl, rfl⟩
          cases hm : mayB (n : Int) with
          | true =>
            go_wp2_with fail
            refine (need_ok _ _ _ _ rfl).mono ?_
            rintro e w2 ⟨rfl, rfl⟩
            go_wp2
            go_ret
            exact ⟨by rw [hRs]; simp [pointE, hm, gotI], rfl⟩
          | false =>
            go_wp2_with fail
            refine (need_no b _ _ line _ rfl hl).mono ?_
            rintro e w2 ⟨rfl, rfl⟩
            go_wp2
            exact ⟨rfl, by rw [hRs]; simp [pointE, hm, gotI], rfl⟩
  · have e1 : pointR s.data.toList = none := by
      unfold pointR
      rw [if_neg (by rw [hsl]; exact hlen)]
    rw [e1]
    have h4' : ((s.size : Int) == 4) = false := by simp; omega
    by_cases h4 : s.size < 4
    · go_enter Tryd.func55, Tryd.ntmps55
      go_wp2_with fail
      refine (need_no b _ _ line _ (by simp; try omega) hl).mono ?_
      rintro e w1 ⟨rfl, rfl⟩
      go_wp2
      exact ⟨rfl, rfl, rfl⟩
    · by_cases h6 : 6 < s.size
      · go_enter Tryd.func55, Tryd.ntmps55
        go_wp2_with fail
        refine (need_no b _ _ line _ (by simp; try omega) hl).mono ?_
        rintro e w1 ⟨rfl, rfl⟩
        go_wp2
        exact ⟨rfl, rfl, rfl⟩
      · have h5 : 4 < s.size := by omega
        have hs6 : s.size ≤ 6 := by omega
        have h0 : s.data.toList.head? = some 48 := by
          by_cases hh : s.data.toList.head? = some 48
          · exact hh
          · exact absurd (Or.inr ⟨h5, hs6, hh⟩) hlen
        have he' : (s[0].toNat : Int) = 48 := by
          rw [head_at s (by omega)] at h0
          simp only [Option.some.injEq] at h0
          rw [h0]; rfl
        have he : ((s[0].toNat : Int) == 48) = true := by simpa using he'
        clear h0 hlen
        go_enter Tryd.func55, Tryd.ntmps55
        go_wp2_with fail
        refine (need_no b _ _ line _ (by simp; try first | omega | exact he') hl).mono ?_
        rintro e w1 ⟨rfl, rfl⟩
        go_wp2
        exact ⟨rfl, rfl, rfl⟩

end Go.Proofs.YtadbkkakjekopaaDoor
