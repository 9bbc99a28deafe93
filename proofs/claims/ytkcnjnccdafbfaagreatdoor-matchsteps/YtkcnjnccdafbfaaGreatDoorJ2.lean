/- Contracts and lemmas (nothing is claimed here). -/
import Derived.Test.YtkcnjnccdafbfaaGreatDoorJ1
import Derived.Test.YtkcnjnccdafbfaaGreatDoorChecked
import Derived.Deep.RegionHeld
import Derived.Defers
import Derived.Recover
import Derived.Maps.AppendAt
import Derived.Maps.OwnSet
import Derived.Maps.Ext
namespace Go.Proofs.YtkcnjnccdafbfaaGreatDoor
open Go.RowKit Go.Vf
abbrev lostV (why line : Int) : Value := .iface 119 (.agg #[.int .i64 why, .int .i64 line])
abbrev lostE (why line : Int) : Ending := .panicked [{ v := lostV why line, recovered := false }]
theorem calls_lost {P : Program} {f : FuncId} {args : Array Value} {w : World} {F : Ending → World → Prop} {e0 : Ending} {R : World → Prop} (v0 : Value) (hc : Calls P f args w fun e w' => e = e0 ∧ R w') (hF : ∀ w', R w' → F e0 w') (_fake : Hid False → F (.returned v0) w) : Calls P f args w F :=
  hc.mono (by rintro e w' ⟨rfl, h⟩; exact hF w' h)
theorem calls_fake {P : Program} {f : FuncId} {args : Array Value} {w : World} {F : Ending → World → Prop} (v0 : Value) (hX : Hid False) (_fake : F (.returned v0) w) : Calls P f args w F := hX.out.elim
theorem need_ok (p : Value) (h : Bool) (why : Int) (w : World) (hh : h = true) :
    Calls Tryz.prog 107 #[p, .bool h, .int .i64 why] w fun e w' => e = .returned (.tuple #[]) ∧ w = w' := by
  subst hh
  go_enter Tryz.func107, Tryz.ntmps107
  go_wp2
  go_end0
  exact ⟨rfl, rfl⟩
theorem need_no (b : Nat) (h : Bool) (why line : Int) (w : World) (hh : h = false) (hl : w.cell? ⟨b, 0, none⟩ = some (.int .i64 line)) :
    Calls Tryz.prog 107 #[.pointer (some ⟨b, 0, none⟩), .bool h, .int .i64 why] w fun e w' => e = lostE why line ∧ w = w' := by
  subst hh
  go_enter Tryz.func107, Tryz.ntmps107
  go_wp2
  exact ⟨rfl, rfl, rfl⟩
def gotN (line : Int) : Option Nat → Ending
  | some n => .returned (.int .i64 (n : Int))
  | none => lostE 40 line
theorem readDecimal_any (b : Nat) (c : UInt8) (line : Int) (w : World) (hl : w.cell? ⟨b, 0, none⟩ = some (.int .i64 line)) :
    Calls Tryz.prog 132 #[.pointer (some ⟨b, 0, none⟩), .int .u8 (c.toNat : Int)] w fun e w' => e = gotN line (decV c) ∧ w = w' := by
  have hc := c.toNat_lt
  by_cases h : 48 ≤ c.toNat ∧ c.toNat ≤ 57
  · obtain ⟨h1, h2⟩ := h
    have e1 : decV c = some (c.toNat - 48) := by simp [decV, h1, h2]
    rw [e1]
    go_enter Tryz.func132, Tryz.ntmps132
    go_wp2_with fail
    refine (need_ok _ _ _ _ (by simp; try omega)).mono ?_
    rintro e w1 ⟨rfl, rfl⟩
    go_wp2
    go_ret
    refine ⟨?_, rfl⟩
    simp [gotN]
    omega
  · have e1 : decV c = none := by simp [decV]; omega
    rw [e1]
    go_enter Tryz.func132, Tryz.ntmps132
    go_wp2_with fail
    all_goals
      refine (need_no b _ _ line _ (by simp; try omega) hl).mono ?_
      rintro e w1 ⟨rfl, rfl⟩
      go_wp2
      exact ⟨rfl, rfl, rfl⟩
theorem readHex_any (b : Nat) (c : UInt8) (line : Int) (w : World) (hl : w.cell? ⟨b, 0, none⟩ = some (.int .i64 line)) :
    Calls Tryz.prog 130 #[.pointer (some ⟨b, 0, none⟩), .int .u8 (c.toNat : Int)] w fun e w' => e = gotN line (hexV c) ∧ w = w' := by
  have hc := c.toNat_lt
  by_cases h : 65 ≤ c.toNat ∧ c.toNat ≤ 70
  · obtain ⟨h1, h2⟩ := h
    have e1 : hexV c = some (c.toNat - 55) := by simp [hexV, h1, h2]
    rw [e1]
    go_enter Tryz.func130, Tryz.ntmps130
    go_wp2
    go_ret
    refine ⟨?_, rfl⟩
    simp [gotN]
    omega
  · have e1 : hexV c = decV c := by
      unfold hexV decV
      rw [if_neg h]
    rw [e1]
    by_cases h1 : c.toNat < 65
    · go_enter Tryz.func130, Tryz.ntmps130
      go_wp2_with fail
      refine (readDecimal_any b c line _ hl).mono ?_
      rintro e w1 ⟨rfl, rfl⟩
      cases hd : decV c with
      | none =>
        simp only [gotN]
        go_wp2
        exact ⟨rfl, by rw [hd]; rfl, rfl⟩
      | some d =>
        simp only [gotN]
        go_wp2
        go_ret
        exact ⟨by rw [hd]; rfl, rfl⟩
    · have h2 : 70 < c.toNat := by omega
      go_enter Tryz.func130, Tryz.ntmps130
      go_wp2_with fail
      refine (readDecimal_any b c line _ hl).mono ?_
      rintro e w1 ⟨rfl, rfl⟩
      cases hd : decV c with
      | none =>
        simp only [gotN]
        go_wp2
        exact ⟨rfl, by rw [hd]; rfl, rfl⟩
      | some d =>
        simp only [gotN]
        go_wp2
        go_ret
        exact ⟨by rw [hd]; rfl, rfl⟩
theorem isSyllable_any (n : Int) (w : World) :
    Calls Tryz.prog 69 #[.int .i64 n] w fun e w' => e = .returned (.bool (isSyl n)) ∧ w = w' := by
  by_cases h1 : 44032 ≤ n
  · by_cases h2 : n ≤ 55203
    · go_enter Tryz.func69, Tryz.ntmps69
      go_wp2
      go_ret
      exact ⟨by simp [isSyl, h1, h2], rfl⟩
    · go_enter Tryz.func69, Tryz.ntmps69
      go_wp2
      go_ret
      exact ⟨by simp [isSyl, h2], rfl⟩
  · go_enter Tryz.func69, Tryz.ntmps69
    go_wp2
    go_ret
    exact ⟨by simp [isSyl]; omega, rfl⟩
theorem mayStand_any (n : Int) (w : World) :
    Calls Tryz.prog 131 #[.int .i64 n] w fun e w' => e = .returned (.bool (mayB n)) ∧ w = w' := by
  by_cases h1 : 0 ≤ n
  · by_cases h2 : n ≤ 1114111
    · by_cases h3 : n < 55296
      · go_enter Tryz.func131, Tryz.ntmps131
        go_wp2_with fail
        refine (isSyllable_any n _).mono ?_
        rintro e w1 ⟨rfl, rfl⟩
        go_wp2
        go_ret
        exact ⟨by simp [mayB, h1, h2, h3], rfl⟩
      · by_cases h4 : 57343 < n
        · go_enter Tryz.func131, Tryz.ntmps131
          go_wp2_with fail
          refine (isSyllable_any n _).mono ?_
          rintro e w1 ⟨rfl, rfl⟩
          go_wp2
          go_ret
          exact ⟨by simp [mayB, h1, h2, h4], rfl⟩
        · go_enter Tryz.func131, Tryz.ntmps131
          go_wp2
          go_ret
          exact ⟨by simp [mayB]; omega, rfl⟩
    · go_enter Tryz.func131, Tryz.ntmps131
      go_wp2
      go_ret
      exact ⟨by simp [mayB]; omega, rfl⟩
  · go_enter Tryz.func131, Tryz.ntmps131
    go_wp2
    go_ret
    exact ⟨by simp [mayB]; omega, rfl⟩
def gotI (line : Int) : Option Int → Ending
  | some n => .returned (.int .i64 n)
  | none => lostE 40 line
theorem drop_at (s : ByteArray) (k : Nat) (hk : k < s.size) : s.data.toList.drop k = s[k] :: s.data.toList.drop (k + 1) := by
  rw [List.drop_eq_getElem_cons (by rw [← Lib.size_eq]; exact hk)]
  rfl
theorem drop_end (s : ByteArray) (k : Nat) (hk : s.size ≤ k) : s.data.toList.drop k = [] := List.drop_of_length_le (by rw [← Lib.size_eq]; exact hk)
theorem head_at (s : ByteArray) (h : 0 < s.size) : s.data.toList.head? = some s[0] := by
  have := drop_at s 0 h
  rw [List.drop_zero] at this
  rw [this]; rfl
def pointE (line : Int) (r : Option Nat) : Ending := gotI line (match r with
  | none => none
  | some n => if mayB (n : Int) then some (n : Int) else none)
theorem hexV_lt {c : UInt8} {d : Nat} (h : hexV c = some d) : d < 16 := by
  unfold hexV at h
  split at h
  · simp at h; omega
  · split at h
    · simp at h; omega
    · cases h
theorem decV_lt {c : UInt8} {d : Nat} (h : decV c = some d) : d < 10 := by
  unfold decV at h
  split at h
  · simp at h; omega
  · cases h
set_option maxHeartbeats 1000000 in
theorem readPoint_any (b : Nat) (s : ByteArray) (line : Int) (w : World) (hs : s.size ≤ 17179869184) (hl : w.cell? ⟨b, 0, none⟩ = some (.int .i64 line)) :
    Calls Tryz.prog 108 #[.pointer (some ⟨b, 0, none⟩), .string s] w fun e w' => e = gotI line (pointR s.data.toList) ∧ w = w' := by
  have hsl : s.data.toList.length = s.size := (Lib.size_eq s).symm
  by_cases hlen : s.size = 4 ∨ (4 < s.size ∧ s.size ≤ 6 ∧ s.data.toList.head? ≠ some 48)
  · have e1 : gotI line (pointR s.data.toList) = pointE line (numB hexV 16 s.data.toList 0) := by
      unfold pointR pointE
      rw [if_pos (by rw [hsl]; exact hlen)]
      rfl
    rw [e1]
    have hs6 : s.size ≤ 6 := by omega
    generalize hR : numB hexV 16 s.data.toList 0 = R
    have HR : Hid (numB hexV 16 s.data.toList 0 = R) := hR
    clear hR e1
    rcases hlen with h4 | ⟨h4, _, h0⟩
    · have h4' : ((s.size : Int) == 4) = true := by simp [h4]
      go_enter Tryz.func108, Tryz.ntmps108
      go_wp2_with fail
      refine (need_ok _ _ _ _ (by simp; try omega)).mono ?_
      rintro e w1 ⟨rfl, rfl⟩
      go_wp2_with fail
      go_loopw [5, 29] (fun x i wr => ∃ k n : Nat, k ≤ s.size ∧ i = .int .i64 k ∧ x = .int .i64 n ∧ n < 16 ^ k ∧ Hid (numB hexV 16 (s.data.toList.drop k) n = R) ∧ w = wr) (fun _ i _ => s.size - (intOf i).toNat)
      case atStart => exact ⟨0, 0, by omega, rfl, rfl, by omega, by simpa using HR, rfl⟩
      case round =>
        obtain ⟨k, n, hk, rfl, rfl, hn, HK, rfl⟩ := hrel
        have hp6 : (16 : Nat) ^ k ≤ 16 ^ 6 := Nat.pow_le_pow_right (by omega) (by omega)
        by_cases hlt : k < s.size
        · have hd := drop_at s k hlt
          have hb8 := s[k].toNat_lt
          go_wp2_with fail
          refine (readHex_any b s[k] line _ hl).mono ?_
          rintro e w2 ⟨rfl, rfl⟩
          cases hv : hexV s[k] with
          | none =>
            have hRn : R = none := by rw [← HK.out, hd, numB, hv]
            simp only [gotN]
            go_wp2
            exact ⟨rfl, by rw [hRn]; rfl, rfl⟩
          | some d =>
            have hd16 := hexV_lt hv
            have HK2 : Hid (numB hexV 16 (s.data.toList.drop (k + 1)) (n * 16 + d) = R) := by
              show _ = _
              rw [← HK.out, hd, numB, hv]
            simp only [gotN]
            have hn2 : n * 16 + d < 16 ^ (k + 1) := by rw [Nat.pow_succ]; omega
            clear HK hd hv
            go_wp2
            go_roundw
            case rel => exact ⟨k + 1, n * 16 + d, by omega, by simp, by simp; try omega, hn2, HK2, by trivial⟩
            case measure => simp only [intOf]; omega
        · have hRs : R = some n := by rw [← HK.out, drop_end s k (by omega)]; rfl
          clear HK
          go_wp2_with fail
          refine (mayStand_any n _).mono ?_
          rintro e w2 ⟨rfl, rfl⟩
          cases hm : mayB (n : Int) with
          | true =>
            go_wp2_with fail
            refine (need_ok _ _ _ _ rfl).mono ?_
            rintro e w2 ⟨rfl, rfl⟩
            go_wp2
            go_ret
            exact ⟨by rw [hRs]; simp [pointE, hm, gotI], rfl⟩
          | false =>
            go_wp2_with fail
            refine (need_no b _ _ line _ rfl hl).mono ?_
            rintro e w2 ⟨rfl, rfl⟩
            go_wp2
            exact ⟨rfl, by rw [hRs]; simp [pointE, hm, gotI], rfl⟩
    · have hne' : ¬ (s[0].toNat : Int) = 48 := by
        rw [head_at s (by omega)] at h0
        simp only [ne_eq, Option.some.injEq] at h0
        intro e
        exact h0 (UInt8.toNat_inj.1 (by have : s[0].toNat = 48 := by omega
                                        simpa using this))
      have hne : ((s[0].toNat : Int) == 48) = false := by simpa using hne'
      have h4' : ((s.size : Int) == 4) = false := by simp; omega
      clear h0
      go_enter Tryz.func108, Tryz.ntmps108
      go_wp2_with fail
      refine (need_ok _ _ _ _ (by simp; try first | omega | exact hne')).mono ?_
      rintro e w1 ⟨rfl, rfl⟩
      go_wp2_with fail
      go_loopw [5, 29] (fun x i wr => ∃ k n : Nat, k ≤ s.size ∧ i = .int .i64 k ∧ x = .int .i64 n ∧ n < 16 ^ k ∧ Hid (numB hexV 16 (s.data.toList.drop k) n = R) ∧ w = wr) (fun _ i _ => s.size - (intOf i).toNat)
      case atStart => exact ⟨0, 0, by omega, rfl, rfl, by omega, by simpa using HR, rfl⟩
      case round =>
        obtain ⟨k, n, hk, rfl, rfl, hn, HK, rfl⟩ := hrel
        have hp6 : (16 : Nat) ^ k ≤ 16 ^ 6 := Nat.pow_le_pow_right (by omega) (by omega)
        by_cases hlt : k < s.size
        · have hd := drop_at s k hlt
          have hb8 := s[k].toNat_lt
          go_wp2_with fail
          refine (readHex_any b s[k] line _ hl).mono ?_
          rintro e w2 ⟨rfl, rfl⟩
          cases hv : hexV s[k] with
          | none =>
            have hRn : R = none := by rw [← HK.out, hd, numB, hv]
            simp only [gotN]
            go_wp2
            exact ⟨rfl, by rw [hRn]; rfl, rfl⟩
          | some d =>
            have hd16 := hexV_lt hv
            have HK2 : Hid (numB hexV 16 (s.data.toList.drop (k + 1)) (n * 16 + d) = R) := by
              show _ = _
              rw [← HK.out, hd, numB, hv]
            simp only [gotN]
            have hn2 : n * 16 + d < 16 ^ (k + 1) := by rw [Nat.pow_succ]; omega
            clear HK hd hv
            go_wp2
            go_roundw
            case rel => exact ⟨k + 1, n * 16 + d, by omega, by simp, by simp; try omega, hn2, HK2, by trivial⟩
            case measure => simp only [intOf]; omega
        · have hRs : R = some n := by rw [← HK.out, drop_end s k (by omega)]; rfl
          clear HK
          go_wp2_with fail
          refine (mayStand_any n _).mono ?_
          rintro e w2 ⟨rfl, rfl⟩
          cases hm : mayB (n : Int) with
          | true =>
            go_wp2_with fail
            refine (need_ok _ _ _ _ rfl).mono ?_
            rintro e w2 ⟨rfl, rfl⟩
            go_wp2
            go_ret
            exact ⟨by rw [hRs]; simp [pointE, hm, gotI], rfl⟩
          | false =>
            go_wp2_with fail
            refine (need_no b _ _ line _ rfl hl).mono ?_
            rintro e w2 ⟨rfl, rfl⟩
            go_wp2
            exact ⟨rfl, by rw [hRs]; simp [pointE, hm, gotI], rfl⟩
  · have e1 : pointR s.data.toList = none := by
      unfold pointR
      rw [if_neg (by rw [hsl]; exact hlen)]
    rw [e1]
    have h4' : ((s.size : Int) == 4) = false := by simp; omega
    by_cases h4 : s.size < 4
    · go_enter Tryz.func108, Tryz.ntmps108
      go_wp2_with fail
      refine (need_no b _ _ line _ (by simp; try omega) hl).mono ?_
      rintro e w1 ⟨rfl, rfl⟩
      go_wp2
      exact ⟨rfl, rfl, rfl⟩
    · by_cases h6 : 6 < s.size
      · go_enter Tryz.func108, Tryz.ntmps108
        go_wp2_with fail
        refine (need_no b _ _ line _ (by simp; try omega) hl).mono ?_
        rintro e w1 ⟨rfl, rfl⟩
        go_wp2
        exact ⟨rfl, rfl, rfl⟩
      · have h5 : 4 < s.size := by omega
        have hs6 : s.size ≤ 6 := by omega
        have h0 : s.data.toList.head? = some 48 := by
          by_cases hh : s.data.toList.head? = some 48
          · exact hh
          · exact absurd (Or.inr ⟨h5, hs6, hh⟩) hlen
        have he' : (s[0].toNat : Int) = 48 := by
          rw [head_at s (by omega)] at h0
          simp only [Option.some.injEq] at h0
          rw [h0]; rfl
        have he : ((s[0].toNat : Int) == 48) = true := by simpa using he'
        clear h0 hlen
        go_enter Tryz.func108, Tryz.ntmps108
        go_wp2_with fail
        refine (need_no b _ _ line _ (by simp; try first | omega | exact he') hl).mono ?_
        rintro e w1 ⟨rfl, rfl⟩
        go_wp2
        exact ⟨rfl, rfl, rfl⟩
def classE (line : Int) (r : Option Nat) : Ending := gotI line (match r with
  | none => none
  | some n => if n ≤ 254 then some (n : Int) else none)
set_option maxHeartbeats 1000000 in
theorem readClass_any (b : Nat) (s : ByteArray) (line : Int) (w : World) (hs : s.size ≤ 17179869184) (hl : w.cell? ⟨b, 0, none⟩ = some (.int .i64 line)) :
    Calls Tryz.prog 109 #[.pointer (some ⟨b, 0, none⟩), .string s] w fun e w' => e = gotI line (classR s.data.toList) ∧ w = w' := by
  have hsl : s.data.toList.length = s.size := (Lib.size_eq s).symm
  by_cases hlen : s.data.toList = [48] ∨ (s.data.toList ≠ [] ∧ s.data.toList.head? ≠ some 48 ∧ s.data.toList.length ≤ 3)
  · have e1 : gotI line (classR s.data.toList) = classE line (numB decV 10 s.data.toList 0) := by
      unfold classR classE
      rw [if_pos hlen]
      rfl
    rw [e1]
    generalize hR : numB decV 10 s.data.toList 0 = R
    have HR : Hid (numB decV 10 s.data.toList 0 = R) := hR
    clear hR e1
    rcases hlen with h0 | ⟨h1, h0, h3⟩
    · have h4' : (s.toList == [48]) = true := by rw [ByteArray.toList_eq]; simp [h0]
      have hs3 : s.size ≤ 3 := by rw [← hsl, h0]; simp
      clear h0
      go_enter Tryz.func109, Tryz.ntmps109
      go_wp2_with fail
      refine (need_ok _ _ _ _ (by simp; try omega)).mono ?_
      rintro e w1 ⟨rfl, rfl⟩
      go_wp2_with fail
      go_loopw [5, 27] (fun x i wr => ∃ k n : Nat, k ≤ s.size ∧ i = .int .i64 k ∧ x = .int .i64 n ∧ n < 10 ^ k ∧ Hid (numB decV 10 (s.data.toList.drop k) n = R) ∧ w = wr) (fun _ i _ => s.size - (intOf i).toNat)
      case atStart => exact ⟨0, 0, by omega, rfl, rfl, by omega, by simpa using HR, rfl⟩
      case round =>
        obtain ⟨k, n, hk, rfl, rfl, hn, HK, rfl⟩ := hrel
        have hp6 : (10 : Nat) ^ k ≤ 10 ^ 3 := Nat.pow_le_pow_right (by omega) (by omega)
        by_cases hlt : k < s.size
        · have hd := drop_at s k hlt
          have hb8 := s[k].toNat_lt
          go_wp2_with fail
          refine (readDecimal_any b s[k] line _ hl).mono ?_
          rintro e w2 ⟨rfl, rfl⟩
          cases hv : decV s[k] with
          | none =>
            have hRn : R = none := by rw [← HK.out, hd, numB, hv]
            simp only [gotN]
            go_wp2
            exact ⟨rfl, by rw [hRn]; rfl, rfl⟩
          | some d =>
            have hd16 := decV_lt hv
            have HK2 : Hid (numB decV 10 (s.data.toList.drop (k + 1)) (n * 10 + d) = R) := by
              show _ = _
              rw [← HK.out, hd, numB, hv]
            simp only [gotN]
            have hn2 : n * 10 + d < 10 ^ (k + 1) := by rw [Nat.pow_succ]; omega
            clear HK hd hv
            go_wp2
            go_roundw
            case rel => exact ⟨k + 1, n * 10 + d, by omega, by simp, by simp; try omega, hn2, HK2, by trivial⟩
            case measure => simp only [intOf]; omega
        · have hRs : R = some n := by rw [← HK.out, drop_end s k (by omega)]; rfl
          clear HK
          by_cases hm : n ≤ 254
          · go_wp2_with fail
            refine (need_ok _ _ _ _ (by simp; try omega)).mono ?_
            rintro e w2 ⟨rfl, rfl⟩
            go_wp2
            go_ret
            exact ⟨by rw [hRs]; simp [classE, hm, gotI], rfl⟩
          · go_wp2_with fail
            refine (need_no b _ _ line _ (by simp; try omega) hl).mono ?_
            rintro e w2 ⟨rfl, rfl⟩
            go_wp2
            exact ⟨rfl, by rw [hRs]; simp [classE, hm, gotI], rfl⟩
    · have hpos : 0 < s.size := by
        rw [← hsl]
        exact List.length_pos_iff.2 h1
      have hs3 : s.size ≤ 3 := by omega
      have hne' : ¬ (s[0].toNat : Int) = 48 := by
        rw [head_at s hpos] at h0
        simp only [ne_eq, Option.some.injEq] at h0
        intro e
        exact h0 (UInt8.toNat_inj.1 (by have : s[0].toNat = 48 := by omega
                                        simpa using this))
      have hne : ((s[0].toNat : Int) == 48) = false := by simpa using hne'
      have h4' : (s.toList == [48]) = false := by
        rw [ByteArray.toList_eq]
        simp only [beq_eq_false_iff_ne, ne_eq]
        intro e
        rw [e] at h0
        simp at h0
      have hemp : s.toList.isEmpty = false := by rw [ByteArray.toList_eq]; simpa using h1
      clear h0 h1
      go_enter Tryz.func109, Tryz.ntmps109
      go_wp2_with fail
      refine (need_ok _ _ _ _ (by simp; try first | omega | exact hne')).mono ?_
      rintro e w1 ⟨rfl, rfl⟩
      go_wp2_with fail
      go_loopw [5, 27] (fun x i wr => ∃ k n : Nat, k ≤ s.size ∧ i = .int .i64 k ∧ x = .int .i64 n ∧ n < 10 ^ k ∧ Hid (numB decV 10 (s.data.toList.drop k) n = R) ∧ w = wr) (fun _ i _ => s.size - (intOf i).toNat)
      case atStart => exact ⟨0, 0, by omega, rfl, rfl, by omega, by simpa using HR, rfl⟩
      case round =>
        obtain ⟨k, n, hk, rfl, rfl, hn, HK, rfl⟩ := hrel
        have hp6 : (10 : Nat) ^ k ≤ 10 ^ 3 := Nat.pow_le_pow_right (by omega) (by omega)
        by_cases hlt : k < s.size
        · have hd := drop_at s k hlt
          have hb8 := s[k].toNat_lt
          go_wp2_with fail
          refine (readDecimal_any b s[k] line _ hl).mono ?_
          rintro e w2 ⟨rfl, rfl⟩
          cases hv : decV s[k] with
          | none =>
            have hRn : R = none := by rw [← HK.out, hd, numB, hv]
            simp only [gotN]
            go_wp2
            exact ⟨rfl, by rw [hRn]; rfl, rfl⟩
          | some d =>
            have hd16 := decV_lt hv
            have HK2 : Hid (numB decV 10 (s.data.toList.drop (k + 1)) (n * 10 + d) = R) := by
              show _ = _
              rw [← HK.out, hd, numB, hv]
            simp only [gotN]
            have hn2 : n * 10 + d < 10 ^ (k + 1) := by rw [Nat.pow_succ]; omega
            clear HK hd hv
            go_wp2
            go_roundw
            case rel => exact ⟨k + 1, n * 10 + d, by omega, by simp, by simp; try omega, hn2, HK2, by trivial⟩
            case measure => simp only [intOf]; omega
        · have hRs : R = some n := by rw [← HK.out, drop_end s k (by omega)]; rfl
          clear HK
          by_cases hm : n ≤ 254
          · go_wp2_with fail
            refine (need_ok _ _ _ _ (by simp; try omega)).mono ?_
            rintro e w2 ⟨rfl, rfl⟩
            go_wp2
            go_ret
            exact ⟨by rw [hRs]; simp [classE, hm, gotI], rfl⟩
          · go_wp2_with fail
            refine (need_no b _ _ line _ (by simp; try omega) hl).mono ?_
            rintro e w2 ⟨rfl, rfl⟩
            go_wp2
            exact ⟨rfl, by rw [hRs]; simp [classE, hm, gotI], rfl⟩
  · have e1 : classR s.data.toList = none := by
      unfold classR
      rw [if_neg hlen]
    rw [e1]
    have h4' : (s.toList == [48]) = false := by
      rw [ByteArray.toList_eq]
      simp only [beq_eq_false_iff_ne, ne_eq]
      exact fun e => hlen (Or.inl e)
    by_cases hemp : s.data.toList = []
    · have hemp' : s.toList.isEmpty = true := by rw [ByteArray.toList_eq]; simpa using hemp
      clear hlen
      go_enter Tryz.func109, Tryz.ntmps109
      go_wp2_with fail
      refine (need_no b _ _ line _ (by simp; try omega) hl).mono ?_
      rintro e w1 ⟨rfl, rfl⟩
      go_wp2
      exact ⟨rfl, rfl, rfl⟩
    · have hemp' : s.toList.isEmpty = false := by rw [ByteArray.toList_eq]; simpa using hemp
      have hpos : 0 < s.size := by
        rw [← hsl]
        exact List.length_pos_iff.2 hemp
      by_cases h0 : s[0] = 48
      · have he' : (s[0].toNat : Int) = 48 := by rw [h0]; rfl
        have he : ((s[0].toNat : Int) == 48) = true := by simpa using he'
        clear h0 hlen hemp
        go_enter Tryz.func109, Tryz.ntmps109
        go_wp2_with fail
        refine (need_no b _ _ line _ (by simp; try first | omega | exact he') hl).mono ?_
        rintro e w1 ⟨rfl, rfl⟩
        go_wp2
        exact ⟨rfl, rfl, rfl⟩
      · have hne' : ¬ (s[0].toNat : Int) = 48 := by
          intro e
          exact h0 (UInt8.toNat_inj.1 (by have : s[0].toNat = 48 := by omega
                                          simpa using this))
        have hne : ((s[0].toNat : Int) == 48) = false := by simpa using hne'
        have h3 : 3 < s.size := by
          by_cases h3 : 3 < s.size
          · exact h3
          · refine absurd (Or.inr ⟨hemp, ?_, by omega⟩) hlen
            rw [head_at s hpos]
            simpa using h0
        clear h0 hlen hemp
        go_enter Tryz.func109, Tryz.ntmps109
        go_wp2_with fail
        refine (need_no b _ _ line _ (by simp; try first | omega | exact he') hl).mono ?_
        rintro e w1 ⟨rfl, rfl⟩
        go_wp2
        exact ⟨rfl, rfl, rfl⟩
end Go.Proofs.YtkcnjnccdafbfaaGreatDoor
namespace Go.Proofs.YtkcnjnccdafbfaaGreatDoor
open Go.RowKit Go.Vf Go.Maps
theorem info3 : (Tryz.prog.info? 3).map (fun i => (i.zero, i.size, i.bytes)) = some (some (.int .i64 0), 1, 8) := by kernel_rfl
def IOwn (w : World) (base : Nat) (v : Value) (zs : List Int) : Prop := w.ownsRow base 3 1 v zs.length (zs.map (Value.int .i64))
theorem ownsRow_mono {w : World} {b b' : Nat} {e : TypeId} {size : Nat} {v : Value} {k : Nat} {xs : List Value} (h : w.ownsRow b e size v k xs) (hb : b' ≤ b) : w.ownsRow b' e size v k xs := by
  obtain ⟨h1, h2⟩ := h
  refine ⟨h1, ?_⟩
  rcases h2 with h2 | ⟨g, cap, cur, e1, e2, e3⟩
  · exact .inl h2
  · exact .inr ⟨g, cap, cur, e1, Nat.le_trans hb e2, e3⟩
theorem IOwn.mono {w : World} {b b' : Nat} {v : Value} {zs : List Int} (h : IOwn w b v zs) (hb : b' ≤ b) : IOwn w b' v zs := ownsRow_mono h hb
theorem IOwn.nil (w : World) (base : Nat) : IOwn w base (.slice none 0 0) [] := World.ownsRow_nil _ _ _ _
theorem own_ge {w : World} {base : Nat} {e : TypeId} {size : Nat} {v : Value} {k : Nat} {xs : List Value} (h : w.ownsRow base e size v k xs) {j : Nat} (hj : v.ownBlock = some j) : base ≤ j ∧ ∃ cs f, w.heap[j]? = some (.cells cs e f) := by
  rcases h.2 with ⟨rfl, _⟩ | ⟨g, cap, cur, rfl, hb, hgb, _⟩
  · simp [Value.ownBlock] at hj
  · obtain rfl : g = j := by simpa [Value.ownBlock] using hj
    exact ⟨hb, _, _, hgb⟩
def Ints (n₀ : Nat) (W : World) (v : Value) (zs : List Int) : Prop :=
  (∃ a cap, v = .slice a 0 cap ∧ zs = []) ∨ ∃ b off cap, v = .slice (some ⟨b, off, none⟩) zs.length cap ∧ b < n₀ ∧ ∀ j, j < zs.length → W.cell? ⟨b, off + j, none⟩ = some (.int .i64 (zs[j]?.getD 0))
theorem Ints.below {n₀ n : Nat} {A B : World} (h : Below n A B) (hn : n₀ ≤ n) {v : Value} {zs : List Int} : Ints n₀ A v zs → Ints n₀ B v zs
  | .inl e => .inl e
  | .inr ⟨b, off, cap, e, hb, hc⟩ => .inr ⟨b, off, cap, e, hb, fun j hj => (h.cell (p := ⟨b, off + j, none⟩) (show b < n by omega)).trans (hc j hj)⟩
theorem Ints.mono {n₀ n : Nat} {A : World} (hn : n₀ ≤ n) {v : Value} {zs : List Int} : Ints n₀ A v zs → Ints n A v zs
  | .inl e => .inl e
  | .inr ⟨b, off, cap, e, hb, hc⟩ => .inr ⟨b, off, cap, e, Nat.lt_of_lt_of_le hb hn, hc⟩
theorem IOwn.form {w : World} {base : Nat} {v : Value} {zs : List Int} (h : IOwn w base v zs) :
    (v = .slice none 0 0 ∧ zs = []) ∨ ∃ g cap, v = .slice (some ⟨g, 0, none⟩) zs.length cap ∧ base ≤ g ∧ g < w.heap.size ∧ zs.length ≤ cap ∧ (∀ j, j < zs.length → w.cell? ⟨g, j, none⟩ = some (.int .i64 (zs[j]?.getD 0))) ∧ (∀ j, w.frozen? ⟨g, j, none⟩ = false) := by
  obtain ⟨h1, h2⟩ := h
  rcases h2 with ⟨rfl, hn⟩ | ⟨g, cap, cur, rfl, hb, hh, hc1, hc2, hc3, hc4⟩
  · exact .inl ⟨rfl, List.eq_nil_of_length_eq_zero hn⟩
  · refine .inr ⟨g, cap, rfl, hb, (Array.getElem?_eq_some_iff.1 hh).1, hc1, fun j hj => ?_, fun j => ?_⟩
    · have hx : (zs.map (Value.int .i64))[j]? = some (.int .i64 (zs[j]?.getD 0)) := by simp [hj]
      rw [← hc4, List.getElem?_take_of_lt (by omega)] at hx
      simp only [World.cell?, hh]
      simpa using hx
    · simp [World.frozen?, hh]
theorem IOwn.ints {w : World} {base : Nat} {v : Value} {zs : List Int} (h : IOwn w base v zs) : Ints w.heap.size w v zs := by
  rcases h.form with h | ⟨g, cap, rfl, hb, hlt, _, hc, _⟩
  · exact .inl ⟨none, 0, h⟩
  · exact .inr ⟨g, 0, cap, rfl, hlt, fun j hj => by rw [Nat.zero_add]; exact hc j hj⟩
theorem IOwn.val {w : World} {base : Nat} {v : Value} {zs : List Int} (h : IOwn w base v zs) : ∃ a cap, v = .slice a zs.length cap := by
  rcases h.form with ⟨rfl, rfl⟩ | ⟨g, cap, rfl, _⟩
  · exact ⟨_, _, rfl⟩
  · exact ⟨_, _, rfl⟩
theorem grown_of_below {w w' : World} (h : Below w.heap.size w w') : w.grownBy w' none := ⟨h.os, h.tape, h.output, h.size, fun k hk _ => h.block k hk⟩
theorem own_after {w w' : World} {base : Nat} {e : TypeId} {size : Nat} {v : Value} {k : Nat} {xs : List Value} (h : w.ownsRow base e size v k xs) (hb : Below w.heap.size w w') : w'.ownsRow base e size v k xs := by
  refine World.ownsRow.kept h (grown_of_below hb) ?_
  cases v.ownBlock with
  | none => exact .inl rfl
  | some j => exact .inr (fun e => by cases e)
theorem wpList_append_ints {w : World} {ops : Array Oper} {rest : List Oper} {o : Oper} {a : Act} {Q : Exit → Act → World → Prop} (hgd : o.guard = none) (s x : Operand)
    (ho : o.op = .call { callee := .builtin .append, args := #[s, x], argTypes := #[24, 24] })
    (base : Nat) (v : Value) (zs : List Int) (hs : a.eval s = v) (hown : IOwn w base v zs) (ys : List Int) (ad : Addr) (c : Nat) (hx : a.eval x = .slice (some ad) ys.length c)
    (hcell : ∀ j, j < ys.length → w.cell? (ad.add j) = some (.int .i64 (ys[j]?.getD 0))) (hlen : zs.length + ys.length ≤ 1099511627776) (hbase : base ≤ w.heap.size)
    (h : ∀ a' c' w', IOwn w' base (.slice a' (zs.length + ys.length) c') (zs ++ ys) → w.grownBy w' v.ownBlock → ((.slice a' (zs.length + ys.length) c' : Value) = .slice none 0 0 ↔ v = .slice none 0 0 ∧ ys.length = 0) → ((Value.slice a' (zs.length + ys.length) c').ownBlock = v.ownBlock ∨ (Value.slice a' (zs.length + ys.length) c').ownBlock = some w.heap.size) → wpList Tryz.prog ops Q rest (a.put o.dst (.slice a' (zs.length + ys.length) c')) w') :
    wpList Tryz.prog ops Q (o :: rest) a w := by
  obtain ⟨i, hi, hz, hsz, hby⟩ := info_parts info3
  refine wpList_append_own_at (P := Tryz.prog) _ hgd s x 24 ho base 3 i (.int .i64 0) 1 8 Tryz.underlying24 hi hz hsz hby rfl (by decide) v zs.length (zs.map (Value.int .i64)) hs hown ad ys.length c (ys.map (Value.int .i64)) hx (by simp) ?_ ?_ ?_ ?_ hbase ?_
  · intro j u hu
    have hj : j < ys.length := by have := (List.getElem?_eq_some_iff.1 hu).1; simpa using this
    rw [hcell j hj]
    simp [List.getElem?_map, List.getElem?_eq_getElem hj] at hu
    simp [List.getElem?_eq_getElem hj, hu]
  · intro u hu
    obtain ⟨y, _, rfl⟩ := List.mem_map.1 hu
    rfl
  · unfold maxLen; omega
  · omega
  · intro v' w' h1 h2 h3 hat
    have h4 : IOwn w' base v' (zs ++ ys) := by
      unfold IOwn
      rw [List.map_append, List.length_append]
      exact h1
    obtain ⟨a', c', hv⟩ := h4.val
    rw [List.length_append] at hv
    subst hv
    exact h a' c' w' h4 h2 h3 hat
def Blk (W : World) (B : Nat) (t : TypeId) (cs : Array Value) : Prop := W.heap[B]? = some (.cells cs t (0, 0))
theorem Blk.lt {W : World} {B : Nat} {t : TypeId} {cs : Array Value} (h : Blk W B t cs) : B < W.heap.size := (Array.getElem?_eq_some_iff.1 h).1
theorem Blk.cell {W : World} {B : Nat} {t : TypeId} {cs : Array Value} (h : Blk W B t cs) (j : Nat) : W.cell? ⟨B, j, none⟩ = cs[j]? := by simp [World.cell?, show W.heap[B]? = _ from h]
theorem Blk.frozen {W : World} {B : Nat} {t : TypeId} {cs : Array Value} (h : Blk W B t cs) (j : Nat) : W.frozen? ⟨B, j, none⟩ = false := by simp [World.frozen?, show W.heap[B]? = _ from h]
theorem Blk.new (W : World) (t : TypeId) (cs : Array Value) : Blk (W.alloc (.cells cs t)) W.heap.size t cs := heap_alloc_new W _
theorem Blk.below {W W' : World} {B n : Nat} {t : TypeId} {cs : Array Value} (h : Blk W B t cs) (hb : Below n W W') (hB : B < n) : Blk W' B t cs := (hb.block B hB).trans h
theorem Blk.set {W : World} {B : Nat} {t : TypeId} {cs : Array Value} (j : Nat) (v : Value) (h : Blk W B t cs) : Blk (W.setCell ⟨B, j, none⟩ v) B t (cs.setIfInBounds j v) := by
  obtain ⟨hlt, hk⟩ := Array.getElem?_eq_some_iff.1 h
  show (W.heap.modify B _)[B]? = _
  rw [Array.getElem?_eq_getElem (by rw [Array.size_modify]; exact hlt), Array.getElem_modify_self, hk]
  rfl
theorem Blk.set3 {W : World} {B : Nat} {t : TypeId} {a b c : Value} (h : Blk W B t #[a, b, c]) (a' b' c' : Value) : Blk (((W.setCell ⟨B, 0, none⟩ a').setCell ⟨B, 1, none⟩ b').setCell ⟨B, 2, none⟩ c') B t #[a', b', c'] := by
  have := ((h.set 0 a').set 1 b').set 2 c'
  simpa using this
def tokR (v : Value) : Option (DataW Value × List MemPlace) := some (.held v, [])
def InI (x : Int) : Prop := -9223372036854775808 ≤ x ∧ x ≤ 9223372036854775807
theorem keyed3 : Keyed Tryz.prog 3 := int_keyed Tryz.underlying3
theorem key3 {x : Int} (h : InI x) : keyOf Tryz.prog 3 (.int .i64 x) = some (.int .i64 x) := keyOf_int_mk Tryz.underlying3 (by obtain ⟨h1, h2⟩ := h; exact WalkArith.wf_i64 (by omega))
def MapAt (w : World) (b n : Nat) (f : Int → Option Value) : Prop :=
  ∃ D : DataW Value, w.ownsMap Tryz.prog 3 tokR b n D ∧ ∀ x, InI x → Maps.has D (.int .i64 x) = (f x).isSome ∧ ∀ z, D.atKey (.int .i64 x) (.held z) = .held ((f x).getD z)
def updO (f : Int → Option Value) (x : Int) (v : Value) : Int → Option Value := fun y => if y = x then some v else f y
section
variable {w : World} {b n : Nat} {f : Int → Option Value}
theorem MapAt.made (w : World) : MapAt (w.alloc (.map #[] 0)) w.heap.size 0 (fun _ => none) := ⟨_, World.ownsMap_made w _ _ _, fun _ _ => ⟨rfl, fun _ => rfl⟩⟩
theorem MapAt.lt (h : MapAt w b n f) : b < w.heap.size := let ⟨_, h, _⟩ := h; h.lt
theorem MapAt.kept {w' : World} {row : Option Nat} (h : MapAt w b n f) (hg : w.grownBy w' row) (hne : some b ≠ row) : MapAt w' b n f := let ⟨D, h, h2⟩ := h; ⟨D, h.kept hg hne, h2⟩
theorem MapAt.block {w' : World} (h : MapAt w b n f) (hg : w'.heap[b]? = w.heap[b]?) : MapAt w' b n f := by
  obtain ⟨D, ⟨es, clock, hb, F, hs, hD⟩, h2⟩ := h
  exact ⟨D, ⟨es, clock, hg.trans hb, F, hs, hD⟩, h2⟩
theorem MapAt.below {w' : World} {B : Nat} (h : MapAt w b n f) (hg : Below B w w') (hb : b < B) : MapAt w' b n f := h.block (hg.block b hb)
theorem MapAt.alloc (h : MapAt w b n f) (o : Obj) : MapAt (w.alloc o) b n f := let ⟨D, h, h2⟩ := h; ⟨D, h.alloc o, h2⟩
theorem MapAt.drew (h : MapAt w b n f) : MapAt w.drew b n f := let ⟨D, h, h2⟩ := h; ⟨D, h.drew, h2⟩
theorem MapAt.mono (h : MapAt w b n f) {n' : Nat} (hn : n ≤ n') : MapAt w b n' f := let ⟨D, h, h2⟩ := h; ⟨D, h.mono hn, h2⟩
theorem MapAt.setCell (h : MapAt w b n f) {a : Addr} (ha : b ≠ a.block) (u : Value) : MapAt (w.setCell a u) b n f := let ⟨D, h, h2⟩ := h; ⟨D, h.setCell ha u, h2⟩
theorem MapAt.look (h : MapAt w b n f) {t e : TypeId} (ht : Tryz.prog.underlying t = some (.map 3 e)) {z : Value} (hz : (zeroValue e).run Tryz.prog w = .ok z w) {k : Int} (hk : InI k) :
    (Instr.lookup t (.map (some b)) (.int .i64 k) false).run Tryz.prog w = .ok ((f k).getD z) w := by
  obtain ⟨D, hown, h2⟩ := h
  obtain ⟨v, ps, hrun, hv⟩ := hown.lookup keyed3 ht hz (zd := .held z) (zp := []) rfl (key3 hk)
  rw [(h2 k hk).2 z] at hv
  simp only [tokR, Option.some.injEq, Prod.mk.injEq, DataW.held.injEq] at hv
  rw [hrun, hv.1]
theorem MapAt.look_ok (h : MapAt w b n f) {t e : TypeId} (ht : Tryz.prog.underlying t = some (.map 3 e)) {z : Value} (hz : (zeroValue e).run Tryz.prog w = .ok z w) {k : Int} (hk : InI k) :
    (Instr.lookup t (.map (some b)) (.int .i64 k) true).run Tryz.prog w = .ok (.tuple #[(f k).getD z, .bool (f k).isSome]) w := by
  obtain ⟨D, hown, h2⟩ := h
  obtain ⟨v, ps, hrun, hv⟩ := hown.look_ok keyed3 ht hz (zd := .held z) (zp := []) rfl (key3 hk)
  rw [(h2 k hk).2 z] at hv
  simp only [tokR, Option.some.injEq, Prod.mk.injEq, DataW.held.injEq] at hv
  rw [hrun, hv.1, (h2 k hk).1]
theorem MapAt.update (h : MapAt w b n f) {t e : TypeId} (ht : Tryz.prog.underlying t = some (.map 3 e)) (hn : n < maxLen) {k : Int} (hk : InI k) (v : Value) :
    ∃ w', (Instr.mapUpdate t (.map (some b)) (.int .i64 k) v).run Tryz.prog w = .ok () w' ∧ MapAt w' b (n + 1) (updO f k v) ∧ w.grownBy w' (some b) ∧ w'.heap.size = w.heap.size := by
  obtain ⟨D, hown, h2⟩ := h
  have him := hown.isMap
  obtain ⟨w', hrun, hown', hturn⟩ := hown.store keyed3 ht hn (key3 hk) (d := .held v) (ps := []) (val := v) rfl
  refine ⟨w', hrun, ⟨_, hown', fun x hx => ?_⟩, hturn.grown, ?_⟩
  · by_cases e : x = k
    · subst e
      refine ⟨?_, fun z => ?_⟩
      · rw [Maps.has_put_same him (show WideAt.IsKeyLit (.int .i64 x) from trivial)]; simp [updO]
      · rw [Maps.atKey_put_same him (show WideAt.IsKeyLit (.int .i64 x) from trivial)]; simp [updO]
    · have hne : (Lit.int .i64 x) ≠ .int .i64 k := fun e' => e (by cases e'; rfl)
      refine ⟨?_, fun z => ?_⟩
      · rw [Maps.has_put_other hne, (h2 x hx).1]; simp [updO, e]
      · rw [Maps.atKey_put_other hne, (h2 x hx).2]; simp [updO, e]
  · obtain ⟨es, clock, es', clock', _, e⟩ := hturn
    rw [e]; simp [ChangeMaps.setBlock]
end
end Go.Proofs.YtkcnjnccdafbfaaGreatDoor
