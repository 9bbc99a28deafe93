/- What dovetailref04.IsPoint, Syllable, Digits and Ten do (contracts; nothing is claimed here). -/
import Derived.Test.YtadbkkakjekopaaDoorRefB
namespace Go.Proofs.YtadbkkakjekopaaDoor
open Go.RowKit Go.Vf Go.Maps

def isPt (n : Int) : Bool := decide (0 ≤ n) && decide (n ≤ 1114111) && (decide (n < 55296) || decide (57343 < n))
theorem mayB_eq (n : Int) : mayB n = (isPt n && !isSyl n) := rfl
theorem syllable_any (n : Int) (w : World) : Calls Tryd.prog 49 #[.int .i64 n] w fun e w' => e = .returned (.bool (isSyl n)) ∧ w = w' := by
  by_cases h1 : 44032 ≤ n
  · by_cases h2 : n ≤ 55203
    · go_enter Tryd.func49, Tryd.ntmps49
      go_wp2
      go_ret
      exact ⟨by simp [isSyl, h1, h2], rfl⟩
    · go_enter Tryd.func49, Tryd.ntmps49
      go_wp2
      go_ret
      exact ⟨by simp [isSyl, h2], rfl⟩
  · go_enter Tryd.func49, Tryd.ntmps49
    go_wp2
    go_ret
    exact ⟨by simp [isSyl]; omega, rfl⟩
theorem isPoint_any (n : Int) (w : World) : Calls Tryd.prog 61 #[.int .i64 n] w fun e w' => e = .returned (.bool (isPt n)) ∧ w = w' := by
  by_cases h1 : 0 ≤ n
  · by_cases h2 : n ≤ 1114111
    · by_cases h3 : n < 55296
      · go_enter Tryd.func61, Tryd.ntmps61
        go_wp2
        go_ret
        exact ⟨by simp [isPt, h1, h2, h3], rfl⟩
      · by_cases h4 : 57343 < n
        · go_enter Tryd.func61, Tryd.ntmps61
          go_wp2
          go_ret
          exact ⟨by simp [isPt, h1, h2, h4], rfl⟩
        · go_enter Tryd.func61, Tryd.ntmps61
          go_wp2
          go_ret
          exact ⟨by simp [isPt]; omega, rfl⟩
    · go_enter Tryd.func61, Tryd.ntmps61
      go_wp2
      go_ret
      exact ⟨by simp [isPt]; omega, rfl⟩
  · go_enter Tryd.func61, Tryd.ntmps61
    go_wp2
    go_ret
    exact ⟨by simp [isPt]; omega, rfl⟩

def strLen : Value → Nat
  | .string b => b.size
  | _ => 0
theorem signs_at : ∀ d, d < 16 → (⟨#[48, 49, 50, 51, 52, 53, 54, 55, 56, 57, 65, 66, 67, 68, 69, 70]⟩ : ByteArray).extract d (d + 1) = bsz [upDig d] := by decide
theorem padHex_cons : ∀ (k n : Nat), padHex (k + 1) n = upDig (n / 16 ^ k % 16) :: padHex k n := by
  intro k
  induction k with
  | zero => intro n; simp [padHex]
  | succ k ih =>
    intro n
    rw [padHex, ih, Nat.div_div_eq_div_mul, Nat.pow_succ, Nat.mul_comm 16]
    rfl
theorem bsz_append (a b : List UInt8) : bsz a ++ bsz b = bsz (a ++ b) := by
  apply ByteArray.ext
  simp
theorem bsz_size (l : List UInt8) : (bsz l).size = l.length := by simp [ByteArray.size]
theorem pointS_of {u j : Nat} (h4 : 4 ≤ j) (h0 : u / 16 ^ j = 0) (hj : j ≤ 4 ∨ 16 ^ (j - 1) ≤ u) : padHex j u = pointS u := by
  have hp : 0 < 16 ^ j := Nat.pow_pos (by omega)
  have hlt : u < 16 ^ j := by
    rcases Nat.lt_or_ge u (16 ^ j) with h | h
    · exact h
    · have := (Nat.le_div_iff_mul_le hp).2 (by omega : 1 * 16 ^ j ≤ u); omega
  have h1 := upHex_len u j hlt (by omega)
  rw [pointS_pad]
  congr 1
  rcases hj with hj | hj
  · omega
  · by_cases h5 : j = 4
    · omega
    · have : ¬ (upHex u).length ≤ j - 1 := fun h => by have := upHex_lt u _ h; omega
      omega

theorem digits_step {u n : Nat} {sb : ByteArray} (hu : u < 16 ^ 6) (h : sb = bsz (padHex sb.size u) ∧ n = u / 16 ^ sb.size ∧ (sb.size ≤ 4 ∨ 16 ^ (sb.size - 1) ≤ u)) (hc : sb.size < 4 ∨ 0 < n) :
    (bsz [upDig (n % 16)] ++ sb).size = sb.size + 1 ∧ sb.size + 1 ≤ 6 ∧ ((bsz [upDig (n % 16)] ++ sb) = bsz (padHex (bsz [upDig (n % 16)] ++ sb).size u) ∧ n / 16 = u / 16 ^ (bsz [upDig (n % 16)] ++ sb).size ∧ ((bsz [upDig (n % 16)] ++ sb).size ≤ 4 ∨ 16 ^ ((bsz [upDig (n % 16)] ++ sb).size - 1) ≤ u)) := by
  obtain ⟨h1, h2, h3⟩ := h
  have hge : 0 < n → 16 ^ sb.size ≤ u := fun h0 => by
    rcases Nat.lt_or_ge u (16 ^ sb.size) with hl | hl
    · rw [Nat.div_eq_of_lt hl] at h2; omega
    · exact hl
  have e : bsz [upDig (n % 16)] ++ sb = bsz (padHex (sb.size + 1) u) := by
    rw [padHex_cons, ← h2]
    conv => lhs; rw [h1]
    rw [bsz_append]
    rfl
  have es : (bsz [upDig (n % 16)] ++ sb).size = sb.size + 1 := by rw [e, bsz_size, padHex_len]
  rw [es]
  refine ⟨rfl, ?_, e, ?_, ?_⟩
  · rcases hc with hc | hc
    · omega
    · have h5 := hge hc
      rcases Nat.lt_or_ge sb.size 6 with hl | hl
      · omega
      · have := Nat.pow_le_pow_right (show 0 < 16 by omega) hl; omega
  · rw [h2, Nat.div_div_eq_div_mul, Nat.pow_succ]
  · rcases hc with hc | hc
    · exact .inl (by omega)
    · exact .inr (by rw [Nat.add_sub_cancel]; exact hge hc)

set_option maxHeartbeats 1000000 in
theorem digits_any (u : Nat) (hu : u < 16 ^ 6) (w : World) : Calls Tryd.prog 75 #[.int .i64 (u : Int)] w fun e w' => e = .returned (.string (bsz (pointS u))) ∧ w = w' := by
  have HU : Hid (u < 16 ^ 6) := hu
  have hu' : u < 16777216 := hu
  clear hu
  go_enter Tryd.func75, Tryd.ntmps75
  go_wp2_with fail
  go_loopw [0, 3] (fun x v wr => ∃ (n : Nat) (sb : ByteArray), x = .int .i64 (n : Int) ∧ v = .string sb ∧ sb.size ≤ 6 ∧ n < 16777216 ∧ Hid (sb = bsz (padHex sb.size u) ∧ n = u / 16 ^ sb.size ∧ (sb.size ≤ 4 ∨ 16 ^ (sb.size - 1) ≤ u)) ∧ wr = w) (fun _ v _ => 7 - strLen v)
  case atStart => exact ⟨u, ⟨#[]⟩, rfl, rfl, by decide, hu', ⟨rfl, by simp [ByteArray.size], .inl (by decide)⟩, rfl⟩
  case round =>
    obtain ⟨n, sb, rfl, rfl, hs6, hn, HS, rfl⟩ := hrel
    have hd := signs_at (n % 16) (by omega)
    by_cases h4 : sb.size < 4
    · go_wp2_with fail
      obtain ⟨q1, q2, q3⟩ := digits_step HU.out HS.out (.inl h4)
      exact ⟨⟨n / 16, _, by simp, rfl, by omega, by omega, q3, trivial⟩, by simp only [strLen]; omega⟩
    · by_cases h0 : n = 0
      · subst h0
        go_wp2_with fail
        go_ret
        have hS := HS.out
        have e : bsz (pointS u) = sb := by
          conv => rhs; rw [hS.1]
          rw [pointS_of (by omega) hS.2.1.symm hS.2.2]
        exact ⟨by rw [e]; rfl, rfl⟩
      · have h0' : 0 < n := by omega
        go_wp2_with fail
        obtain ⟨q1, q2, q3⟩ := digits_step HU.out HS.out (.inr h0')
        exact ⟨⟨n / 16, _, by simp, rfl, by omega, by omega, q3, trivial⟩, by simp only [strLen]; omega⟩

/-! ### in tens -/
def decDig (d : Nat) : UInt8 := UInt8.ofNat (48 + d)
def padDec : Nat → Nat → List UInt8
  | 0, _ => []
  | k + 1, n => decDig (n / 10 ^ k % 10) :: padDec k n
theorem padDec_len : ∀ (k n : Nat), (padDec k n).length = k := by
  intro k
  induction k with
  | zero => intro n; rfl
  | succ k ih => intro n; simp [padDec, ih]
theorem itoa_of {c j : Nat} (hc : c ≤ 254) (h1 : 1 ≤ j) (h0 : c / 10 ^ j = 0) (hj : j ≤ 1 ∨ 10 ^ (j - 1) ≤ c) : padDec j c = Lib.itoa (c : Int) := by
  have h3 : j ≤ 3 := by
    rcases hj with h | h
    · omega
    · rcases Nat.lt_or_ge j 4 with hl | hl
      · omega
      · have := Nat.pow_le_pow_right (show 0 < 10 by omega) (show 3 ≤ j - 1 by omega); omega
  rw [itoa_eq hc]
  unfold itoaS
  have hj' : j = 1 ∨ j = 2 ∨ j = 3 := by omega
  rcases hj' with rfl | rfl | rfl
  · have : c < 10 := by simp at h0; omega
    rw [if_pos this]
    simp [padDec, decDig, Nat.mod_eq_of_lt this]
  · have h5 : 10 ≤ c ∧ c < 100 := by simp at h0 hj; omega
    rw [if_neg (by omega), if_pos h5.2]
    simp [padDec, decDig, show c / 10 % 10 = c / 10 by omega]
  · have h5 : 100 ≤ c := by simp at h0 hj; omega
    rw [if_neg (by omega), if_neg (by omega)]
    simp [padDec, decDig, show c / 100 % 10 = c / 100 by omega]
theorem ten_step {u n : Nat} {sb : ByteArray} (hu : u ≤ 254) (h : sb = bsz (padDec sb.size u) ∧ n = u / 10 ^ sb.size ∧ (sb.size ≤ 1 ∨ 10 ^ (sb.size - 1) ≤ u)) (hc : sb.size = 0 ∨ 0 < n) :
    (bsz [decDig (n % 10)] ++ sb).size = sb.size + 1 ∧ sb.size + 1 ≤ 3 ∧ ((bsz [decDig (n % 10)] ++ sb) = bsz (padDec (bsz [decDig (n % 10)] ++ sb).size u) ∧ n / 10 = u / 10 ^ (bsz [decDig (n % 10)] ++ sb).size ∧ ((bsz [decDig (n % 10)] ++ sb).size ≤ 1 ∨ 10 ^ ((bsz [decDig (n % 10)] ++ sb).size - 1) ≤ u)) := by
  obtain ⟨h1, h2, h3⟩ := h
  have hge : 0 < n → 10 ^ sb.size ≤ u := fun h0 => by
    rcases Nat.lt_or_ge u (10 ^ sb.size) with hl | hl
    · rw [Nat.div_eq_of_lt hl] at h2; omega
    · exact hl
  have e : bsz [decDig (n % 10)] ++ sb = bsz (padDec (sb.size + 1) u) := by
    rw [padDec, ← h2]
    conv => lhs; rw [h1]
    rw [bsz_append]
    rfl
  have es : (bsz [decDig (n % 10)] ++ sb).size = sb.size + 1 := by rw [e, bsz_size, padDec_len]
  rw [es]
  refine ⟨rfl, ?_, e, ?_, ?_⟩
  · rcases hc with hc | hc
    · omega
    · have h5 := hge hc
      rcases Nat.lt_or_ge sb.size 3 with hl | hl
      · omega
      · have := Nat.pow_le_pow_right (show 0 < 10 by omega) hl; omega
  · rw [h2, Nat.div_div_eq_div_mul, Nat.pow_succ]
  · rcases hc with hc | hc
    · exact .inl (by omega)
    · exact .inr (by rw [Nat.add_sub_cancel]; exact hge hc)

/-- A string out of a row of one byte. -/
theorem string_one (w : World) (x : UInt8) (c : Nat) : (convert 100 9 (.slice (some ⟨w.heap.size, 0, none⟩) 1 c)).run Tryd.prog (w.alloc (.cells #[.int .u8 (x.toNat : Int)] 5)) = .ok (.string (bsz [x])) (w.alloc (.cells #[.int .u8 (x.toNat : Int)] 5)) := by
  have hb := Blk.new w 5 #[.int .u8 (x.toNat : Int)]
  have hc := run_convert_bytes_arg (P := Tryd.prog) (w.alloc (.cells #[.int .u8 (x.toNat : Int)] 5)) 100 5 Tryd.underlying100 Tryd.underlying5 w.heap.size 0 1 c [(x.toNat : Int)] (by simp) (fun i hi => by
    obtain rfl : i = 0 := by simpa using hi
    rw [hb.cell]
    simp) 9 Tryd.underlying9
  rw [hc]
  have e : strOfNums [(x.toNat : Int)] = bsz [x] := data_inj (by rw [strOfNums_data]; simp)
  rw [e]

set_option maxHeartbeats 1000000 in
set_option maxRecDepth 20000 in
theorem ten_any (u : Nat) (hu : u ≤ 254) (w : World) : Calls Tryd.prog 62 #[.int .i64 (u : Int)] w fun e w' => e = .returned (.string (bsz (Lib.itoa (u : Int)))) ∧ Below w.heap.size w w' := by
  go_enter Tryd.func62, Tryd.ntmps62
  go_wp2_with fail
  go_loopw [0, 3] (fun x v wr => ∃ (n : Nat) (sb : ByteArray), x = .int .i64 (n : Int) ∧ v = .string sb ∧ sb.size ≤ 3 ∧ n ≤ 254 ∧ Hid (sb = bsz (padDec sb.size u) ∧ n = u / 10 ^ sb.size ∧ (sb.size ≤ 1 ∨ 10 ^ (sb.size - 1) ≤ u)) ∧ Below w.heap.size w wr) (fun _ v _ => 4 - strLen v)
  case atStart => exact ⟨u, ⟨#[]⟩, rfl, rfl, by decide, hu, ⟨rfl, by simp [ByteArray.size], .inl (by decide)⟩, Below.refl _ _⟩
  case round =>
    obtain ⟨n, sb, rfl, rfl, hs6, hn, HS, hbel⟩ := hrel
    have hx : ((decDig (n % 10)).toNat : Int) = 48 + (n : Int) % 10 := by
      unfold decDig; rw [UInt8.toNat_ofNat']; omega
    have hone := string_one wr (decDig (n % 10)) 1
    rw [hx] at hone
    clear hx
    have hb1 := hbel.alloc hbel.size (.cells #[.int .u8 (48 + (n : Int) % 10)] 5)
    by_cases h0 : sb.size = 0
    · obtain rfl : sb = ⟨#[]⟩ := by
        apply ByteArray.ext
        exact Array.eq_empty_of_size_eq_zero h0
      go_wp2_with fail
      obtain ⟨q1, q2, q3⟩ := ten_step hu HS.out (.inl rfl)
      exact ⟨⟨n / 10, _, by simp, rfl, by omega, by omega, q3, hb1⟩, by simp only [strLen]; omega⟩
    · have hemp : sb.toList.isEmpty = false := by
        rw [ByteArray.toList_eq, List.isEmpty_eq_false_iff]
        intro e
        exact h0 (by rw [Lib.size_eq, e]; rfl)
      by_cases hn0 : n = 0
      · subst hn0
        clear hone hb1
        go_wp2_with fail
        go_ret
        have hS := HS.out
        have e : bsz (Lib.itoa (u : Int)) = sb := by
          conv => rhs; rw [hS.1]
          rw [itoa_of hu (by omega) hS.2.1.symm hS.2.2]
        exact ⟨by rw [e]; rfl, hbel⟩
      · have hn' : 0 < n := by omega
        go_wp2_with fail
        obtain ⟨q1, q2, q3⟩ := ten_step hu HS.out (.inr hn')
        exact ⟨⟨n / 10, _, by simp, rfl, by omega, by omega, q3, hb1⟩, by simp only [strLen]; omega⟩

end Go.Proofs.YtadbkkakjekopaaDoor
