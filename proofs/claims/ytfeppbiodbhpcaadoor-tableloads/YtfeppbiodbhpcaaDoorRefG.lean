/- What dovetailref04.Digits does (a contract; nothing is claimed here). -/
import Derived.Test.YtfeppbiodbhpcaaDoorPutL
namespace Go.Proofs.YtfeppbiodbhpcaaDoor
open Go.RowKit Go.Vf

def strLen : Value → Nat
  | .string b => b.size
  | _ => 0
theorem signs_at : ∀ d, d < 16 → (⟨#[48, 49, 50, 51, 52, 53, 54, 55, 56, 57, 65, 66, 67, 68, 69, 70]⟩ : ByteArray).extract d (d + 1) = bsz [upDig d] := by decide
theorem padHex_cons : ∀ (k n : Nat), padHex (k + 1) n = upDig (n / 16 ^ k % 16) :: padHex k n := by
  intro k
  induction k with
  | zero => intro n; simp [padHex]
  | succ k ih =>
    intro n
    rw [padHex, ih, Nat.div_div_eq_div_mul, Nat.pow_succ, Nat.mul_comm 16]
    rfl
theorem bsz_append (a b : List UInt8) : bsz a ++ bsz b = bsz (a ++ b) := by
  apply ByteArray.ext
  simp
theorem bsz_size (l : List UInt8) : (bsz l).size = l.length := by simp [ByteArray.size]
theorem pointS_of {u j : Nat} (h4 : 4 ≤ j) (h0 : u / 16 ^ j = 0) (hj : j ≤ 4 ∨ 16 ^ (j - 1) ≤ u) : padHex j u = pointS u := by
  have hp : 0 < 16 ^ j := Nat.pow_pos (by omega)
  have hlt : u < 16 ^ j := by
    rcases Nat.lt_or_ge u (16 ^ j) with h | h
    · exact h
    · have := (Nat.le_div_iff_mul_le hp).2 (by omega : 1 * 16 ^ j ≤ u); omega
  have h1 := upHex_len u j hlt (by omega)
  rw [pointS_pad]
  congr 1
  rcases hj with hj | hj
  · omega
  · by_cases h5 : j = 4
    · omega
    · have : ¬ (upHex u).length ≤ j - 1 := fun h => by have := upHex_lt u _ h; omega
      omega

theorem digits_step {u n : Nat} {sb : ByteArray} (hu : u < 16 ^ 6) (h : sb = bsz (padHex sb.size u) ∧ n = u / 16 ^ sb.size ∧ (sb.size ≤ 4 ∨ 16 ^ (sb.size - 1) ≤ u)) (hc : sb.size < 4 ∨ 0 < n) :
    (bsz [upDig (n % 16)] ++ sb).size = sb.size + 1 ∧ sb.size + 1 ≤ 6 ∧ ((bsz [upDig (n % 16)] ++ sb) = bsz (padHex (bsz [upDig (n % 16)] ++ sb).size u) ∧ n / 16 = u / 16 ^ (bsz [upDig (n % 16)] ++ sb).size ∧ ((bsz [upDig (n % 16)] ++ sb).size ≤ 4 ∨ 16 ^ ((bsz [upDig (n % 16)] ++ sb).size - 1) ≤ u)) := by
  obtain ⟨h1, h2, h3⟩ := h
  have hge : 0 < n → 16 ^ sb.size ≤ u := fun h0 => by
    rcases Nat.lt_or_ge u (16 ^ sb.size) with hl | hl
    · rw [Nat.div_eq_of_lt hl] at h2; omega
    · exact hl
  have e : bsz [upDig (n % 16)] ++ sb = bsz (padHex (sb.size + 1) u) := by
    rw [padHex_cons, ← h2]
    conv => lhs; rw [h1]
    rw [bsz_append]
    rfl
  have es : (bsz [upDig (n % 16)] ++ sb).size = sb.size + 1 := by rw [e, bsz_size, padHex_len]
  rw [es]
  refine ⟨rfl, ?_, e, ?_, ?_⟩
  · rcases hc with hc | hc
    · omega
    · have h5 := hge hc
      rcases Nat.lt_or_ge sb.size 6 with hl | hl
      · omega
      · have := Nat.pow_le_pow_right (show 0 < 16 by omega) hl; omega
  · rw [h2, Nat.div_div_eq_div_mul, Nat.pow_succ]
  · rcases hc with hc | hc
    · exact .inl (by omega)
    · exact .inr (by rw [Nat.add_sub_cancel]; exact hge hc)

set_option maxHeartbeats 1000000 in
theorem digits_any (u : Nat) (hu : u < 16 ^ 6) (w : World) : Calls Tryd.prog 61 #[.int .i64 (u : Int)] w fun e w' => e = .returned (.string (bsz (pointS u))) ∧ w = w' := by
  have HU : Hid (u < 16 ^ 6) := hu
  have hu' : u < 16777216 := hu
  clear hu
  go_enter Tryd.func61, Tryd.ntmps61
  go_wp2_with fail
  go_loopw [0, 3] (fun x v wr => ∃ (n : Nat) (sb : ByteArray), x = .int .i64 (n : Int) ∧ v = .string sb ∧ sb.size ≤ 6 ∧ n < 16777216 ∧ Hid (sb = bsz (padHex sb.size u) ∧ n = u / 16 ^ sb.size ∧ (sb.size ≤ 4 ∨ 16 ^ (sb.size - 1) ≤ u)) ∧ wr = w) (fun _ v _ => 7 - strLen v)
  case atStart => exact ⟨u, ⟨#[]⟩, rfl, rfl, by decide, hu', ⟨rfl, by simp [ByteArray.size], .inl (by decide)⟩, rfl⟩
  case round =>
    obtain ⟨n, sb, rfl, rfl, hs6, hn, HS, rfl⟩ := hrel
    have hd := signs_at (n % 16) (by omega)
    by_cases h4 : sb.size < 4
    · go_wp2_with fail
      obtain ⟨q1, q2, q3⟩ := digits_step HU.out HS.out (.inl h4)
      exact ⟨⟨n / 16, _, by simp, rfl, by omega, by omega, q3, trivial⟩, by simp only [strLen]; omega⟩
    · by_cases h0 : n = 0
      · subst h0
        go_wp2_with fail
        go_ret
        have hS := HS.out
        have e : bsz (pointS u) = sb := by
          conv => rhs; rw [hS.1]
          rw [pointS_of (by omega) hS.2.1.symm hS.2.2]
        exact ⟨by rw [e]; rfl, rfl⟩
      · have h0' : 0 < n := by omega
        go_wp2_with fail
        obtain ⟨q1, q2, q3⟩ := digits_step HU.out HS.out (.inr h0')
        exact ⟨⟨n / 16, _, by simp, rfl, by omega, by omega, q3, trivial⟩, by simp only [strLen]; omega⟩

end Go.Proofs.YtfeppbiodbhpcaaDoor
