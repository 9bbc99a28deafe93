/- The walk of NatExact (nothing is claimed here). -/
import Derived.Test.YtdmdnhlmfailaaaOne
import Derived.BigQuiet
import Derived.Deep.QuietTactic
namespace Go.Proofs.Ytdmdnhlmfailaaa
open Go.RowKit Go.Vf

def addI (n k : Int) : Int := if 2147483647 < n ∨ 2147483647 < k then 2147483648 else n + k

set_option maxHeartbeats 400000 in
theorem add_same (n k : Int) (h0 : 0 ≤ n) (h1 : 0 ≤ k) (w : World) : Calls Try.prog 10 #[.int .i64 n, .int .i64 k] w fun e w' => e = .returned (.int .i64 (addI n k)) ∧ w' = w := by
  unfold addI
  by_cases h2 : (2147483647 : Int) < n
  · rw [if_pos (.inl h2)]
    go_enter Try.func10, Try.ntmps10
    go_wp2
    go_ret
    exact ⟨rfl, rfl⟩
  · by_cases h3 : (2147483647 : Int) < k
    · rw [if_pos (.inr h3)]
      go_enter Try.func10, Try.ntmps10
      go_wp2
      go_ret
      exact ⟨rfl, rfl⟩
    · rw [if_neg (by omega)]
      go_enter Try.func10, Try.ntmps10
      go_wp2
      go_ret
      exact ⟨rfl, rfl⟩


theorem below_drewN {B : Nat} {a w : World} (h : Below B a w) (n : Nat) : Below B a (w.drewN n) := h.trans ⟨rfl, rfl, rfl, Nat.le_refl _, fun _ _ => rfl⟩

/-- A script that came in. -/
def Ops (w : World) (p : Option Addr) (len : Nat) (K T : Nat → Int) (P Q : Nat → Bool) (A B S : Nat → ByteArray) : Prop :=
  0 < len → ∃ b off, p = some ⟨b, off, none⟩ ∧ b < w.heap.size ∧ ∀ i, i < len →
    w.cell? ⟨b, off + i * 7, none⟩ = some (.int .i64 (K i)) ∧ w.cell? ⟨b, off + i * 7 + 1, none⟩ = some (.bool (P i)) ∧ w.cell? ⟨b, off + i * 7 + 2, none⟩ = some (.string (A i)) ∧ w.cell? ⟨b, off + i * 7 + 3, none⟩ = some (.bool (Q i)) ∧ w.cell? ⟨b, off + i * 7 + 4, none⟩ = some (.string (B i)) ∧ w.cell? ⟨b, off + i * 7 + 5, none⟩ = some (.string (S i)) ∧ w.cell? ⟨b, off + i * 7 + 6, none⟩ = some (.int .i64 (T i)) ∧
    (A i).size ≤ maxLen ∧ (B i).size ≤ maxLen ∧ (S i).size ≤ maxLen ∧ -9223372036854775808 ≤ T i ∧ T i ≤ 9223372036854775807

set_option maxHeartbeats 2000000 in
theorem exact_walk (p : Option Addr) (len cap : Nat) (K T : Nat → Int) (P Q : Nat → Bool) (A B S : Nat → ByteArray) (w : World) (hlen : len ≤ maxLen) (hops : Ops w p len K T P Q A B S) :
    Calls Try.prog 4 #[.slice p len cap] w fun e w' => e = .returned (.bool true) ∧ Below w.heap.size w w' := by
  unfold maxLen at hlen
  have HO : Hid (Ops w p len K T P Q A B S) := hops
  clear hops
  go_enter Try.func4, Try.ntmps4
  go_wp2
  go_loopw [3, 4] (fun n i wr => ∃ (k : Nat) (m : Int), k ≤ len ∧ i = .int .i64 k ∧ n = .int .i64 m ∧ 0 ≤ m ∧ m ≤ 9223372036854775807 ∧ Below w.heap.size w wr ∧ Hid (m ≤ 2147483647 → ∀ j, j < k → (A j).size ≤ 4294967296 ∧ (B j).size ≤ 4294967296 ∧ (S j).size ≤ 4294967296)) (fun _ i _ => len - (intOf i).toNat)
  case atStart => exact ⟨0, len, Nat.zero_le _, rfl, rfl, by omega, by omega, Below.refl _ _, fun _ j hj => absurd hj (Nat.not_lt_zero _)⟩
  case round =>
    obtain ⟨k, m, hk, rfl, rfl, hm0, hm1, hbel, HS⟩ := hrel
    by_cases hlt : k < len
    · by_cases hm : m ≤ 2147483647
      · obtain ⟨b, off, rfl, hb, hcs⟩ := HO.out (by omega)
        obtain ⟨c0, c1, c2, c3, c4, c5, c6, sA, sB, sS, _, _⟩ := hcs k hlt
        unfold maxLen at sA sB sS
        have c2' : wr.cell? ⟨b, off + k * 7 + 2, none⟩ = some (.string (A k)) := (hbel.cell (p := ⟨b, off + k * 7 + 2, none⟩) hb).trans c2
        have c4' : wr.cell? ⟨b, off + k * 7 + 4, none⟩ = some (.string (B k)) := (hbel.cell (p := ⟨b, off + k * 7 + 4, none⟩) hb).trans c4
        have c5' : wr.cell? ⟨b, off + k * 7 + 5, none⟩ = some (.string (S k)) := (hbel.cell (p := ⟨b, off + k * 7 + 5, none⟩) hb).trans c5
        clear hcs c0 c1 c2 c3 c4 c5 c6
        have hkl : (k : Int) < (len : Int) := by omega
        obtain ⟨q, hq⟩ : ∃ q, addI (A k).size (B k).size = q := ⟨_, rfl⟩
        have hq0 : 0 ≤ addI (A k).size (B k).size := by unfold addI; split <;> omega
        obtain ⟨q2, hq2⟩ : ∃ q2, addI (addI (A k).size (B k).size) (S k).size = q2 := ⟨_, rfl⟩
        have hq20 : 0 ≤ addI (addI (A k).size (B k).size) (S k).size := by rw [hq] at hq0 ⊢; unfold addI; split <;> omega
        obtain ⟨r0, r1, HR⟩ : 0 ≤ addI m (addI (addI (A k).size (B k).size) (S k).size) ∧ addI m (addI (addI (A k).size (B k).size) (S k).size) ≤ 9223372036854775807 ∧ Hid (addI m (addI (addI (A k).size (B k).size) (S k).size) ≤ 2147483647 → (A k).size ≤ 4294967296 ∧ (B k).size ≤ 4294967296 ∧ (S k).size ≤ 4294967296) := by
          rw [hq2] at hq20 ⊢
          refine ⟨by unfold addI; split <;> omega, by unfold addI; split <;> omega, fun h => ?_⟩
          have h1 : q2 ≤ 2147483647 := by unfold addI at h; split at h <;> omega
          rw [hq] at hq2 hq0
          have h2 : q ≤ 2147483647 ∧ (S k).size ≤ 2147483647 := by
            rw [← hq2] at h1
            unfold addI at h1
            split at h1 <;> omega
          rw [← hq] at h2
          unfold addI at h2
          split at h2 <;> omega
        clear hq hq2
        go_wp2
        go_quiet ((go_at_call 10; exact Calls.quiet_of_same (add_same _ _ (by omega) (by omega) _)))
        go_wp2
        go_roundw
        case rel => exact ⟨k + 1, _, by omega, by go_num, rfl, r0, r1, below_drewN hbel _, fun h j hj => by
          by_cases e : j = k
          · subst e; exact HR h
          · exact HS (by assumption) j (by omega)⟩
        case measure => simp [intOf]; omega
      · have hm' : (2147483647 : Int) < m := by omega
        clear HS
        go_wp2
        go_ret
        exact ⟨rfl, hbel⟩
    · have hk' : k = len := by omega
      subst hk'
      by_cases hm : (2147483647 : Int) < m
      · clear HS
        go_wp2
        go_ret
        exact ⟨rfl, hbel⟩
      · have HZ : Hid (∀ j, j < k → (A j).size ≤ 4294967296 ∧ (B j).size ≤ 4294967296 ∧ (S j).size ≤ 4294967296) := HS.out (by omega)
        clear HS
        go_wp2
        obtain ⟨wo, rfl⟩ : ∃ wo : World, wo = wr := ⟨_, rfl⟩
        go_loopw [5] (fun i wr => ∃ j : Nat, j ≤ k ∧ i = .int .i64 j ∧ Below w.heap.size w wr) (fun i _ => k - (intOf i).toNat)
        case atStart => exact ⟨0, Nat.zero_le _, rfl, hbel⟩
        case round =>
          obtain ⟨j, hj, rfl, hbel2⟩ := hrel
          by_cases hlt2 : j < k
          · obtain ⟨b, off, rfl, hb, hcs⟩ := HO.out (by omega)
            obtain ⟨c0, c1, c2, c3, c4, c5, c6, _, _, _, hT1, hT2⟩ := hcs j hlt2
            obtain ⟨zA, zB, zS⟩ := HZ.out j hlt2
            have c0' : wr.cell? ⟨b, off + j * 7, none⟩ = some (.int .i64 (K j)) := (hbel2.cell (p := ⟨b, off + j * 7, none⟩) hb).trans c0
            have c1' : wr.cell? ⟨b, off + j * 7 + 1, none⟩ = some (.bool (P j)) := (hbel2.cell (p := ⟨b, off + j * 7 + 1, none⟩) hb).trans c1
            have c2' : wr.cell? ⟨b, off + j * 7 + 2, none⟩ = some (.string (A j)) := (hbel2.cell (p := ⟨b, off + j * 7 + 2, none⟩) hb).trans c2
            have c3' : wr.cell? ⟨b, off + j * 7 + 3, none⟩ = some (.bool (Q j)) := (hbel2.cell (p := ⟨b, off + j * 7 + 3, none⟩) hb).trans c3
            have c4' : wr.cell? ⟨b, off + j * 7 + 4, none⟩ = some (.string (B j)) := (hbel2.cell (p := ⟨b, off + j * 7 + 4, none⟩) hb).trans c4
            have c5' : wr.cell? ⟨b, off + j * 7 + 5, none⟩ = some (.string (S j)) := (hbel2.cell (p := ⟨b, off + j * 7 + 5, none⟩) hb).trans c5
            have c6' : wr.cell? ⟨b, off + j * 7 + 6, none⟩ = some (.int .i64 (T j)) := (hbel2.cell (p := ⟨b, off + j * 7 + 6, none⟩) hb).trans c6
            clear hcs c0 c1 c2 c3 c4 c5 c6
            have hjl : (j : Int) < (k : Int) := by omega
            go_wp2_with fail
            refine (one_any _ _ _ _ _ _ _ (by omega) (by omega) (by omega) hT1 hT2 _).mono ?_
            rintro e w1 ⟨rfl, hb1⟩
            go_wp2_with fail
            go_roundw
            case rel => exact ⟨j + 1, by omega, by go_num, hbel2.trans (hb1.mono hbel2.size)⟩
            case measure => simp [intOf]; omega
          · have hjl : ¬ (j : Int) < (k : Int) := by omega
            go_wp2_with fail
            refine (awake_any _).mono ?_
            rintro e w1 ⟨rfl, hb1⟩
            go_wp2_with fail
            go_ret
            exact ⟨rfl, hbel2.trans (hb1.mono hbel2.size)⟩
end Go.Proofs.Ytdmdnhlmfailaaa
