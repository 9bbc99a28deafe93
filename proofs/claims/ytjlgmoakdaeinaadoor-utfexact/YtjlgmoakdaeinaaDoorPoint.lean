/- What utf.pointOf does (contracts; nothing is claimed here). -/
import Derived.Test.YtjlgmoakdaeinaaDoorWhole
namespace Go.Vf

/-- A character's bytes: its first is no less than its head, the others are tails. -/
theorem enc_bytes {p : Nat} (hp : IsPt p) : headOf (enc p).length ≤ ((enc p)[0]?.getD 0).toNat ∧ ∀ i, 1 ≤ i → i < (enc p).length → 128 ≤ ((enc p)[i]?.getD 0).toNat ∧ ((enc p)[i]?.getD 0).toNat ≤ 191 := by
  unfold IsPt at hp
  by_cases h1 : p < 0x80
  · have e : enc p = [UInt8.ofNat p] := by unfold enc; rw [if_pos (by omega)]
    rw [e]
    exact ⟨Nat.zero_le _, fun i h1 h2 => by simp at h2; omega⟩
  · by_cases h2 : p < 0x800
    · have e : enc p = [UInt8.ofNat (0xc0 + p / 64), UInt8.ofNat (0x80 + p % 64)] := by unfold enc; rw [if_neg (by omega), if_pos (by omega)]
      have e1 : (UInt8.ofNat (0xc0 + p / 64)).toNat = 0xc0 + p / 64 := ofNat_toNat (by omega)
      have e2 : (UInt8.ofNat (0x80 + p % 64)).toNat = 0x80 + p % 64 := ofNat_toNat (by omega)
      rw [e]
      refine ⟨?_, fun i h1 h2 => ?_⟩
      · show 0xc0 ≤ (UInt8.ofNat (0xc0 + p / 64)).toNat
        omega
      · simp only [List.length_cons, List.length_nil] at h2
        obtain rfl : i = 1 := by omega
        show 128 ≤ (UInt8.ofNat (0x80 + p % 64)).toNat ∧ (UInt8.ofNat (0x80 + p % 64)).toNat ≤ 191
        omega
    · by_cases h3 : p < 0x10000
      · have e : enc p = [UInt8.ofNat (0xe0 + p / 4096), UInt8.ofNat (0x80 + p / 64 % 64), UInt8.ofNat (0x80 + p % 64)] := by unfold enc; rw [if_neg (by omega), if_neg (by omega), if_pos (by omega)]
        have e1 : (UInt8.ofNat (0xe0 + p / 4096)).toNat = 0xe0 + p / 4096 := ofNat_toNat (by omega)
        have e2 : (UInt8.ofNat (0x80 + p / 64 % 64)).toNat = 0x80 + p / 64 % 64 := ofNat_toNat (by omega)
        have e3 : (UInt8.ofNat (0x80 + p % 64)).toNat = 0x80 + p % 64 := ofNat_toNat (by omega)
        rw [e]
        refine ⟨?_, fun i h1 h2 => ?_⟩
        · show 0xe0 ≤ (UInt8.ofNat (0xe0 + p / 4096)).toNat
          omega
        · simp only [List.length_cons, List.length_nil] at h2
          rcases (show i = 1 ∨ i = 2 by omega) with rfl | rfl
          · show 128 ≤ (UInt8.ofNat (0x80 + p / 64 % 64)).toNat ∧ (UInt8.ofNat (0x80 + p / 64 % 64)).toNat ≤ 191
            omega
          · show 128 ≤ (UInt8.ofNat (0x80 + p % 64)).toNat ∧ (UInt8.ofNat (0x80 + p % 64)).toNat ≤ 191
            omega
      · have e : enc p = [UInt8.ofNat (0xf0 + p / 262144), UInt8.ofNat (0x80 + p / 4096 % 64), UInt8.ofNat (0x80 + p / 64 % 64), UInt8.ofNat (0x80 + p % 64)] := by unfold enc; rw [if_neg (by omega), if_neg (by omega), if_neg (by omega)]
        have e1 : (UInt8.ofNat (0xf0 + p / 262144)).toNat = 0xf0 + p / 262144 := ofNat_toNat (by omega)
        have e2 : (UInt8.ofNat (0x80 + p / 4096 % 64)).toNat = 0x80 + p / 4096 % 64 := ofNat_toNat (by omega)
        have e3 : (UInt8.ofNat (0x80 + p / 64 % 64)).toNat = 0x80 + p / 64 % 64 := ofNat_toNat (by omega)
        have e4 : (UInt8.ofNat (0x80 + p % 64)).toNat = 0x80 + p % 64 := ofNat_toNat (by omega)
        rw [e]
        refine ⟨?_, fun i h1 h2 => ?_⟩
        · show 0xf0 ≤ (UInt8.ofNat (0xf0 + p / 262144)).toNat
          omega
        · simp only [List.length_cons, List.length_nil] at h2
          rcases (show i = 1 ∨ i = 2 ∨ i = 3 by omega) with rfl | rfl | rfl
          · show 128 ≤ (UInt8.ofNat (0x80 + p / 4096 % 64)).toNat ∧ (UInt8.ofNat (0x80 + p / 4096 % 64)).toNat ≤ 191
            omega
          · show 128 ≤ (UInt8.ofNat (0x80 + p / 64 % 64)).toNat ∧ (UInt8.ofNat (0x80 + p / 64 % 64)).toNat ≤ 191
            omega
          · show 128 ≤ (UInt8.ofNat (0x80 + p % 64)).toNat ∧ (UInt8.ofNat (0x80 + p % 64)).toNat ≤ 191
            omega

end Go.Vf
namespace Go.Proofs.YtjlgmoakdaeinaaDoor
open Go.RowKit Go.Vf

theorem index_zero (s : ByteArray) (h : 0 < s.size) (W : World) : (Instr.index 9 (.string s) (.int .i64 0)).run Tryd.prog W = .ok (.int .u8 (s[0].toNat : Int)) W := by
  simp [go_sem, Instr.index, h]

set_option maxHeartbeats 2000000 in
set_option maxRecDepth 20000 in
/-- pointOf(s), s being a point's character. -/
theorem pointOf_any (s : ByteArray) (p : Nat) (hp : IsPt p) (hs : s.data.toList = enc p) (w : World) (ht : Tabs w) :
    Calls Tryd.prog 29 #[.string s] w fun e w' => e = .returned (.int .i64 (p : Int)) ∧ Below w.heap.size w w' := by
  have hlen : s.size = (enc p).length := by rw [Lib.size_eq, hs]
  have h4 := enc_le p
  have h0 := enc_pos p
  obtain ⟨hb0, hbt⟩ := enc_bytes hp
  obtain ⟨_, _, _, _, _, _, hacc⟩ := enc_row hp []
  obtain ⟨z, hz⟩ : ∃ z, z = s.size := ⟨_, rfl⟩
  have hget : ∀ i (h : i < s.size), ((enc p)[i]?.getD 0) = s[i] := fun i h => by rw [← hs, list_get s i h]; rfl
  have hp0 : 0 < s.size := by omega
  rw [hget 0 hp0, ← hlen] at hb0
  have HA : Hid (accL (enc p) s.size = p) := by show _ = _; rw [hlen]; exact hacc
  have hA1 : accL (enc p) 1 = s[0].toNat - headOf s.size := by show _ - headOf (enc p).length = _; rw [hget 0 hp0, ← hlen]
  have HAs : ∀ i (h : i + 1 < s.size), Hid (accL (enc p) (i + 2) = accL (enc p) (i + 1) * 64 + (s[i + 1].toNat - 128) ∧ 128 ≤ s[i + 1].toNat ∧ s[i + 1].toNat ≤ 191) := fun i h => by
    show _ ∧ _
    have := hbt (i + 1) (by omega) (by omega)
    rw [hget (i + 1) h] at this
    exact ⟨by show _ * 64 + (((enc p)[i + 1]?.getD 0).toNat - 128) = _; rw [hget (i + 1) h], this⟩
  have hi0 := index_zero s hp0
  have hh := ht.heads s.size (by omega)
  have hu8 : s[0].toNat < 256 := s[0].toNat_lt
  have hw1 : IntKind.u8.wrap ((s[0].toNat : Int) - (headOf s.size : Int)) = ((accL (enc p) 1 : Nat) : Int) := by
    rw [hA1, IntWalk.u8_in _ ⟨by omega, by omega⟩]; omega
  have hb1 : accL (enc p) 1 ≤ 255 := by rw [hA1]; omega
  have hsz : s.size ≤ 4 := by omega
  clear hz hA1 hbt hget hacc h4 h0 hlen hs hb0 hu8
  go_enter Tryd.func29, Tryd.ntmps29
  go_wp2
  go_region
  go_wp2
  go_loopw [3, 4] (fun n i wr => ∃ j : Nat, 1 ≤ j ∧ j ≤ s.size ∧ i = .int .i64 j ∧ n = .int .i64 ((accL (enc p) j : Nat) : Int) ∧ (accL (enc p) j ≤ 67375167 ∧ (j ≤ 3 → accL (enc p) j ≤ 1052735) ∧ (j ≤ 2 → accL (enc p) j ≤ 16447) ∧ (j ≤ 1 → accL (enc p) j ≤ 255)) ∧ wr = w.drew) (fun _ i _ => s.size - (intOf i).toNat)
  case atStart => exact ⟨1, by omega, by omega, rfl, rfl, ⟨by omega, fun _ => by omega, fun _ => by omega, fun _ => by omega⟩, rfl⟩
  case round =>
    obtain ⟨j, hj1, hj2, rfl, rfl, ⟨b4, b3, b2, b1⟩, rfl⟩ := hrel
    by_cases hlt : j < s.size
    · obtain ⟨i, rfl⟩ : ∃ i, j = i + 1 := ⟨j - 1, by omega⟩
      obtain ⟨e1, e2, e3⟩ := (HAs i hlt).out
      have hw2 : IntKind.u8.wrap ((s[i + 1].toNat : Int) - 128) = ((s[i + 1].toNat - 128 : Nat) : Int) := by rw [IntWalk.u8_in _ ⟨by omega, by omega⟩]; omega
      go_wp2
      refine ⟨⟨i + 2, by omega, by omega, by go_num, by rw [e1]; go_num, ⟨by omega, fun _ => by omega, fun _ => by omega, fun _ => by omega⟩, trivial⟩, ?_⟩
      simp [intOf]; omega
    · obtain rfl : j = s.size := by omega
      go_wp2
      go_ret
      exact ⟨by rw [show Ending.returned (Value.int .i64 (p : Int)) = .returned (.int .i64 ((accL (enc p) s.size : Nat) : Int)) by rw [HA.out]]; rfl, (Below.refl _ _).drew⟩

end Go.Proofs.YtjlgmoakdaeinaaDoor
