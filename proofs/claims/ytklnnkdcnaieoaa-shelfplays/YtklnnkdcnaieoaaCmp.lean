/- What the document's Compare of texts comes to (contracts; nothing is claimed here). -/
import Derived.Test.YtklnnkdcnaieoaaMem
import Derived.BigQuiet
namespace Go.Proofs.Ytklnnkdcnaieoaa
open Go.RowKit Go.Vf

theorem cmpL_ends (a b : List UInt8) (h : a = [] ∨ b = []) : cmpL a b = if (a.length : Int) < (b.length : Int) then -1 else if (b.length : Int) < (a.length : Int) then 1 else 0 := by
  cases a <;> cases b <;> simp_all [cmpL] <;> omega

theorem below_drewN {B : Nat} {w w' : World} (h : Below B w w') (n : Nat) : Below B w (w'.drewN n) := ⟨h.os, h.tape, h.output, h.size, h.block⟩
set_option maxHeartbeats 1000000 in
theorem rcompare_any (a b : ByteArray) (w : World) (ha : a.size ≤ 17179869184) (_hb : b.size ≤ 17179869184) :
    Calls Try.prog 35 #[.string a, .string b] w fun e w' => e = .returned (.int .i64 (cmpL a.data.toList b.data.toList)) ∧ Below w.heap.size w w' := by
  obtain ⟨R, hR⟩ : ∃ R, cmpL a.data.toList b.data.toList = R := ⟨_, rfl⟩
  rw [hR]
  have HR : Hid (cmpL a.data.toList b.data.toList = R) := hR
  clear hR
  go_enter Try.func35, Try.ntmps35
  go_wp2
  go_loopw [5] (fun i wr => ∃ k : Nat, k ≤ a.size ∧ k ≤ b.size ∧ i = .int .i64 k ∧ Hid (R = cmpL (a.data.toList.drop k) (b.data.toList.drop k)) ∧ Below w.heap.size w wr) (fun i _ => a.size - (intOf i).toNat)
  case atStart => exact ⟨0, Nat.zero_le _, Nat.zero_le _, rfl, HR.out.symm, Below.refl _ _⟩
  case round =>
    obtain ⟨k, hka, hkb, rfl, HI, hbel⟩ := hrel
    by_cases h1 : k < a.size
    · by_cases h2 : k < b.size
      · have hda : a.data.toList.drop k = a[k] :: a.data.toList.drop (k + 1) := by
          rw [List.drop_eq_getElem_cons (by rw [← Lib.size_eq]; exact h1)]; rfl
        have hdb : b.data.toList.drop k = b[k] :: b.data.toList.drop (k + 1) := by
          rw [List.drop_eq_getElem_cons (by rw [← Lib.size_eq]; exact h2)]; rfl
        have hI := HI.out
        rw [hda, hdb] at hI
        by_cases h3 : (a[k].toNat : Int) < (b[k].toNat : Int)
        · have HI2 : Hid (R = -1) := by show _ = _; rw [hI]; simp [cmpL, UInt8.lt_iff_toNat_lt, show a[k].toNat < b[k].toNat by omega]
          clear hI hda hdb HI
          go_wp2
          go_quiet (fail)
          have hbel2 := below_drewN hbel nq
          generalize wr.drewN nq = wr2 at hbel2 ⊢
          go_wp2
          go_ret
          exact ⟨by rw [HI2.out]; rfl, hbel2⟩
        · by_cases h4 : (b[k].toNat : Int) < (a[k].toNat : Int)
          · have HI2 : Hid (R = 1) := by show _ = _; rw [hI]; simp [cmpL, UInt8.lt_iff_toNat_lt, show b[k].toNat < a[k].toNat by omega, show ¬ a[k].toNat < b[k].toNat by omega]
            clear hI hda hdb HI
            go_wp2
            go_quiet (fail)
            have hbel2 := below_drewN hbel nq
            generalize wr.drewN nq = wr2 at hbel2 ⊢
            go_wp2
            go_quiet (fail)
            go_wp2
            go_ret
            exact ⟨by rw [HI2.out]; rfl, below_drewN hbel2 _⟩
          · have HI2 : Hid (R = cmpL (a.data.toList.drop (k + 1)) (b.data.toList.drop (k + 1))) := by show _ = _; rw [hI]; simp [cmpL, UInt8.lt_iff_toNat_lt, show ¬ b[k].toNat < a[k].toNat by omega, show ¬ a[k].toNat < b[k].toNat by omega]
            clear hI hda hdb HI
            go_wp2
            go_quiet (fail)
            have hbel2 := below_drewN hbel nq
            generalize wr.drewN nq = wr2 at hbel2 ⊢
            go_wp2
            go_quiet (fail)
            go_wp2
            go_roundw
            case rel => exact ⟨k + 1, by omega, by omega, by go_num, HI2, below_drewN hbel2 _⟩
            case measure => simp [intOf]; omega
      · have hkb' : k = b.size := by omega
        have HI2 : Hid (R = 1) := by
          show _ = _
          rw [HI.out, cmpL_ends _ _ (.inr (List.drop_eq_nil_of_le (by rw [← Lib.size_eq]; omega)))]
          simp only [List.length_drop, ← Lib.size_eq]
          rw [if_neg (by omega), if_pos (by omega)]
        have h5 : (b.size : Int) < (a.size : Int) := by omega
        clear HI hkb'
        go_wp2
        go_ret
        exact ⟨by rw [HI2.out]; rfl, hbel⟩
    · by_cases h5 : (a.size : Int) < (b.size : Int)
      · have HI2 : Hid (R = -1) := by
          show _ = _
          rw [HI.out, cmpL_ends _ _ (.inl (List.drop_eq_nil_of_le (by rw [← Lib.size_eq]; omega)))]
          simp only [List.length_drop, ← Lib.size_eq]
          rw [if_pos (by omega)]
        clear HI
        go_wp2
        go_ret
        exact ⟨by rw [HI2.out]; rfl, hbel⟩
      · have HI2 : Hid (R = 0) := by
          show _ = _
          rw [HI.out, cmpL_ends _ _ (.inl (List.drop_eq_nil_of_le (by rw [← Lib.size_eq]; omega)))]
          simp only [List.length_drop, ← Lib.size_eq]
          rw [if_neg (by omega), if_neg (by omega)]
        have h6 : ¬ (b.size : Int) < (a.size : Int) := by omega
        clear HI
        go_wp2
        go_ret
        exact ⟨by rw [HI2.out]; rfl, hbel⟩

end Go.Proofs.Ytklnnkdcnaieoaa
