/- What the document's answers (package dovetailref01) come to, more (contracts; nothing is claimed here). -/
import Derived.Test.YtcbkfnoggheddaaRef
namespace Go.Proofs.Ytcbkfnoggheddaa
open Go.RowKit Go.Vf

set_option maxHeartbeats 1000000 in
theorem rcompare_any (a b : ByteArray) (w : World) (ha : a.size ≤ 17179869184) (_hb : b.size ≤ 17179869184) :
    Calls Try.prog 18 #[.string a, .string b] w fun e w' => e = .returned (.int .i64 (cmpL a.data.toList b.data.toList)) ∧ Below w.heap.size w w' := by
  obtain ⟨R, hR⟩ : ∃ R, cmpL a.data.toList b.data.toList = R := ⟨_, rfl⟩
  rw [hR]
  have HR : Hid (cmpL a.data.toList b.data.toList = R) := hR
  clear hR
  go_enter Try.func18, Try.ntmps18
  go_wp2
  go_loopw [5] (fun i wr => ∃ k : Nat, k ≤ a.size ∧ k ≤ b.size ∧ i = .int .i64 k ∧ Hid (R = cmpL (a.data.toList.drop k) (b.data.toList.drop k)) ∧ Below w.heap.size w wr) (fun i _ => a.size - (intOf i).toNat)
  case atStart => exact ⟨0, Nat.zero_le _, Nat.zero_le _, rfl, HR.out.symm, Below.refl _ _⟩
  case round =>
    obtain ⟨k, hka, hkb, rfl, HI, hbel⟩ := hrel
    by_cases h1 : k < a.size
    · by_cases h2 : k < b.size
      · have hda : a.data.toList.drop k = a[k] :: a.data.toList.drop (k + 1) := by
          rw [List.drop_eq_getElem_cons (by rw [← Lib.size_eq]; exact h1)]; rfl
        have hdb : b.data.toList.drop k = b[k] :: b.data.toList.drop (k + 1) := by
          rw [List.drop_eq_getElem_cons (by rw [← Lib.size_eq]; exact h2)]; rfl
        have hI := HI.out
        rw [hda, hdb] at hI
        by_cases h3 : (a[k].toNat : Int) < (b[k].toNat : Int)
        · have HI2 : Hid (R = -1) := by show _ = _; rw [hI]; simp [cmpL, UInt8.lt_iff_toNat_lt, show a[k].toNat < b[k].toNat by omega]
          clear hI hda hdb HI
          go_wp2
          go_quiet (fail)
          have hbel2 := below_drewN hbel nq
          generalize wr.drewN nq = wr2 at hbel2 ⊢
          go_wp2
          go_ret
          exact ⟨by rw [HI2.out]; rfl, hbel2⟩
        · by_cases h4 : (b[k].toNat : Int) < (a[k].toNat : Int)
          · have HI2 : Hid (R = 1) := by show _ = _; rw [hI]; simp [cmpL, UInt8.lt_iff_toNat_lt, show b[k].toNat < a[k].toNat by omega, show ¬ a[k].toNat < b[k].toNat by omega]
            clear hI hda hdb HI
            go_wp2
            go_quiet (fail)
            have hbel2 := below_drewN hbel nq
            generalize wr.drewN nq = wr2 at hbel2 ⊢
            go_wp2
            go_quiet (fail)
            go_wp2
            go_ret
            exact ⟨by rw [HI2.out]; rfl, below_drewN hbel2 _⟩
          · have HI2 : Hid (R = cmpL (a.data.toList.drop (k + 1)) (b.data.toList.drop (k + 1))) := by show _ = _; rw [hI]; simp [cmpL, UInt8.lt_iff_toNat_lt, show ¬ b[k].toNat < a[k].toNat by omega, show ¬ a[k].toNat < b[k].toNat by omega]
            clear hI hda hdb HI
            go_wp2
            go_quiet (fail)
            have hbel2 := below_drewN hbel nq
            generalize wr.drewN nq = wr2 at hbel2 ⊢
            go_wp2
            go_quiet (fail)
            go_wp2
            go_roundw
            case rel => exact ⟨k + 1, by omega, by omega, by go_num, HI2, below_drewN hbel2 _⟩
            case measure => simp [intOf]; omega
      · have hkb' : k = b.size := by omega
        have HI2 : Hid (R = 1) := by
          show _ = _
          rw [HI.out, cmpL_ends _ _ (.inr (List.drop_eq_nil_of_le (by rw [← Lib.size_eq]; omega)))]
          simp only [List.length_drop, ← Lib.size_eq]
          rw [if_neg (by omega), if_pos (by omega)]
        have h5 : (b.size : Int) < (a.size : Int) := by omega
        clear HI hkb'
        go_wp2
        go_ret
        exact ⟨by rw [HI2.out]; rfl, hbel⟩
    · by_cases h5 : (a.size : Int) < (b.size : Int)
      · have HI2 : Hid (R = -1) := by
          show _ = _
          rw [HI.out, cmpL_ends _ _ (.inl (List.drop_eq_nil_of_le (by rw [← Lib.size_eq]; omega)))]
          simp only [List.length_drop, ← Lib.size_eq]
          rw [if_pos (by omega)]
        clear HI
        go_wp2
        go_ret
        exact ⟨by rw [HI2.out]; rfl, hbel⟩
      · have HI2 : Hid (R = 0) := by
          show _ = _
          rw [HI.out, cmpL_ends _ _ (.inl (List.drop_eq_nil_of_le (by rw [← Lib.size_eq]; omega)))]
          simp only [List.length_drop, ← Lib.size_eq]
          rw [if_neg (by omega), if_neg (by omega)]
        have h6 : ¬ (b.size : Int) < (a.size : Int) := by omega
        clear HI
        go_wp2
        go_ret
        exact ⟨by rw [HI2.out]; rfl, hbel⟩

theorem dec_other (c : UInt8) (r : List UInt8) (h : c ≠ 0) : dec (c :: r) = ((dec r).1 + 1, (dec r).2.map (c :: ·)) := by
  cases r with
  | nil => simp [dec]
  | cons d r => simp [dec, h]

theorem map_step (o : Option (List UInt8)) (acc : List UInt8) (c : UInt8) : (o.map (c :: ·)).map (acc ++ ·) = o.map ((acc ++ [c]) ++ ·) := by
  cases o <;> simp

/-- What ref's Unescape answers. -/
def unR (R : Nat × Option (List UInt8)) (a : Nat) : Value := .tuple #[.string (bs (R.2.getD [])), .int .i64 ((a : Int) + (R.1 : Int)), .int .i64 (if R.2.isSome then 0 else 10)]

set_option maxHeartbeats 1000000 in
theorem runesc_any (s : ByteArray) (a : Nat) (ha : a ≤ s.size) (w : World) (hs : s.size ≤ 4294967296) :
    Calls Try.prog 20 #[.string s, .int .i64 (a : Int)] w fun e w' => e = .returned (unR (dec (s.data.toList.drop a)) a) ∧ Below w.heap.size w w' := by
  obtain ⟨R, hR⟩ : ∃ R, dec (s.data.toList.drop a) = R := ⟨_, rfl⟩
  rw [hR]
  have HR : Hid (dec (s.data.toList.drop a) = R) := hR
  clear hR
  have h1 : ¬ (a : Int) < 0 := by omega
  have h2 : ¬ (s.size : Int) < (a : Int) := by omega
  go_enter Try.func20, Try.ntmps20
  go_wp2
  go_loopw [7, 8] (fun v i wr => ∃ (k : Nat) (acc : List UInt8), a ≤ k ∧ k ≤ s.size ∧ acc.length ≤ k ∧ i = .int .i64 k ∧ BOwn 5 wr w.heap.size v acc ∧ Below w.heap.size w wr ∧ w.heap.size ≤ wr.heap.size ∧
      Hid (R = ((k - a) + (dec (s.data.toList.drop k)).1, (dec (s.data.toList.drop k)).2.map (acc ++ ·)))) (fun _ i _ => s.size - (intOf i).toNat)
  case atStart => exact ⟨a, [], Nat.le_refl _, ha, Nat.zero_le _, rfl, BOwn.nil _ _ _, Below.refl _ _, Nat.le_refl _, by show _ = _; rw [HR.out]; simp⟩
  case round =>
    obtain ⟨k, acc, hak, hk, hacc, rfl, hown, hbel, hsz, HI⟩ := hrel
    have hlen0 : acc.length ≤ 1099511627776 := by omega
    by_cases hlt : k < s.size
    · have hdr : s.data.toList.drop k = s[k] :: s.data.toList.drop (k + 1) := by
        rw [List.drop_eq_getElem_cons (by rw [← Lib.size_eq]; exact hlt)]; rfl
      have hI := HI.out
      rw [hdr] at hI
      by_cases h0 : s[k] = 0
      · have hb : ((s[k].toNat : Int) != 0) = false := by have := byte_ne s[k] 0 (by omega); rw [show ((0 : Nat) : Int) = 0 from rfl] at this; rw [this]; simpa using h0
        rw [h0] at hI
        by_cases hk1 : k + 1 = s.size
        · have hk1' : ((k : Int) + 1 == (s.size : Int)) = true := by rw [beq_iff_eq]; omega
          have HI2 : Hid (R = (s.size - a, none)) := by
            show _ = _
            rw [hI, List.drop_eq_nil_of_le (by rw [← Lib.size_eq]; omega)]
            simp [dec]; omega
          have HK : Hid (k + 1 = s.size) := hk1
          clear hI hdr HI h0 hk1
          go_wp2
          go_ret3
          exact ⟨by rw [HI2.out]; simp [unR, bs]; omega, hbel⟩
        · have hk1' : ((k : Int) + 1 == (s.size : Int)) = false := by rw [beq_eq_false_iff_ne]; omega
          have hlt1 : k + 1 < s.size := by omega
          have hdr1 : s.data.toList.drop (k + 1) = s[k + 1] :: s.data.toList.drop (k + 2) := by
            rw [List.drop_eq_getElem_cons (by rw [← Lib.size_eq]; exact hlt1)]; rfl
          rw [hdr1] at hI
          have hlt2 : (k : Int) + 1 < (s.size : Int) := by omega
          have htn : ((k : Int) + 1).toNat = k + 1 := by omega
          by_cases h3 : s[k + 1] = 1
          · have hb3 : ((s[k + 1].toNat : Int) == 1) = true := by have := byte_eq s[k + 1] 1 (by omega); rw [show ((1 : Nat) : Int) = 1 from rfl] at this; rw [this]; simpa using h3
            have HI2 : Hid (R = ((k - a) + 2, some acc)) := by show _ = _; rw [hI, h3]; simp [dec]
            have hcv := run_string_own (P := Try.prog) wr 39 9 5 Try.underlying39 Try.underlying5 Try.underlying9 _ _ _ hown
            clear hI hdr hdr1 HI h0 h3 hk1 hown
            go_wp2
            go_ret3
            exact ⟨by rw [HI2.out]; simp [unR]; omega, hbel⟩
          · have hb3 : ((s[k + 1].toNat : Int) == 1) = false := by have := byte_eq s[k + 1] 1 (by omega); rw [show ((1 : Nat) : Int) = 1 from rfl] at this; rw [this]; simpa using h3
            by_cases h4 : s[k + 1] = 255
            · have hb4 : ((s[k + 1].toNat : Int) != 255) = false := by have := byte_ne s[k + 1] 255 (by omega); rw [show ((255 : Nat) : Int) = 255 from rfl] at this; rw [this]; simpa using h4
              have HI2 : Hid (R = ((k + 2 - a) + (dec (s.data.toList.drop (k + 2))).1, (dec (s.data.toList.drop (k + 2))).2.map ((acc ++ [0]) ++ ·))) := by
                show _ = _
                rw [hI, h4, dec, if_pos rfl, if_neg (by decide), if_pos rfl, map_step]
                simp; omega
              clear hI hdr hdr1 HI h0 h3 h4 hk1
              go_wp2_with (at_builtin; refine wpList_append_byte rfl (.tmp 55) (.tmp 56) 39 rfl 5 Try.underlying39 info5 w.heap.size _ _ rfl hown 0 _ rfl 1 rfl hlen0 hsz w.heap.size w hbel (Nat.le_refl _) ?_; intro v1 w1 hown1 hbel1 hsz1)
              go_roundw
              case rel => exact ⟨k + 2, acc ++ [0], by omega, by omega, by rw [List.length_append]; simp; omega, by go_num, hown1, hbel1, hsz1, HI2⟩
              case measure => simp [intOf]; omega
            · have hb4 : ((s[k + 1].toNat : Int) != 255) = true := by have := byte_ne s[k + 1] 255 (by omega); rw [show ((255 : Nat) : Int) = 255 from rfl] at this; rw [this]; simpa using h4
              have HI2 : Hid (R = ((k - a) + 1, none)) := by
                show _ = _
                rw [hI, dec, if_pos rfl, if_neg h3, if_neg h4]; rfl
              clear hI hdr hdr1 HI h0 h3 h4 hk1
              go_wp2
              go_ret3
              exact ⟨by rw [HI2.out]; simp [unR, bs]; omega, hbel⟩
      · have hb : ((s[k].toNat : Int) != 0) = true := by have := byte_ne s[k] 0 (by omega); rw [show ((0 : Nat) : Int) = 0 from rfl] at this; rw [this]; simpa using h0
        have HI2 : Hid (R = ((k + 1 - a) + (dec (s.data.toList.drop (k + 1))).1, (dec (s.data.toList.drop (k + 1))).2.map ((acc ++ [s[k]]) ++ ·))) := by
          show _ = _
          rw [hI, dec_other _ _ h0, map_step]
          simp; omega
        clear hI hdr HI h0
        go_wp2_with (at_builtin; refine wpList_append_byte rfl (.tmp 26) (.tmp 30) 39 rfl 5 Try.underlying39 info5 w.heap.size _ _ rfl hown s[k] _ rfl 1 rfl hlen0 hsz w.heap.size w hbel (Nat.le_refl _) ?_; intro v1 w1 hown1 hbel1 hsz1)
        go_roundw
        case rel => exact ⟨k + 1, acc ++ [s[k]], by omega, by omega, by rw [List.length_append]; simp; omega, by go_num, hown1, hbel1, hsz1, HI2⟩
        case measure => simp [intOf]; omega
    · have HI2 : Hid (R = (s.size - a, none)) := by
        show _ = _
        rw [HI.out, List.drop_eq_nil_of_le (by rw [← Lib.size_eq]; omega)]
        simp [dec]; omega
      clear HI
      go_wp2
      go_ret3
      exact ⟨by rw [HI2.out]; simp [unR, bs]; omega, hbel⟩

theorem runesc_arg (s : ByteArray) (a : Int) (ha : a < 0 ∨ (s.size : Int) < a) (w : World) :
    Calls Try.prog 20 #[.string s, .int .i64 a] w fun e w' => e = .returned (.tuple #[.string (bs []), .int .i64 0, .int .i64 1]) ∧ Below w.heap.size w w' := by
  by_cases h1 : a < 0
  · go_enter Try.func20, Try.ntmps20
    go_wp2_with fail
    go_ret3
    exact ⟨rfl, Below.refl _ _⟩
  · have h2 : (s.size : Int) < a := by omega
    go_enter Try.func20, Try.ntmps20
    go_wp2_with fail
    go_ret3
    exact ⟨rfl, Below.refl _ _⟩
end Go.Proofs.Ytcbkfnoggheddaa
