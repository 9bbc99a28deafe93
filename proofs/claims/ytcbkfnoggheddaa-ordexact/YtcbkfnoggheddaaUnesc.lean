/- What ord.Unescape and what it calls do (contracts; nothing is claimed here). -/
import Derived.Test.YtcbkfnoggheddaaEsc
namespace Go.Proofs.Ytcbkfnoggheddaa
open Go.RowKit Go.Vf

set_option maxHeartbeats 1000000 in
theorem plain_any (s : ByteArray) (t : List UInt8) (ht : s.data.toList = inner t) (w : World) (hs : s.size ≤ 4294967296) :
    Calls Try.prog 25 #[.string s] w fun e w' => e = .returned (.string (bs t)) ∧ Below w.heap.size w w' := by
  have hmk : ∀ w : World, (Instr.makeSlice 39 (.int .i64 (s.size : Int)) (.int .i64 (s.size : Int))).run Try.prog w = .ok (.slice (some ⟨w.heap.size, 0, none⟩) s.size s.size) (w.alloc (.cells (madeCells #[.int .u8 0] s.size) 5)) := fun w =>
    run_make_row' (P := Try.prog) 39 5 (.int .u8 0) 1 Try.underlying39 info5 rfl .i64 .i64 s.size (by omega) (by omega) w
  have hm := BRow.made w s.size 5
  have HT : Hid (s.data.toList = inner t) := ht
  have HI : Hid ((inner t).length = s.size) := by show _ = _; rw [← ht, ← Lib.size_eq]
  clear ht
  go_enter Try.func25, Try.ntmps25
  go_wp2
  go_loopw [4, 5, 12] (fun n f i wr => ∃ (k fr : Nat) (acc : List UInt8), k ≤ s.size ∧ i = .int .i64 k ∧ f = .int .i64 fr ∧ n = .int .i64 (acc.length : Nat) ∧ PlInv t k fr acc ∧ BRow wr w.heap.size (fill acc s.size) ∧ Below w.heap.size w wr) (fun _ _ i _ => s.size - (intOf i).toNat)
  case atStart => exact ⟨0, 0, [], Nat.zero_le _, rfl, rfl, rfl, PlInv.zero _, by rw [fill_nil]; exact hm, (Below.refl _ _).alloc (Nat.le_refl _) _⟩
  case round =>
    obtain ⟨k, fr, acc, hk, rfl, rfl, rfl, hinv, hrow, hbel⟩ := hrel
    have hI := HI.out
    have hle := hinv.le (by omega)
    have hn : acc.length ≤ s.size := by omega
    have hcut : ∀ W, (Instr.slice 39 (.slice (some ⟨w.heap.size, 0, none⟩) s.size s.size) (some (.int .i64 (acc.length : Int))) none none).run Try.prog W = .ok (cutV w.heap.size s.size acc.length) W := fun W => run_cut W 39 5 Try.underlying39 size5 w.heap.size s.size acc.length hn
    clear hm hmk
    by_cases hlt : k < s.size
    · have hkl : k < (inner t).length := by omega
      have hsk : (inner t)[k] = s[k] := by
        have : (inner t)[k] = s.data.toList[k]'(by rw [HT.out]; exact hkl) := by simp [HT.out]
        rw [this]; rfl
      by_cases h0 : s[k] = 0
      · have hb : ((s[k].toNat : Int) == 0) = true := by rw [byte_zero]; simpa using h0
        obtain ⟨hinv2, hf0, hk2⟩ := hinv.null hkl (by rw [hsk, h0])
        clear h0 hsk
        have hw1 : IntKind.i64.wrap ((k : Int) + 1) = (k : Int) + 1 := IntWalk.i64_in _ ⟨by omega, by omega⟩
        have hf1 : (fr : Int) ≤ (k : Int) + 1 := by omega
        have hf2 : (k : Int) + 1 ≤ (s.size : Int) := by omega
        obtain ⟨m, hm⟩ : ∃ m, m = k + 1 - fr := ⟨_, rfl⟩
        have hts : (s.extract fr (k + 1)).size = m := by rw [Lib.size_eq, Lib.extract_data]; simp; omega
        obtain ⟨acc2, ha2⟩ : ∃ acc2, acc2 = acc ++ (s.extract fr (k + 1)).data.toList := ⟨_, rfl⟩
        have hl2 : acc2.length = acc.length + m := by rw [ha2, List.length_append, ← Lib.size_eq, hts]
        have hinv3 : PlInv t (k + 1) (k + 2) acc2 := by rw [ha2, Lib.extract_data, HT.out]; exact hinv2
        have hfit : acc.length + m ≤ s.size := by have := hle.2 hf0; omega
        have hw2 : IntKind.i64.wrap ((acc.length : Int) + (m : Int)) = ((acc.length + m : Nat) : Int) := by rw [IntWalk.i64_in _ ⟨by omega, by omega⟩]; omega
        have HTS : Hid ((s.extract fr (k + 1)).size = m) := hts
        have HA : Hid (acc2 = acc ++ (s.extract fr (k + 1)).data.toList) := ha2
        have HL : Hid (acc2.length = acc.length + m) := hl2
        clear hts ha2 hl2 hm hle hinv2 hinv hI
        go_wp2
        go_region_law (refine step_copy_fill rfl (.tmp 22) (.tmp 27) 39 9 rfl 5 Try.underlying39 size5 w.heap.size s.size acc (by simp [Act.eval, Act.put]) (s.extract fr (k + 1)) (by simp [Act.eval, Act.put]) m HTS.out acc2 HA.out hfit hrow.drew w.heap.size w hbel.drew (Nat.le_refl _) ?_; intro w2 hrow2 hbel2 HS2)
        clear hrow hbel
        go_wp2
        go_roundw
        case rel => exact ⟨k + 1, k + 2, acc2, by omega, by go_num, by go_num, by rw [HL.out]; go_num, hinv3, hrow2, hbel2⟩
        case measure => simp [intOf]; omega
      · have hb : ((s[k].toNat : Int) == 0) = false := by rw [byte_zero]; simpa using h0
        have hinv2 := hinv.other hkl (by rw [hsk]; exact h0)
        clear h0 hsk hle hinv hI
        go_wp2
        go_roundw
        case rel => exact ⟨k + 1, fr, acc, by omega, by go_num, rfl, rfl, hinv2, hrow, hbel⟩
        case measure => simp [intOf]; omega
    · have hk' : k = (inner t).length := by omega
      rw [hk'] at hinv
      obtain ⟨hend, hf0⟩ := hinv.done
      have hf1 : (fr : Int) ≤ (s.size : Int) := by omega
      obtain ⟨m, hm⟩ : ∃ m, m = s.size - fr := ⟨_, rfl⟩
      have hts : (s.extract fr s.size).size = m := by rw [Lib.size_eq, Lib.extract_data]; simp; omega
      have hacc : t = acc ++ (s.extract fr s.size).data.toList := by
        rw [Lib.extract_data, List.take_of_length_le (by simp), HT.out, hend]
      have hl2 : t.length = acc.length + m := by rw [hacc, List.length_append, ← Lib.size_eq, hts]
      have hfit : acc.length + m ≤ s.size := by have := length_inner_ge t; omega
      have hw2 : IntKind.i64.wrap ((acc.length : Int) + (m : Int)) = ((acc.length + m : Nat) : Int) := by rw [IntWalk.i64_in _ ⟨by omega, by omega⟩]; omega
      have HTS : Hid ((s.extract fr s.size).size = m) := hts
      have HA : Hid (t = acc ++ (s.extract fr s.size).data.toList) := hacc
      have HL : Hid (t.length = acc.length + m) := hl2
      clear hts hacc hl2 hm hle hinv hend hk' hI
      go_wp2
      go_region_law (refine step_copy_fill rfl (.tmp 36) (.tmp 39) 39 9 rfl 5 Try.underlying39 size5 w.heap.size s.size acc (by simp [Act.eval, Act.put]) (s.extract fr s.size) (by simp [Act.eval, Act.put]) m HTS.out t HA.out hfit hrow.drew w.heap.size w hbel.drew (Nat.le_refl _) ?_; intro w2 hrow2 hbel2 HS2)
      have hcv := fun cap => run_string_row (P := Try.prog) w2 39 9 5 Try.underlying39 Try.underlying5 Try.underlying9 w.heap.size (acc.length + m) cap _ (by rw [fill_length _ _ (by rw [HL.out]; exact hfit)]; exact hfit) hrow2
      have hfull : List.take (acc.length + m) (fill t s.size) = t := by
        have h := fill_take t s.size
        rwa [HL.out] at h
      rw [hfull] at hcv
      clear hrow2 hrow hbel hfull
      go_wp2
      go_ret
      exact ⟨rfl, hbel2⟩

theorem scan_step (op : Bool) (c : UInt8) (r : List UInt8) (h1 : ¬ (op = true ∧ c = 1)) (h2 : ¬ (op = true ∧ c ≠ 255)) : scan op (c :: r) = ((scan (c == 0) r).1 + 1, (scan (c == 0) r).2) := by
  rw [scan, if_neg h1, if_neg h2]

theorem byte_eq (x : UInt8) (n : Nat) (hn : n < 256) : ((x.toNat : Int) == (n : Int)) = decide (x = UInt8.ofNat n) := by
  rw [Bool.eq_iff_iff]
  simp [← UInt8.toNat_inj, Nat.mod_eq_of_lt hn]
  omega
theorem byte_ne (x : UInt8) (n : Nat) (hn : n < 256) : ((x.toNat : Int) != (n : Int)) = decide (x ≠ UInt8.ofNat n) := by
  rw [bne, byte_eq x n hn]; simp

set_option maxHeartbeats 1000000 in
theorem ending_any (s : ByteArray) (a : Nat) (ha : a ≤ s.size) (w : World) (hs : s.size ≤ 4294967296) :
    Calls Try.prog 24 #[.string s, .int .i64 (a : Int)] w fun e w' => e = .returned (.tuple #[.int .i64 ((a : Int) + ((scan false (s.data.toList.drop a)).1 : Int)), .bool (scan false (s.data.toList.drop a)).2]) ∧ w = w' := by
  obtain ⟨R, hR⟩ : ∃ R, scan false (s.data.toList.drop a) = R := ⟨_, rfl⟩
  rw [hR]
  have HR : Hid (scan false (s.data.toList.drop a) = R) := hR
  clear hR
  go_enter Try.func24, Try.ntmps24
  go_wp2
  go_loop [6, 13] (fun o i => ∃ (k : Nat) (op : Bool), a + k ≤ s.size ∧ i = .int .i64 k ∧ o = .bool op ∧ Hid (R = (k + (scan op (s.data.toList.drop (a + k))).1, (scan op (s.data.toList.drop (a + k))).2))) (fun _ i => s.size - (intOf i).toNat)
  case atStart => exact ⟨0, false, by omega, rfl, rfl, by show _ = _; rw [← HR.out]; simp⟩
  case round =>
    obtain ⟨k, op, hk, rfl, rfl, HI⟩ := hrel
    by_cases hlt : a + k < s.size
    · have hdr : s.data.toList.drop (a + k) = s[a + k] :: s.data.toList.drop (a + k + 1) := by
        rw [List.drop_eq_getElem_cons (by rw [← Lib.size_eq]; exact hlt)]; rfl
      have hI := HI.out
      rw [hdr] at hI
      have hlt1 : (k : Int) < (s.size : Int) - (a : Int) := by omega
      have hlt2 : (a : Int) + (k : Int) < (s.size : Int) := by omega
      cases op with
      | true =>
        by_cases h1 : s[a + k] = 1
        · have hb : ((s[a + k].toNat : Int) == 1) = true := by have := byte_eq s[a + k] 1 (by omega); rw [show ((1 : Nat) : Int) = 1 from rfl] at this; rw [this]; simpa using h1
          have hI2 : Hid (R = (k + 1, true)) := by show _ = _; rw [hI, scan, if_pos ⟨rfl, h1⟩]
          clear hI hdr HI h1
          go_wp2
          go_ret2
          exact ⟨by rw [hI2.out]; simp; omega, rfl⟩
        · have hb : ((s[a + k].toNat : Int) == 1) = false := by have := byte_eq s[a + k] 1 (by omega); rw [show ((1 : Nat) : Int) = 1 from rfl] at this; rw [this]; simpa using h1
          by_cases h2 : s[a + k] = 255
          · have hb2 : ((s[a + k].toNat : Int) != 255) = false := by have := byte_ne s[a + k] 255 (by omega); rw [show ((255 : Nat) : Int) = 255 from rfl] at this; rw [this]; simpa using h2
            have hI2 : Hid (R = (k + 1 + (scan (s[a + k] == 0) (s.data.toList.drop (a + k + 1))).1, (scan (s[a + k] == 0) (s.data.toList.drop (a + k + 1))).2)) := by
              show _ = _
              rw [hI, scan_step _ _ _ (by simpa using h1) (by simpa using h2)]; simp; omega
            clear hI hdr HI h1 h2
            go_wp2
            go_round
            case rel => exact ⟨k + 1, s[a + k] == 0, by omega, by go_num, congrArg Value.bool (by rw [byte_zero]; rfl), hI2⟩
            case measure => simp [intOf]; omega
          · have hb2 : ((s[a + k].toNat : Int) != 255) = true := by have := byte_ne s[a + k] 255 (by omega); rw [show ((255 : Nat) : Int) = 255 from rfl] at this; rw [this]; simpa using h2
            have hI2 : Hid (R = (k, false)) := by show _ = _; rw [hI, scan, if_neg (by simpa using h1), if_pos ⟨rfl, h2⟩]; rfl
            clear hI hdr HI h1 h2
            go_wp2
            go_ret2
            exact ⟨by rw [hI2.out]; rfl, rfl⟩
      | false =>
        have hI2 : Hid (R = (k + 1 + (scan (s[a + k] == 0) (s.data.toList.drop (a + k + 1))).1, (scan (s[a + k] == 0) (s.data.toList.drop (a + k + 1))).2)) := by
          show _ = _
          rw [hI, scan_step _ _ _ (by simp) (by simp)]; simp; omega
        clear hI hdr HI
        go_wp2
        go_round
        case rel => exact ⟨k + 1, s[a + k] == 0, by omega, by go_num, congrArg Value.bool (by rw [byte_zero]; rfl), hI2⟩
        case measure => simp [intOf]; omega
    · have hI2 : Hid (R = (k, false)) := by
        show _ = _
        rw [HI.out, List.drop_eq_nil_of_le (by rw [← Lib.size_eq]; omega)]
        simp [scan]
      have hge : ¬ (k : Int) < (s.size : Int) - (a : Int) := by omega
      clear HI
      go_wp2
      go_ret2
      exact ⟨by rw [hI2.out]; simp; omega, rfl⟩

theorem ending_at (s : ByteArray) (a : Nat) (ha : a ≤ s.size) (n : Nat) (b : Bool) (hsc : scan false (s.data.toList.drop a) = (n, b)) (w : World) (hs : s.size ≤ 4294967296) :
    Calls Try.prog 24 #[.string s, .int .i64 (a : Int)] w fun e w' => e = .returned (.tuple #[.int .i64 ((a : Int) + (n : Int)), .bool b]) ∧ w = w' := by
  have h := ending_any s a ha w hs
  rw [hsc] at h
  exact h

/-- OK: an escaped text stands there. -/
theorem unescape_ok (s : ByteArray) (a : Nat) (ha : a ≤ s.size) (n : Nat) (t : List UInt8) (hd : dec (s.data.toList.drop a) = (n, some t)) (w : World) (hs : s.size ≤ 4294967296) :
    Calls Try.prog 12 #[.string s, .int .i64 (a : Int)] w fun e w' => e = .returned (.tuple #[.string (bs t), .int .i64 ((a : Int) + (n : Int)), .int .i64 0]) ∧ Below w.heap.size w w' := by
  obtain ⟨r, hr, hn⟩ := dec_some hd
  have hsc : scan false (s.data.toList.drop a) = (n, true) := by rw [scan_dec, hd]; rfl
  have hlen := congrArg List.length hr
  simp at hlen
  have h1 : ¬ (a : Int) < 0 := by omega
  have h2 : ¬ (s.size : Int) < (a : Int) := by omega
  have hx : (s.extract a (a + n - 2)).data.toList = inner t := by
    rw [Lib.extract_data, hr, show a + n - 2 - a = (inner t).length by omega]; simp
  have hxs : (s.extract a (a + n - 2)).size ≤ 4294967296 := by rw [Lib.size_eq, Lib.extract_data]; simp; omega
  have HX : Hid ((s.extract a (a + n - 2)).data.toList = inner t) := hx
  have HS : Hid (scan false (s.data.toList.drop a) = (n, true)) := hsc
  have hn2 : 2 ≤ n := by omega
  have hn3 : a + n ≤ s.size := by omega
  have hn4 : (a : Int) ≤ (a : Int) + (n : Int) - 2 := by omega
  have hn5 : (a : Int) + (n : Int) - 2 ≤ (s.size : Int) := by omega
  have htn : ((a : Int) + (n : Int) - 2).toNat = a + n - 2 := by omega
  clear hx hr hsc hlen hd hn
  go_enter Try.func12, Try.ntmps12
  go_wp2_with fail
  refine (ending_at s a ha n true HS.out _ hs).mono ?_
  rintro e w' ⟨rfl, rfl⟩
  go_wp2_with fail
  refine (plain_any (s.extract a (a + n - 2)) t HX.out _ hxs).mono ?_
  rintro e w' ⟨rfl, hb⟩
  go_wp2_with fail
  go_ret3
  exact ⟨rfl, hb⟩

/-- None stands there. -/
theorem unescape_bad (s : ByteArray) (a : Nat) (ha : a ≤ s.size) (n : Nat) (hd : dec (s.data.toList.drop a) = (n, none)) (w : World) (hs : s.size ≤ 4294967296) :
    Calls Try.prog 12 #[.string s, .int .i64 (a : Int)] w fun e w' => e = .returned (.tuple #[.string (bs []), .int .i64 ((a : Int) + (n : Int)), .int .i64 10]) ∧ Below w.heap.size w w' := by
  have hsc : scan false (s.data.toList.drop a) = (n, false) := by rw [scan_dec, hd]; rfl
  have h1 : ¬ (a : Int) < 0 := by omega
  have h2 : ¬ (s.size : Int) < (a : Int) := by omega
  have HS : Hid (scan false (s.data.toList.drop a) = (n, false)) := hsc
  have hn3 : n ≤ s.size := by have := dec_le (s.data.toList.drop a); rw [hd] at this; simp at this; omega
  clear hsc hd
  go_enter Try.func12, Try.ntmps12
  go_wp2_with fail
  refine (ending_at s a ha n false HS.out _ hs).mono ?_
  rintro e w' ⟨rfl, rfl⟩
  go_wp2_with fail
  go_ret3
  exact ⟨rfl, Below.refl _ _⟩

/-- No place of the text. -/
theorem unescape_arg (s : ByteArray) (a : Int) (ha : a < 0 ∨ (s.size : Int) < a) (w : World) :
    Calls Try.prog 12 #[.string s, .int .i64 a] w fun e w' => e = .returned (.tuple #[.string (bs []), .int .i64 0, .int .i64 1]) ∧ Below w.heap.size w w' := by
  by_cases h1 : a < 0
  · go_enter Try.func12, Try.ntmps12
    go_wp2_with fail
    go_ret3
    exact ⟨rfl, Below.refl _ _⟩
  · have h2 : (s.size : Int) < a := by omega
    go_enter Try.func12, Try.ntmps12
    go_wp2_with fail
    go_ret3
    exact ⟨rfl, Below.refl _ _⟩
end Go.Proofs.Ytcbkfnoggheddaa
