/- lit's reader in memory; what skip and row do (contracts; nothing is claimed here). · What lit's row does (contracts; nothing is claimed here). · What the document's Says, has and row of layer 10 do (contracts; nothing is claimed here). -/
import Derived.Test.YtffhbellpcneeaaJ7
namespace Go.Proofs.Ytffhbellpcneeaa
open Go.RowKit Go.Vf

/-- The reader at block B: its text and its place. -/
abbrev Rdr (w : World) (B : Nat) (s : ByteArray) (k : Nat) : Prop := Blk w B 68 #[.string s, .int .i64 (k : Int)]
/-- Behind a call of the reader's: it stands at k; all that was there but its own block is as it was. -/
structure Rk (B : Nat) (s : ByteArray) (k : Nat) (w w' : World) : Prop where
  below : Below B w w'
  keep : ∀ b, b < w.heap.size → b ≠ B → w'.heap[b]? = w.heap[b]?
  rdr : Rdr w' B s k
theorem Rk.refl {B : Nat} {s : ByteArray} {k : Nat} {w : World} (h : Rdr w B s k) : Rk B s k w w := ⟨Below.refl _ _, fun _ _ _ => rfl, h⟩
theorem Rk.trans {B : Nat} {s : ByteArray} {k k' : Nat} {a b c : World} (h : Rk B s k a b) (h' : Rk B s k' b c) : Rk B s k' a c :=
  ⟨h.below.trans h'.below, fun i hi hb => (h'.keep i (Nat.lt_of_lt_of_le hi h.below.size) hb).trans (h.keep i hi hb), h'.rdr⟩
theorem Rk.size {B : Nat} {s : ByteArray} {k : Nat} {w w' : World} (h : Rk B s k w w') : w.heap.size ≤ w'.heap.size := h.below.size
/-- A call that turns nothing that was there. -/
theorem Rk.old {B : Nat} {s : ByteArray} {k : Nat} {a b c : World} (h : Rk B s k a b) (h' : Below b.heap.size b c) : Rk B s k a c :=
  ⟨h.below.trans (h'.mono (Nat.le_of_lt h.rdr.lt)), fun i hi hb => (h'.block i (Nat.lt_of_lt_of_le hi h.below.size)).trans (h.keep i hi hb), h.rdr.old h'⟩
theorem Rk.draws {B : Nat} {s : ByteArray} {k : Nat} {a b : World} (h : Rk B s k a b) (n : Nat) : Rk B s k a (b.drewN n) :=
  ⟨⟨h.below.os, h.below.tape, h.below.output, h.below.size, h.below.block⟩, h.keep, h.rdr⟩
theorem Rk.at {B : Nat} {s : ByteArray} {k : Nat} {a b : World} (h : Rk B s k a b) (k' : Nat) : Rk B s k' a (b.setCell ⟨B, 1, none⟩ (.int .i64 (k' : Int))) :=
  ⟨h.below.setCell (p := ⟨B, 1, none⟩) (Nat.le_refl _) _, fun i hi hb => (Below.heap_setCell b ⟨B, 1, none⟩ _ i hb).trans (h.keep i hi hb), h.rdr.set 1 _⟩
theorem set_size (w : World) (a : Addr) (v : Value) : (w.setCell a v).heap.size = w.heap.size := by simp [World.setCell]
theorem draw_size (w : World) (n : Nat) : (w.drewN n).heap.size = w.heap.size := rfl
/-- What stood in memory, behind the reader's block. -/
theorem Rk.vin {B : Nat} {s : ByteArray} {k : Nat} {w w' : World} (h : Rk B s k w w') {b : Nat} (h1 : b < w.heap.size) (h2 : B < b) : w'.heap[b]? = w.heap[b]? := h.keep b h1 (by omega)

theorem ext_drop (s : ByteArray) (k : Nat) : s.extract k s.size = bs (s.data.toList.drop k) := data_inj (by rw [bs_data]; simp; exact List.take_of_length_le (by simp))
theorem ext_mid (s : ByteArray) (k j : Nat) : s.extract k (k + j) = bs ((s.data.toList.drop k).take j) := data_inj (by rw [bs_data]; simp [List.take_drop])
theorem drop_len (s : ByteArray) (k : Nat) : (s.data.toList.drop k).length = s.size - k := by rw [List.length_drop, ← Lib.size_eq]
theorem hasPre_q (s p : ByteArray) (w : World) (hs : s.size ≤ 17179869184) (hp : p.size ≤ 17179869184) :
    Calls Try.prog 87 #[.string s, .string p] w fun e w' => e = .returned (.bool (p.data.toList.isPrefixOf s.data.toList)) ∧ w' = w := (hasPre_any s p w hs hp).mono fun _ _ h => ⟨h.1, h.2.symm⟩
theorem index_q (s : ByteArray) (c : Int) (w : World) : Calls Try.prog 81 #[.string s, .int .u8 c] w fun e w' => e = .returned (.int .i64 (Lib.indexByte s.data.toList c.toNat.toUInt8)) ∧ w' = w := (indexByte_any s c w).mono fun _ _ h => ⟨h.1, h.2.symm⟩

set_option maxHeartbeats 400000 in
theorem skip_yes (B k : Nat) (s word : ByteArray) (hs : s.size ≤ 65536) (hk : k ≤ s.size) (hw : word.size ≤ 65536) (w : World) (h : Rdr w B s k) (hp : word.data.toList.isPrefixOf (s.data.toList.drop k) = true) :
    Calls Try.prog 72 #[.pointer (some ⟨B, 0, none⟩), .string word] w fun e w' => e = .returned (.bool true) ∧ Rk B s (k + word.size) w w' ∧ w'.heap.size = w.heap.size := by
  have c0 := h.cell 0
  have c1 := h.cell 1
  have f1 := h.frozen 1
  simp only [List.getElem?_toArray, List.getElem?_cons_zero, List.getElem?_cons_succ] at c0 c1
  have hx := ext_drop s k
  have hq := fun w => hasPre_q (bs (s.data.toList.drop k)) word w (by rw [bs_size, drop_len]; omega) (by omega)
  rw [bs_data, hp] at hq
  generalize bs (s.data.toList.drop k) = T at hx hq
  have HR : Hid (Rdr w B s k) := h
  clear hp h
  go_enter Try.func72, Try.ntmps72
  go_wp2_with fail
  go_quiet (first | (go_at_call 87; refine Calls.quiet_of_same (hq _)))
  go_wp2
  go_ret
  exact ⟨rfl, ((Rk.refl HR.out).draws _).at _, set_size _ _ _⟩
theorem skip_no (B k : Nat) (s word : ByteArray) (hs : s.size ≤ 65536) (hk : k ≤ s.size) (hw : word.size ≤ 65536) (w : World) (h : Rdr w B s k) (hp : word.data.toList.isPrefixOf (s.data.toList.drop k) = false) :
    Calls Try.prog 72 #[.pointer (some ⟨B, 0, none⟩), .string word] w fun e w' => e = .returned (.bool false) ∧ Rk B s k w w' ∧ w'.heap.size = w.heap.size := by
  have c0 := h.cell 0
  have c1 := h.cell 1
  simp only [List.getElem?_toArray, List.getElem?_cons_zero, List.getElem?_cons_succ] at c0 c1
  have hx := ext_drop s k
  have hq := fun w => hasPre_q (bs (s.data.toList.drop k)) word w (by rw [bs_size, drop_len]; omega) (by omega)
  rw [bs_data, hp] at hq
  generalize bs (s.data.toList.drop k) = T at hx hq
  have HR : Hid (Rdr w B s k) := h
  clear hp h
  go_enter Try.func72, Try.ntmps72
  go_wp2_with fail
  go_quiet (first | (go_at_call 87; refine Calls.quiet_of_same (hq _)))
  go_wp2
  go_ret
  exact ⟨rfl, (Rk.refl HR.out).draws _, rfl⟩
end Go.Proofs.Ytffhbellpcneeaa

namespace Go.Proofs.Ytffhbellpcneeaa
open Go.RowKit Go.Vf
def atOf (w : World) (B : Nat) : Nat := match w.cell? ⟨B, 1, none⟩ with
  | some (.int _ i) => i.toNat
  | _ => 0
theorem Rdr.atOf {w : World} {B : Nat} {s : ByteArray} {k : Nat} (h : Rdr w B s k) : atOf w B = k := by
  have c1 := h.cell 1
  simp only [List.getElem?_toArray, List.getElem?_cons_zero, List.getElem?_cons_succ] at c1
  unfold Go.Proofs.Ytffhbellpcneeaa.atOf
  rw [c1]; simp
set_option maxHeartbeats 1000000 in
theorem row_any (among : ByteArray) (P : UInt8 → Bool) (hP : ∀ c, decide (0 ≤ Lib.indexByte among.data.toList c) = P c) (B k : Nat) (s : ByteArray) (hs : s.size ≤ 65536) (hk : k ≤ s.size) (w : World) (h : Rdr w B s k) :
    Calls Try.prog 68 #[.pointer (some ⟨B, 0, none⟩), .string among] w fun e w' => e = .returned (.string (bs ((s.data.toList.drop k).takeWhile P))) ∧ Rk B s (k + ((s.data.toList.drop k).takeWhile P).length) w w' ∧ w'.heap.size = w.heap.size := by
  generalize hT : (s.data.toList.drop k).takeWhile P = T
  have HT : Hid ((s.data.toList.drop k).takeWhile P = T) := hT
  clear hT
  have c0 := h.cell 0
  have c1 := h.cell 1
  simp only [List.getElem?_toArray, List.getElem?_cons_zero, List.getElem?_cons_succ] at c0 c1
  have HR : Hid (Rdr w B s k) := h
  clear h
  go_enter Try.func68, Try.ntmps68
  go_wp2_with fail
  clear c0 c1
  go_loopw [] (fun wr => ∃ (m : Nat), k ≤ m ∧ m ≤ s.size ∧ Hid ((s.data.toList.drop k).take (m - k) ++ (s.data.toList.drop m).takeWhile P = T) ∧ Rk B s m w wr ∧ wr.heap.size = w.heap.size) (fun wr => s.size - atOf wr B)
  case atStart => exact ⟨k, by omega, hk, by show _ = _; simpa using HT.out, Rk.refl HR.out, rfl⟩
  case round =>
    clear HT HR
    obtain ⟨m, hkm, hm, HJ, hrk, hsz⟩ := hrel
    have hat := hrk.rdr.atOf
    have HA : Hid (atOf wr B = m) := hat
    have d0 := hrk.rdr.cell 0
    have d1 := hrk.rdr.cell 1
    have f1 := hrk.rdr.frozen 1
    simp only [List.getElem?_toArray, List.getElem?_cons_zero, List.getElem?_cons_succ] at d0 d1
    clear hat
    by_cases hlt : m < s.size
    · have hi := index_q among (s[m].toNat : Int)
      rw [show ((s[m].toNat : Int).toNat.toUInt8) = s[m] by simp] at hi
      have hp := hP s[m]
      have hd := drop_at s m hlt
      cases hc : P s[m] with
      | true =>
        rw [hc] at hp
        have HN : Hid ((s.data.toList.drop k).take (m + 1 - k) ++ (s.data.toList.drop (m + 1)).takeWhile P = T) := by
          show _ = _
          have h0 := HJ.out
          rw [hd, List.takeWhile_cons_of_pos hc] at h0
          have e : (s.data.toList.drop k).take (m + 1 - k) = (s.data.toList.drop k).take (m - k) ++ [s[m]] := by
            have e1 : s.data.toList.drop m = (s.data.toList.drop k).drop (m - k) := by rw [List.drop_drop]; congr 1; omega
            rw [e1] at hd
            have hl : m - k < (s.data.toList.drop k).length := by rw [drop_len]; omega
            rw [show m + 1 - k = m - k + 1 by omega, List.take_succ_eq_append_getElem hl]
            congr 2
            have := List.drop_eq_getElem_cons hl
            rw [hd] at this
            exact (List.cons.inj this).1.symm
          rw [e, List.append_assoc]
          exact h0
        clear HJ hd hc hP
        generalize Lib.indexByte among.data.toList s[m] = I at hi hp
        go_wp2_with fail
        go_quiet (first | (go_at_call 81; refine Calls.quiet_of_same (hi _)))
        go_wp2_with fail
        go_roundw
        case rel => exact ⟨m + 1, by omega, by omega, HN, (hrk.draws _).at _, (set_size _ _ _).trans hsz⟩
        case measure =>
          have e : atOf ((wr.drewN nq).setCell ⟨B, 1, none⟩ (.int .i64 ((m : Int) + 1))) B = m + 1 := ((hrk.draws nq).at (m + 1)).rdr.atOf
          rw [HA.out, e]
          omega
      | false =>
        rw [hc] at hp
        have hTe : T = (s.data.toList.drop k).take (m - k) := by
          have h0 := HJ.out
          rw [hd, List.takeWhile_cons_of_neg (by rw [hc]; simp)] at h0
          simpa using h0.symm
        have hx : s.extract k m = bs T := by
          rw [hTe]
          have := ext_mid s k (m - k)
          rwa [show k + (m - k) = m by omega] at this
        have hl : k + T.length = m := by
          rw [hTe, List.length_take, drop_len]; omega
        have HL : Hid (k + T.length = m) := hl
        clear HJ hd hc hP hTe hl
        generalize Lib.indexByte among.data.toList s[m] = I at hi hp
        go_wp2_with fail
        go_quiet (first | (go_at_call 81; refine Calls.quiet_of_same (hi _)))
        go_wp2_with fail
        go_quiet (fail)
        go_wp2
        go_ret
        exact ⟨rfl, by rw [HL.out]; exact (hrk.draws _).draws _, hsz⟩
    · have hTe : T = (s.data.toList.drop k).take (m - k) := by
        have h0 := HJ.out
        rw [drop_end s m (by omega)] at h0
        simpa using h0.symm
      have hx : s.extract k m = bs T := by
        rw [hTe]
        have := ext_mid s k (m - k)
        rwa [show k + (m - k) = m by omega] at this
      have hl : k + T.length = m := by
        rw [hTe, List.length_take, drop_len]; omega
      have HL : Hid (k + T.length = m) := hl
      have hms : m = s.size := by omega
      have tf : decide ((m : Int) < (s.size : Int)) = false := decide_eq_false (by omega)
      have tf2 : decide (m < s.size) = false := decide_eq_false (by omega)
      clear HJ hP hTe hl hms hlt
      go_wp2_with fail
      go_region
      go_wp2_with fail
      go_quiet (fail)
      go_wp2
      go_ret
      exact ⟨rfl, by rw [HL.out]; exact (hrk.draws _).draws _, hsz⟩
end Go.Proofs.Ytffhbellpcneeaa

namespace Go.Proofs.Ytffhbellpcneeaa
open Go.RowKit Go.Vf

/-- What a digit says; -1 of another byte. -/
def sayV (c : UInt8) : Int := if 48 ≤ c.toNat ∧ c.toNat ≤ 57 then (c.toNat : Int) - 48 else if 97 ≤ c.toNat ∧ c.toNat ≤ 102 then (c.toNat : Int) - 87 else -1

set_option maxHeartbeats 400000 in
theorem says_any (c : UInt8) (w : World) : Calls Try.prog 77 #[.int .u8 (c.toNat : Int)] w fun e w' => e = .returned (.int .i64 (sayV c)) ∧ w' = w := by
  have hc := c.toNat_lt
  obtain ⟨n, hn⟩ : ∃ n, c.toNat = n := ⟨_, rfl⟩
  unfold sayV
  rw [hn] at hc ⊢
  clear hn
  by_cases h1 : 48 ≤ n ∧ n ≤ 57
  · rw [if_pos h1]
    obtain ⟨h1, h2⟩ := h1
    have t1 : decide ((48 : Int) ≤ (n : Int)) = true := decide_eq_true (by omega)
    have t2 : decide ((n : Int) ≤ 57) = true := decide_eq_true (by omega)
    go_enter Try.func77, Try.ntmps77
    go_wp2
    go_ret
    exact ⟨rfl, rfl⟩
  · rw [if_neg h1]
    have t1 : (decide ((48 : Int) ≤ (n : Int)) && decide ((n : Int) ≤ 57)) = false := by
      rw [Bool.and_eq_false_iff, decide_eq_false_iff_not, decide_eq_false_iff_not]; omega
    by_cases h2 : 97 ≤ n ∧ n ≤ 102
    · rw [if_pos h2]
      obtain ⟨h2, h3⟩ := h2
      have t2 : decide ((97 : Int) ≤ (n : Int)) = true := decide_eq_true (by omega)
      have t3 : decide ((n : Int) ≤ 102) = true := decide_eq_true (by omega)
      have t4 : decide ((48 : Int) ≤ (n : Int)) = true := decide_eq_true (by omega)
      have t5 : decide ((n : Int) ≤ 57) = false := decide_eq_false (by omega)
      have e : (n : Int) - 97 + 10 = n - 87 := by omega
      rw [← e]
      clear e
      go_enter Try.func77, Try.ntmps77
      go_wp2
      go_ret
      exact ⟨rfl, rfl⟩
    · rw [if_neg h2]
      go_enter Try.func77, Try.ntmps77
      by_cases h3 : n < 48
      · have t4 : decide ((48 : Int) ≤ (n : Int)) = false := decide_eq_false (by omega)
        have t5 : decide ((97 : Int) ≤ (n : Int)) = false := decide_eq_false (by omega)
        go_wp2
        go_ret
        exact ⟨rfl, rfl⟩
      have t4 : decide ((48 : Int) ≤ (n : Int)) = true := decide_eq_true (by omega)
      have t5 : decide ((n : Int) ≤ 57) = false := decide_eq_false (by omega)
      by_cases h4 : n < 97
      · have t6 : decide ((97 : Int) ≤ (n : Int)) = false := decide_eq_false (by omega)
        go_wp2
        go_ret
        exact ⟨rfl, rfl⟩
      have t6 : decide ((97 : Int) ≤ (n : Int)) = true := decide_eq_true (by omega)
      have t7 : decide ((n : Int) ≤ 102) = false := decide_eq_false (by omega)
      go_wp2
      go_ret
      exact ⟨rfl, rfl⟩

theorem pre_take (p l : List UInt8) : p.isPrefixOf l = decide (l.take p.length = p) := by
  by_cases h : p <+: l
  · rw [List.isPrefixOf_iff_prefix.2 h, decide_eq_true (List.prefix_iff_eq_take.1 h).symm]
  · have h1 : p.isPrefixOf l = false := eq_false_of_ne_true fun e => h (List.isPrefixOf_iff_prefix.1 e)
    rw [h1, decide_eq_false fun e => h (List.prefix_iff_eq_take.2 e.symm)]
set_option maxHeartbeats 400000 in
theorem rhas_any (s word : ByteArray) (k : Nat) (hs : s.size ≤ 65536) (hk : k ≤ s.size) (hw : word.size ≤ 65536) (w : World) :
    Calls Try.prog 54 #[.string s, .int .i64 (k : Int), .string word] w fun e w' => e = .returned (.bool (word.data.toList.isPrefixOf (s.data.toList.drop k))) ∧ w' = w := by
  have hl := drop_len s k
  by_cases h1 : word.size + k ≤ s.size
  · have t1 : decide ((word.size : Int) ≤ (s.size : Int) - (k : Int)) = true := decide_eq_true (by omega)
    have hx := ext_mid s k word.size
    have hG : ((bs ((s.data.toList.drop k).take word.size)).toList == word.toList) = word.data.toList.isPrefixOf (s.data.toList.drop k) := by
      rw [pre_take, ← Lib.size_eq, bs_toList, ByteArray.toList_eq, Bool.eq_iff_iff, beq_iff_eq, decide_eq_true_iff]
    generalize word.data.toList.isPrefixOf (s.data.toList.drop k) = G at *
    generalize bs ((s.data.toList.drop k).take word.size) = T at *
    clear hl
    go_enter Try.func54, Try.ntmps54
    go_wp2
    go_ret
    exact ⟨rfl, rfl⟩
  · have t1 : decide ((word.size : Int) ≤ (s.size : Int) - (k : Int)) = false := decide_eq_false (by omega)
    have hG : word.data.toList.isPrefixOf (s.data.toList.drop k) = false := by
      refine eq_false_of_ne_true fun e => ?_
      have := (List.isPrefixOf_iff_prefix.1 e).length_le
      rw [hl, ← Lib.size_eq] at this
      omega
    rw [hG]
    clear hG hl
    go_enter Try.func54, Try.ntmps54
    go_wp2
    go_ret
    exact ⟨rfl, rfl⟩

def rowP (hex : Bool) (c : UInt8) : Bool := if hex then isHex c else isDig c
theorem say_three (c : UInt8) : (sayV c < 0 ∧ isHex c = false ∧ isDig c = false) ∨ (0 ≤ sayV c ∧ sayV c ≤ 9 ∧ isHex c = true ∧ isDig c = true) ∨ (9 < sayV c ∧ isHex c = true ∧ isDig c = false) := by
  have := all_bytes (P := fun c => (decide (sayV c < 0) && !isHex c && !isDig c) || (decide (0 ≤ sayV c) && decide (sayV c ≤ 9) && isHex c && isDig c) || (decide (9 < sayV c) && isHex c && !isDig c)) (by kernel_rfl) c
  simp at this
  rcases this with (h | h) | h
  · exact .inl ⟨h.1.1, h.1.2, h.2⟩
  · exact .inr (.inl ⟨h.1.1.1, h.1.1.2, h.1.2, h.2⟩)
  · exact .inr (.inr ⟨h.1.1, h.1.2, h.2⟩)
/-- What the row's test says of a byte. -/
theorem row_says (hex : Bool) (c : UInt8) : (decide (sayV c < 0) || (decide (9 < sayV c) && !hex)) = !rowP hex c := by
  unfold rowP
  rcases say_three c with ⟨h1, h2, h3⟩ | ⟨h1, h2, h3, h4⟩ | ⟨h1, h2, h3⟩
  · cases hex <;> simp [h1, h2, h3]
  · have a : ¬ sayV c < 0 := by omega
    have b : ¬ 9 < sayV c := by omega
    cases hex <;> simp [a, b, h3, h4]
  · have a : ¬ sayV c < 0 := by omega
    cases hex <;> simp [a, h1, h2, h3]
set_option maxHeartbeats 1000000 in
set_option maxRecDepth 20000 in
theorem rrow_any (s : ByteArray) (k : Nat) (hex : Bool) (hs : s.size ≤ 65536) (hk : k ≤ s.size) (w : World) :
    Calls Try.prog 55 #[.string s, .int .i64 (k : Int), .bool hex] w fun e w' => e = .returned (.int .i64 ((k + ((s.data.toList.drop k).takeWhile (rowP hex)).length : Nat) : Int)) ∧ w' = w := by
  generalize hN : k + ((s.data.toList.drop k).takeWhile (rowP hex)).length = N
  have HN : Hid (k + ((s.data.toList.drop k).takeWhile (rowP hex)).length = N) := hN
  clear hN
  go_enter Try.func55, Try.ntmps55
  go_wp2_with fail
  go_loopw [1] (fun av wr => ∃ m : Nat, m ≤ s.size ∧ av = .int .i64 (m : Int) ∧ Hid (m + ((s.data.toList.drop m).takeWhile (rowP hex)).length = N) ∧ wr = w) (fun av _ => s.size - (intOf av).toNat)
  case atStart => exact ⟨k, hk, rfl, HN, rfl⟩
  case round =>
    clear HN
    obtain ⟨m, hm, rfl, HJ, rfl⟩ := hrel
    by_cases hlt : m < s.size
    · have tl : decide ((m : Int) < (s.size : Int)) = true := decide_eq_true (by omega)
      have hi := says_any s[m]
      have hp := row_says hex s[m]
      have hd := drop_at s m hlt
      obtain ⟨V, hV⟩ : ∃ V, sayV s[m] = V := ⟨_, rfl⟩
      rw [hV] at hi hp
      clear hV
      cases hc : rowP hex s[m] with
      | true =>
        rw [hc, Bool.not_true, Bool.or_eq_false_iff] at hp
        obtain ⟨hp1, hp2⟩ := hp
        have HN : Hid (m + 1 + ((s.data.toList.drop (m + 1)).takeWhile (rowP hex)).length = N) := by
          have h0 := HJ.out
          rw [hd, List.takeWhile_cons_of_pos hc, List.length_cons] at h0
          show _ = _
          omega
        clear HJ hd hc
        go_wp2_with fail
        refine (hi _).mono ?_
        rintro _ _ ⟨rfl, rfl⟩
        cases hq : decide (9 < V) with
        | true =>
          rw [hq, Bool.true_and] at hp2
          go_wp2_with fail
          go_roundw
          case rel => exact ⟨m + 1, by omega, by simp, HN, trivial⟩
          case measure => simp [intOf]; omega
        | false =>
          go_wp2_with fail
          go_roundw
          case rel => exact ⟨m + 1, by omega, by simp, HN, trivial⟩
          case measure => simp [intOf]; omega
      | false =>
        have hN : N = m := by
          have h0 := HJ.out
          rw [hd, List.takeWhile_cons_of_neg (by rw [hc]; simp)] at h0
          simpa using h0.symm
        subst hN
        rw [hc, Bool.not_false] at hp
        clear HJ hd hc
        go_wp2_with fail
        refine (hi _).mono ?_
        rintro _ _ ⟨rfl, rfl⟩
        cases hq : decide (V < 0) with
        | true =>
          go_wp2_with fail
          go_ret
          exact ⟨rfl, rfl⟩
        | false =>
          rw [hq, Bool.false_or, Bool.and_eq_true] at hp
          obtain ⟨hp1, hp2⟩ := hp
          go_wp2_with fail
          go_ret
          exact ⟨rfl, rfl⟩
    · have hN : N = m := by
        have h0 := HJ.out
        rw [drop_end s m (by omega)] at h0
        simpa using h0.symm
      subst hN
      have tf : decide ((N : Int) < (s.size : Int)) = false := decide_eq_false (by omega)
      clear HJ
      go_wp2_with fail
      go_ret
      exact ⟨rfl, rfl⟩
end Go.Proofs.Ytffhbellpcneeaa
