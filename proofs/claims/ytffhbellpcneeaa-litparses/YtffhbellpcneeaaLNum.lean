/- What lit's readNumber does (contracts; nothing is claimed here). -/
import Derived.Test.YtffhbellpcneeaaJ9
import Derived.BigRegion
namespace Go.Proofs.Ytffhbellpcneeaa
open Go.RowKit Go.Vf
theorem numLeaf {b : Bool} {m : List UInt8} (h : chk b m = 0) : Leaf (numP b m) := by
  have hz := (chk_zero h).1
  refine ⟨rfl, by simp [numP, Prt.kind], ?_, leafFits (by decide) (by rw [bs_size]; omega) (by decide)⟩
  show may (.mk 2 false b (bs m) ⟨#[]⟩ []) = true
  rw [may, mayL]
  unfold own1 own2
  simp only [Prt.kind, Prt.yes, Prt.neg, Prt.mag, Prt.raw, Prt.items]
  rw [chk_numOk h]
  rfl
theorem new_num (w : World) : (w.alloc (.cells #[.bool false, .string ⟨#[]⟩] 24)).cell? ⟨w.heap.size, 0, none⟩ = some (.bool false) ∧ (w.alloc (.cells #[.bool false, .string ⟨#[]⟩] 24)).cell? ⟨w.heap.size, 1, none⟩ = some (.string ⟨#[]⟩)
    ∧ (w.alloc (.cells #[.bool false, .string ⟨#[]⟩] 24)).frozen? ⟨w.heap.size, 0, none⟩ = false ∧ (w.alloc (.cells #[.bool false, .string ⟨#[]⟩] 24)).frozen? ⟨w.heap.size, 1, none⟩ = false :=
  have h := Blk.new w 24 #[.bool false, .string ⟨#[]⟩]
  ⟨h.cell 0, h.cell 1, h.frozen 0, h.frozen 1⟩
theorem num_kept {w w2 : World} (hb : Below (w.alloc (.cells #[.bool false, .string ⟨#[]⟩] 24)).drew.heap.size (w.alloc (.cells #[.bool false, .string ⟨#[]⟩] 24)).drew w2) : w2.cell? ⟨w.heap.size, 0, none⟩ = some (.bool false) ∧ w2.cell? ⟨w.heap.size, 1, none⟩ = some (.string ⟨#[]⟩)
    ∧ w2.frozen? ⟨w.heap.size, 0, none⟩ = false ∧ w2.frozen? ⟨w.heap.size, 1, none⟩ = false :=
  have h : Blk (w.alloc (.cells #[.bool false, .string ⟨#[]⟩] 24)).drew w.heap.size 24 #[.bool false, .string ⟨#[]⟩] := Blk.new w 24 #[.bool false, .string ⟨#[]⟩]
  have h := h.old hb
  ⟨h.cell 0, h.cell 1, h.frozen 0, h.frozen 1⟩
/-- The variable of a number, wherever it was made. -/
def NumVar (B : Nat) (s : ByteArray) (k : Nat) (w : World) (b : Bool) (m : ByteArray) (v : Value) (wx : World) : Prop := ∃ g, v = .pointer (some ⟨g, 0, none⟩) ∧ Blk wx g 24 #[.bool b, .string m] ∧ Rk B s k w wx
theorem Rk.draw {B : Nat} {s : ByteArray} {k : Nat} {a b : World} (h : Rk B s k a b) : Rk B s k a b.drew := ⟨h.below.drew, h.keep, h.rdr⟩
theorem numVar_new {B : Nat} {s : ByteArray} {k : Nat} {w w1 w2 : World} {b : Bool} {m : ByteArray} (h : Rk B s k w w1) (hb : Below w1.drew.heap.size w1.drew w2) : NumVar B s k w b m (.pointer (some ⟨w2.heap.size, 0, none⟩)) (w2.alloc (.cells #[.bool b, .string m] 24)) :=
  ⟨_, rfl, Blk.new w2 24 _, (h.draw.old hb).old ((Below.refl _ _).alloc (Nat.le_refl _) _)⟩
theorem numVar_set {B : Nat} {s : ByteArray} {k : Nat} {w w1 w2 : World} {b : Bool} {m : ByteArray} (h : Rk B s k w w1) (hb : Below (w1.alloc (.cells #[.bool false, .string ⟨#[]⟩] 24)).drew.heap.size (w1.alloc (.cells #[.bool false, .string ⟨#[]⟩] 24)).drew w2) :
    NumVar B s k w b m (.pointer (some ⟨w1.heap.size, 0, none⟩)) ((w2.setCell ⟨w1.heap.size, 0, none⟩ (.bool b)).setCell ⟨w1.heap.size, 1, none⟩ (.string m)) := by
  have h0 : Blk (w1.alloc (.cells #[.bool false, .string ⟨#[]⟩] 24)).drew w1.heap.size 24 #[.bool false, .string ⟨#[]⟩] := Blk.new w1 24 #[.bool false, .string ⟨#[]⟩]
  have h1 := ((h0.old hb).set 0 (.bool b)).set 1 (.string m)
  have hB := h.rdr.lt
  have h2 : Rk B s k w w2 := (h.old ((Below.refl _ _).alloc (Nat.le_refl _) _)).draw.old hb
  refine ⟨_, rfl, h1, ⟨?_, ?_, ?_⟩⟩
  · exact (h2.below.setCell (p := ⟨w1.heap.size, 0, none⟩) (Nat.le_of_lt hB) _).setCell (p := ⟨w1.heap.size, 1, none⟩) (Nat.le_of_lt hB) _
  · intro i hi hne
    have hlt : i ≠ w1.heap.size := by have := h.below.size; omega
    rw [Below.heap_setCell _ ⟨w1.heap.size, 1, none⟩ _ i hlt, Below.heap_setCell _ ⟨w1.heap.size, 0, none⟩ _ i hlt]
    exact h2.keep i hi hne
  · exact (h2.rdr.other (p := ⟨w1.heap.size, 0, none⟩) (by show B ≠ w1.heap.size; omega) _).other (p := ⟨w1.heap.size, 1, none⟩) (by show B ≠ w1.heap.size; omega) _
theorem parse_forms (l : List UInt8) : ∃ nb nm ne, parseE (parseR l) = .returned (.tuple #[.agg #[.bool nb, .string nm], .int .i64 ne]) ∧ ((ne = 0 ∧ ∃ m, parseR l = .ok (nb, m) ∧ nm = bs m) ∨ ((ne == 0) = false ∧ ∃ er, parseR l = .error er)) := by
  cases h : parseR l with
  | ok x => exact ⟨x.1, bs x.2, 0, rfl, .inl ⟨rfl, x.2, rfl, rfl⟩⟩
  | error er =>
    refine ⟨false, bs [], er, rfl, .inr ⟨?_, er, rfl⟩⟩
    rcases parse_err h with rfl | rfl <;> rfl
theorem takeW_drop {P : UInt8 → Bool} (l : List UInt8) : l.drop (l.takeWhile P).length = l.dropWhile P := by
  induction l with
  | nil => rfl
  | cons a r ih =>
    by_cases h : P a = true
    · rw [List.takeWhile_cons_of_pos h, List.dropWhile_cons_of_pos h, List.length_cons, List.drop_succ_cons, ih]
    · rw [List.takeWhile_cons_of_neg h, List.dropWhile_cons_of_neg h]; rfl
theorem takeW_len {P : UInt8 → Bool} (l : List UInt8) : (l.takeWhile P).length ≤ l.length := by
  induction l with
  | nil => simp
  | cons a r ih =>
    by_cases h : P a = true
    · rw [List.takeWhile_cons_of_pos h]; simp; exact ih
    · rw [List.takeWhile_cons_of_neg h]; simp
theorem takeW_take {P : UInt8 → Bool} (l : List UInt8) : l.take (l.takeWhile P).length = l.takeWhile P := by
  induction l with
  | nil => rfl
  | cons a r ih =>
    by_cases h : P a = true
    · rw [List.takeWhile_cons_of_pos h, List.length_cons, List.take_succ_cons, ih]
    · rw [List.takeWhile_cons_of_neg h]; rfl

set_option maxHeartbeats 1000000 in
set_option maxRecDepth 20000 in
theorem readNumber_any (B k : Nat) (s : ByteArray) (hs : s.size ≤ 65536) (hk : k < s.size) (w : World) (h : Rdr w B s k) : Calls Try.prog 48 #[.pointer (some ⟨B, 0, none⟩)] w (RdE B s (numR s[k] (s.data.toList.drop (k + 1))) w) := by
  obtain ⟨c0, c1, f1⟩ := h.two
  have hB := h.lt
  have hr0 := (Rk.refl h).at (k + 1)
  have hz0 := set_size w ⟨B, 1, none⟩ (.int .i64 ((k + 1 : Nat) : Int))
  have hrow := row_any tenB isDig index_ten B (k + 1) s hs (by omega) _ hr0.rdr
  obtain ⟨T, hT⟩ : ∃ T, (s.data.toList.drop (k + 1)).takeWhile isDig = T := ⟨_, rfl⟩
  have hTl : k + 1 + T.length ≤ s.size := by
    have := takeW_len (P := isDig) (s.data.toList.drop (k + 1))
    rw [hT, drop_len] at this; omega
  have hx : s.extract k (k + 1 + T.length) = bs (s[k] :: T) := by
    have := ext_mid s k (1 + T.length)
    rw [drop_at s k hk, Nat.add_comm 1, List.take_succ_cons] at this
    rw [show k + 1 + T.length = k + (T.length + 1) by omega, this]
    rw [← hT, takeW_take]
  have hrest : s.data.toList.drop (k + 1 + T.length) = (s.data.toList.drop (k + 1)).dropWhile isDig := by
    rw [← drop_more, ← hT, takeW_drop]
  have hlen : (s.data.toList.drop (k + 1)).length + 1 = s.size - k := by rw [drop_len]; omega
  obtain ⟨G, hG⟩ : ∃ G, numR s[k] (s.data.toList.drop (k + 1)) = G := ⟨_, rfl⟩
  have hGok : Hid (∀ b m, parseR (s[k] :: T) = .ok (b, m) → G = .ok (numP b m, s.data.toList.drop (k + 1 + T.length))) := fun b m h => by
    rw [← hG, numR, hT, h, hrest]
  have hGer : Hid (∀ er, parseR (s[k] :: T) = .error er → G = .error (s.size - k)) := fun er h => by
    rw [← hG, numR, hT, h, hlen]
  rw [hG]
  rw [hT] at hrow
  have hpa := fun w => parse_any (bs (s[k] :: T)) (by rw [bs_size]; simp; omega) w
  rw [bs_data] at hpa
  clear hG
  generalize bs (s[k] :: T) = X at *
  obtain ⟨k2, hk2⟩ : ∃ k2, k + 1 + T.length = k2 := ⟨_, rfl⟩
  rw [hk2] at hrow hTl hx hGok
  have hkk : k ≤ k2 := by omega
  have hkk' : (k : Int) ≤ (k2 : Int) := by omega
  have hTl' : (k2 : Int) ≤ (s.size : Int) := by omega
  generalize bs T = TB at *
  generalize s[k] = c at *
  have HH : Hid (Rdr w B s k) := h
  clear hrest hT hlen hk2 h
  go_enter Try.func48, Try.ntmps48
  go_wp2_with fail
  refine hrow.mono ?_
  rintro _ w1 ⟨rfl, hr1, hz1⟩
  have hw1 : Rk B s k2 w w1 := hr0.trans hr1
  obtain ⟨d0, d1, _⟩ := hr1.rdr.two
  clear hrow hr0 hr1 hz0 hz1 c0 c1 f1
  have hba := (Below.refl w1.heap.size w1).alloc (Nat.le_refl _) (.cells #[.bool false, .string ⟨#[]⟩] 24)
  obtain ⟨a0, a1, _⟩ := Rdr.two (hw1.rdr.old hba)
  clear hba
  obtain ⟨nb, nm, ne, hpe, hcase⟩ := parse_forms (c :: T)
  rw [hpe] at hpa
  have HC : Hid _ := hcase
  clear hcase hpe
  go_upto_region 4 with fail
  go_cut [4, 5] from 19 (fun v4 v5 wx => v5 = .int .i64 ne ∧ NumVar B s k2 w nb nm v4 wx)
  case first =>
    go_region_with (first
      | (go_at_call 69; refine (hpa (World.drew (World.alloc w1 (.cells #[.bool false, .string ⟨#[]⟩] 24)))).mono ?_; rintro _ w2 ⟨rfl, hb2⟩; obtain ⟨n0, n1, n2, n3⟩ := num_kept hb2)
      | (go_at_call 69; refine (hpa (World.drew w1)).mono ?_; rintro _ w2 ⟨rfl, hb2⟩; obtain ⟨n0, n1, n2, n3⟩ := new_num w2))
    all_goals go_wp2_with fail
    all_goals go_meet
    all_goals first | exact ⟨rfl, numVar_new hw1 (by assumption)⟩ | exact ⟨rfl, numVar_set hw1 (by assumption)⟩
  case rest =>
    obtain ⟨rfl, g, rfl, hblk, hrk⟩ := hcut
    clear hpa d0 d1 a0 a1 hw1
    rcases HC.out with ⟨rfl, m, hp, rfl⟩ | ⟨hne, er, hp⟩
    · have HP : Hid (parseR (c :: T) = .ok (nb, m)) := hp
      have hchk := (print_parse hp).1
      have hn := need_yes (k : Int) wc
      have g0 : wc.cell? ⟨g, 0, none⟩ = some (.bool nb) := hblk.cell 0
      have g1 : wc.cell? ⟨g, 1, none⟩ = some (.string (bs m)) := hblk.cell 1
      have hm := made_leaf (numP nb m) (numLeaf hchk) (k : Int) wc
      simp only [numP, Prt.kind, Prt.yes, Prt.neg, Prt.mag, Prt.raw] at hm
      have hlt := hrk.rdr.lt
      clear HC hp hblk hchk
      go_wp2_with fail
      refine hn.mono ?_
      rintro _ _ ⟨rfl, rfl⟩
      go_wp2_with fail
      refine hm.mono ?_
      rintro _ w4 ⟨v, rfl, hv, hb4⟩
      go_wp2_with fail
      go_ret
      rw [hGok.out _ _ HP.out]
      exact ⟨v, k2, hTl, rfl, rfl, hv.mono (Nat.le_refl _) hrk.size, hrk.old hb4⟩
    · have HP : Hid (parseR (c :: T) = .error er) := hp
      have hn := need_not (k : Int) wc
      clear HC hp
      go_wp2_with fail
      refine hn.mono ?_
      rintro _ _ ⟨rfl, rfl⟩
      refine ⟨rfl, ?_⟩
      rw [hGer.out _ HP.out]
      exact ⟨k, by omega, rfl, rfl, hrk.below⟩
end Go.Proofs.Ytffhbellpcneeaa
