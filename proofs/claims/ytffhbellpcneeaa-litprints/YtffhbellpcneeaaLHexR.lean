/- What lit's readBytes and readID do (contracts; nothing is claimed here). -/
import Derived.Test.YtffhbellpcneeaaLWord
namespace Go.Proofs.Ytffhbellpcneeaa
open Go.RowKit Go.Vf
theorem rawLeaf {k : Int} {r : List UInt8} (hk : k = 3 ∨ k = 5 ∨ k = 6) (hr : r.length ≤ 65536) : Leaf (rawP k r) := by
  have hz : (bs r).size ≤ 65536 := by rw [bs_size]; exact hr
  refine ⟨rfl, by simp [rawP, Prt.kind]; omega, ?_, leafFits (by omega) (by decide) hz⟩
  show may (.mk k false false ⟨#[]⟩ (bs r) []) = true
  rw [may_mk]
  have h0 : (⟨#[]⟩ : ByteArray).size = 0 := rfl
  generalize (⟨#[]⟩ : ByteArray) = E at *
  generalize bs r = R at *
  rcases hk with rfl | rfl | rfl <;> simp [isRawK, hz, h0]
theorem idLeaf {r : List UInt8} (hr : r.length = 16) : Leaf (rawP 4 r) := by
  have hz : (bs r).size = 16 := by rw [bs_size]; exact hr
  refine ⟨rfl, by simp [rawP, Prt.kind], ?_, leafFits (by decide) (by decide) (by omega)⟩
  show may (.mk 4 false false ⟨#[]⟩ (bs r) []) = true
  rw [may_mk]
  have h0 : (⟨#[]⟩ : ByteArray).size = 0 := rfl
  generalize (⟨#[]⟩ : ByteArray) = E at *
  generalize bs r = R at *
  simp [isRawK, hz, h0]
theorem tW_drop {P : UInt8 → Bool} (l : List UInt8) : l.drop (l.takeWhile P).length = l.dropWhile P := by
  induction l with
  | nil => rfl
  | cons a r ih =>
    by_cases h : P a = true
    · rw [List.takeWhile_cons_of_pos h, List.dropWhile_cons_of_pos h, List.length_cons, List.drop_succ_cons, ih]
    · rw [List.takeWhile_cons_of_neg h, List.dropWhile_cons_of_neg h]; rfl
theorem tW_len {P : UInt8 → Bool} (l : List UInt8) : (l.takeWhile P).length ≤ l.length := by
  induction l with
  | nil => simp
  | cons a r ih =>
    by_cases h : P a = true
    · rw [List.takeWhile_cons_of_pos h]; simp; exact ih
    · rw [List.takeWhile_cons_of_neg h]; simp

set_option maxHeartbeats 1000000 in
set_option maxRecDepth 20000 in
theorem readBytes_any (B k : Nat) (s : ByteArray) (hs : s.size ≤ 65536) (hk : k < s.size) (w : World) (h : Rdr w B s k) : Calls Try.prog 49 #[.pointer (some ⟨B, 0, none⟩)] w (RdE B s (bytesR (s.data.toList.drop (k + 1))) w) := by
  obtain ⟨c0, c1, f1⟩ := h.two
  have hB := h.lt
  have hr0 := (Rk.refl h).at (k + 1)
  have hrow := row_any sixteenB isHex index_sixteen B (k + 1) s hs (by omega) _ hr0.rdr
  obtain ⟨T, hT⟩ : ∃ T, (s.data.toList.drop (k + 1)).takeWhile isHex = T := ⟨_, rfl⟩
  have hTl : k + 1 + T.length ≤ s.size := by
    have := tW_len (P := isHex) (s.data.toList.drop (k + 1))
    rw [hT, drop_len] at this; omega
  have hrest : s.data.toList.drop (k + 1 + T.length) = (s.data.toList.drop (k + 1)).dropWhile isHex := by
    rw [← drop_more, ← hT, tW_drop]
  have hlen : (s.data.toList.drop (k + 1)).length + 1 = s.size - k := by rw [drop_len]; omega
  have hz : (bs T).size = T.length := bs_size T
  have hd : (bs T).data.toList = T := bs_data T
  unfold bytesR
  rw [hT] at hrow ⊢
  rw [← hrest, hlen]
  clear hrest hT hlen h
  by_cases he : T.length % 2 = 0
  · rw [if_pos he]
    have hu := fun w => undigits_any (bs T) (by rw [hz]; omega) (by rw [hz]; exact he) w
    have hm := fun w => made_leaf (rawP 3 (unhex T)) (rawLeaf (.inl rfl) (by rw [unhex_length]; omega)) (k : Int) w
    simp only [rawP, Prt.kind, Prt.yes, Prt.neg, Prt.mag, Prt.raw] at hm
    rw [hd] at hu
    have t1 : (((bs T).size : Int) % 2 == 0) = true := by rw [hz, beq_iff_eq]; omega
    have hz2 : (bs T).size ≤ 65536 := by rw [hz]; omega
    clear he hz hd
    generalize bs T = TB at *
    go_enter Try.func49, Try.ntmps49
    go_wp2_with fail
    refine hrow.mono ?_
    rintro _ w1 ⟨rfl, hr1, hz1⟩
    have hw1 := hr0.trans hr1
    have hn := need_yes (k : Int) w1
    have hu1 := hu w1
    clear hrow hu
    go_wp2_with fail
    refine hn.mono ?_
    rintro _ _ ⟨rfl, rfl⟩
    go_wp2_with fail
    refine hu1.mono ?_
    rintro _ w2 ⟨rfl, hb2⟩
    have hm1 := hm w2
    clear hm
    go_wp2_with fail
    refine hm1.mono ?_
    rintro _ w3 ⟨v, rfl, hv, hb3⟩
    go_wp2_with fail
    go_ret
    have hw2 := hw1.old hb2
    exact ⟨v, k + 1 + T.length, hTl, rfl, rfl, hv.mono (Nat.le_refl _) hw2.size, hw2.old hb3⟩
  · rw [if_neg he]
    have t1 : (((bs T).size : Int) % 2 == 0) = false := by rw [hz, beq_eq_false_iff_ne]; omega
    have hz2 : (bs T).size ≤ 65536 := by rw [hz]; omega
    clear he hz hd
    generalize bs T = TB at *
    go_enter Try.func49, Try.ntmps49
    go_wp2_with fail
    refine hrow.mono ?_
    rintro _ w1 ⟨rfl, hr1, hz1⟩
    have hw1 := hr0.trans hr1
    have hn := need_not (k : Int) w1
    clear hrow
    go_wp2_with fail
    refine hn.mono ?_
    rintro _ _ ⟨rfl, rfl⟩
    exact ⟨rfl, k, by omega, rfl, rfl, hw1.below⟩

set_option maxHeartbeats 1000000 in
set_option maxRecDepth 20000 in
theorem readID_any (B k : Nat) (s : ByteArray) (hs : s.size ≤ 65536) (hk : k < s.size) (w : World) (h : Rdr w B s k) : Calls Try.prog 50 #[.pointer (some ⟨B, 0, none⟩)] w (RdE B s (idR (s.data.toList.drop (k + 1))) w) := by
  obtain ⟨c0, c1, f1⟩ := h.two
  have hB := h.lt
  have hr0 := (Rk.refl h).at (k + 1)
  have hrow := row_any sixteenB isHex index_sixteen B (k + 1) s hs (by omega) _ hr0.rdr
  obtain ⟨T, hT⟩ : ∃ T, (s.data.toList.drop (k + 1)).takeWhile isHex = T := ⟨_, rfl⟩
  have hTl : k + 1 + T.length ≤ s.size := by
    have := tW_len (P := isHex) (s.data.toList.drop (k + 1))
    rw [hT, drop_len] at this; omega
  have hrest : s.data.toList.drop (k + 1 + T.length) = (s.data.toList.drop (k + 1)).dropWhile isHex := by
    rw [← drop_more, ← hT, tW_drop]
  have hlen : (s.data.toList.drop (k + 1)).length + 1 = s.size - k := by rw [drop_len]; omega
  have hz : (bs T).size = T.length := bs_size T
  have hd : (bs T).data.toList = T := bs_data T
  unfold idR
  rw [hT] at hrow ⊢
  rw [← hrest, hlen]
  clear hrest hT hlen h
  by_cases he : T.length = 32
  · rw [if_pos he]
    have hu := fun w => undigits_any (bs T) (by rw [hz]; omega) (by rw [hz, he]) w
    have hm := fun w => made_leaf (rawP 4 (unhex T)) (idLeaf (by rw [unhex_length, he])) (k : Int) w
    simp only [rawP, Prt.kind, Prt.yes, Prt.neg, Prt.mag, Prt.raw] at hm
    rw [hd] at hu
    have t1 : (((bs T).size : Int) == 32) = true := by rw [hz, beq_iff_eq]; omega
    have hz2 : (bs T).size ≤ 65536 := by rw [hz]; omega
    clear he hz hd
    generalize bs T = TB at *
    go_enter Try.func50, Try.ntmps50
    go_wp2_with fail
    refine hrow.mono ?_
    rintro _ w1 ⟨rfl, hr1, hz1⟩
    have hw1 := hr0.trans hr1
    have hn := need_yes (k : Int) w1
    have hu1 := hu w1
    clear hrow hu
    go_wp2_with fail
    refine hn.mono ?_
    rintro _ _ ⟨rfl, rfl⟩
    go_wp2_with fail
    refine hu1.mono ?_
    rintro _ w2 ⟨rfl, hb2⟩
    have hm1 := hm w2
    clear hm
    go_wp2_with fail
    refine hm1.mono ?_
    rintro _ w3 ⟨v, rfl, hv, hb3⟩
    go_wp2_with fail
    go_ret
    have hw2 := hw1.old hb2
    exact ⟨v, k + 1 + T.length, hTl, rfl, rfl, hv.mono (Nat.le_refl _) hw2.size, hw2.old hb3⟩
  · rw [if_neg he]
    have t1 : (((bs T).size : Int) == 32) = false := by rw [hz, beq_eq_false_iff_ne]; omega
    have hz2 : (bs T).size ≤ 65536 := by rw [hz]; omega
    clear he hz hd
    generalize bs T = TB at *
    go_enter Try.func50, Try.ntmps50
    go_wp2_with fail
    refine hrow.mono ?_
    rintro _ w1 ⟨rfl, hr1, hz1⟩
    have hw1 := hr0.trans hr1
    have hn := need_not (k : Int) w1
    clear hrow
    go_wp2_with fail
    refine hn.mono ?_
    rintro _ _ ⟨rfl, rfl⟩
    exact ⟨rfl, k, by omega, rfl, rfl, hw1.below⟩
end Go.Proofs.Ytffhbellpcneeaa
