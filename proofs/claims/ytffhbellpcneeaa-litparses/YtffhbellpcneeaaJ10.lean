/- What lit's readBytes and readID do (contracts; nothing is claimed here). · What lit's readQuoted does (contracts; nothing is claimed here). · What slices.Clone of values and value.Of do (contracts; nothing is claimed here). · How the document reads what stands between quotes, as a plain function (lemmas; nothing is claimed here). -/
import Derived.Test.YtffhbellpcneeaaJ9
namespace Go.Proofs.Ytffhbellpcneeaa
open Go.RowKit Go.Vf
theorem rawLeaf {k : Int} {r : List UInt8} (hk : k = 3 ∨ k = 5 ∨ k = 6) (hr : r.length ≤ 65536) : Leaf (rawP k r) := by
  have hz : (bs r).size ≤ 65536 := by rw [bs_size]; exact hr
  refine ⟨rfl, by simp [rawP, Prt.kind]; omega, ?_, leafFits (by omega) (by decide) hz⟩
  show may (.mk k false false ⟨#[]⟩ (bs r) []) = true
  rw [may_mk]
  have h0 : (⟨#[]⟩ : ByteArray).size = 0 := rfl
  generalize (⟨#[]⟩ : ByteArray) = E at *
  generalize bs r = R at *
  rcases hk with rfl | rfl | rfl <;> simp [isRawK, hz, h0]
theorem idLeaf {r : List UInt8} (hr : r.length = 16) : Leaf (rawP 4 r) := by
  have hz : (bs r).size = 16 := by rw [bs_size]; exact hr
  refine ⟨rfl, by simp [rawP, Prt.kind], ?_, leafFits (by decide) (by decide) (by omega)⟩
  show may (.mk 4 false false ⟨#[]⟩ (bs r) []) = true
  rw [may_mk]
  have h0 : (⟨#[]⟩ : ByteArray).size = 0 := rfl
  generalize (⟨#[]⟩ : ByteArray) = E at *
  generalize bs r = R at *
  simp [isRawK, hz, h0]
theorem tW_drop {P : UInt8 → Bool} (l : List UInt8) : l.drop (l.takeWhile P).length = l.dropWhile P := by
  induction l with
  | nil => rfl
  | cons a r ih =>
    by_cases h : P a = true
    · rw [List.takeWhile_cons_of_pos h, List.dropWhile_cons_of_pos h, List.length_cons, List.drop_succ_cons, ih]
    · rw [List.takeWhile_cons_of_neg h, List.dropWhile_cons_of_neg h]; rfl
theorem tW_len {P : UInt8 → Bool} (l : List UInt8) : (l.takeWhile P).length ≤ l.length := by
  induction l with
  | nil => simp
  | cons a r ih =>
    by_cases h : P a = true
    · rw [List.takeWhile_cons_of_pos h]; simp; exact ih
    · rw [List.takeWhile_cons_of_neg h]; simp

set_option maxHeartbeats 1000000 in
set_option maxRecDepth 20000 in
theorem readBytes_any (B k : Nat) (s : ByteArray) (hs : s.size ≤ 65536) (hk : k < s.size) (w : World) (h : Rdr w B s k) : Calls Try.prog 49 #[.pointer (some ⟨B, 0, none⟩)] w (RdE B s (bytesR (s.data.toList.drop (k + 1))) w) := by
  obtain ⟨c0, c1, f1⟩ := h.two
  have hB := h.lt
  have hr0 := (Rk.refl h).at (k + 1)
  have hrow := row_any sixteenB isHex index_sixteen B (k + 1) s hs (by omega) _ hr0.rdr
  obtain ⟨T, hT⟩ : ∃ T, (s.data.toList.drop (k + 1)).takeWhile isHex = T := ⟨_, rfl⟩
  have hTl : k + 1 + T.length ≤ s.size := by
    have := tW_len (P := isHex) (s.data.toList.drop (k + 1))
    rw [hT, drop_len] at this; omega
  have hrest : s.data.toList.drop (k + 1 + T.length) = (s.data.toList.drop (k + 1)).dropWhile isHex := by
    rw [← drop_more, ← hT, tW_drop]
  have hlen : (s.data.toList.drop (k + 1)).length + 1 = s.size - k := by rw [drop_len]; omega
  have hz : (bs T).size = T.length := bs_size T
  have hd : (bs T).data.toList = T := bs_data T
  unfold bytesR
  rw [hT] at hrow ⊢
  rw [← hrest, hlen]
  clear hrest hT hlen h
  by_cases he : T.length % 2 = 0
  · rw [if_pos he]
    have hu := fun w => undigits_any (bs T) (by rw [hz]; omega) (by rw [hz]; exact he) w
    have hm := fun w => made_leaf (rawP 3 (unhex T)) (rawLeaf (.inl rfl) (by rw [unhex_length]; omega)) (k : Int) w
    simp only [rawP, Prt.kind, Prt.yes, Prt.neg, Prt.mag, Prt.raw] at hm
    rw [hd] at hu
    have t1 : (((bs T).size : Int) % 2 == 0) = true := by rw [hz, beq_iff_eq]; omega
    have hz2 : (bs T).size ≤ 65536 := by rw [hz]; omega
    clear he hz hd
    generalize bs T = TB at *
    go_enter Try.func49, Try.ntmps49
    go_wp2_with fail
    refine hrow.mono ?_
    rintro _ w1 ⟨rfl, hr1, hz1⟩
    have hw1 := hr0.trans hr1
    have hn := need_yes (k : Int) w1
    have hu1 := hu w1
    clear hrow hu
    go_wp2_with fail
    refine hn.mono ?_
    rintro _ _ ⟨rfl, rfl⟩
    go_wp2_with fail
    refine hu1.mono ?_
    rintro _ w2 ⟨rfl, hb2⟩
    have hm1 := hm w2
    clear hm
    go_wp2_with fail
    refine hm1.mono ?_
    rintro _ w3 ⟨v, rfl, hv, hb3⟩
    go_wp2_with fail
    go_ret
    have hw2 := hw1.old hb2
    exact ⟨v, k + 1 + T.length, hTl, rfl, rfl, hv.mono (Nat.le_refl _) hw2.size, hw2.old hb3⟩
  · rw [if_neg he]
    have t1 : (((bs T).size : Int) % 2 == 0) = false := by rw [hz, beq_eq_false_iff_ne]; omega
    have hz2 : (bs T).size ≤ 65536 := by rw [hz]; omega
    clear he hz hd
    generalize bs T = TB at *
    go_enter Try.func49, Try.ntmps49
    go_wp2_with fail
    refine hrow.mono ?_
    rintro _ w1 ⟨rfl, hr1, hz1⟩
    have hw1 := hr0.trans hr1
    have hn := need_not (k : Int) w1
    clear hrow
    go_wp2_with fail
    refine hn.mono ?_
    rintro _ _ ⟨rfl, rfl⟩
    exact ⟨rfl, k, by omega, rfl, rfl, hw1.below⟩

set_option maxHeartbeats 1000000 in
set_option maxRecDepth 20000 in
theorem readID_any (B k : Nat) (s : ByteArray) (hs : s.size ≤ 65536) (hk : k < s.size) (w : World) (h : Rdr w B s k) : Calls Try.prog 50 #[.pointer (some ⟨B, 0, none⟩)] w (RdE B s (idR (s.data.toList.drop (k + 1))) w) := by
  obtain ⟨c0, c1, f1⟩ := h.two
  have hB := h.lt
  have hr0 := (Rk.refl h).at (k + 1)
  have hrow := row_any sixteenB isHex index_sixteen B (k + 1) s hs (by omega) _ hr0.rdr
  obtain ⟨T, hT⟩ : ∃ T, (s.data.toList.drop (k + 1)).takeWhile isHex = T := ⟨_, rfl⟩
  have hTl : k + 1 + T.length ≤ s.size := by
    have := tW_len (P := isHex) (s.data.toList.drop (k + 1))
    rw [hT, drop_len] at this; omega
  have hrest : s.data.toList.drop (k + 1 + T.length) = (s.data.toList.drop (k + 1)).dropWhile isHex := by
    rw [← drop_more, ← hT, tW_drop]
  have hlen : (s.data.toList.drop (k + 1)).length + 1 = s.size - k := by rw [drop_len]; omega
  have hz : (bs T).size = T.length := bs_size T
  have hd : (bs T).data.toList = T := bs_data T
  unfold idR
  rw [hT] at hrow ⊢
  rw [← hrest, hlen]
  clear hrest hT hlen h
  by_cases he : T.length = 32
  · rw [if_pos he]
    have hu := fun w => undigits_any (bs T) (by rw [hz]; omega) (by rw [hz, he]) w
    have hm := fun w => made_leaf (rawP 4 (unhex T)) (idLeaf (by rw [unhex_length, he])) (k : Int) w
    simp only [rawP, Prt.kind, Prt.yes, Prt.neg, Prt.mag, Prt.raw] at hm
    rw [hd] at hu
    have t1 : (((bs T).size : Int) == 32) = true := by rw [hz, beq_iff_eq]; omega
    have hz2 : (bs T).size ≤ 65536 := by rw [hz]; omega
    clear he hz hd
    generalize bs T = TB at *
    go_enter Try.func50, Try.ntmps50
    go_wp2_with fail
    refine hrow.mono ?_
    rintro _ w1 ⟨rfl, hr1, hz1⟩
    have hw1 := hr0.trans hr1
    have hn := need_yes (k : Int) w1
    have hu1 := hu w1
    clear hrow hu
    go_wp2_with fail
    refine hn.mono ?_
    rintro _ _ ⟨rfl, rfl⟩
    go_wp2_with fail
    refine hu1.mono ?_
    rintro _ w2 ⟨rfl, hb2⟩
    have hm1 := hm w2
    clear hm
    go_wp2_with fail
    refine hm1.mono ?_
    rintro _ w3 ⟨v, rfl, hv, hb3⟩
    go_wp2_with fail
    go_ret
    have hw2 := hw1.old hb2
    exact ⟨v, k + 1 + T.length, hTl, rfl, rfl, hv.mono (Nat.le_refl _) hw2.size, hw2.old hb3⟩
  · rw [if_neg he]
    have t1 : (((bs T).size : Int) == 32) = false := by rw [hz, beq_eq_false_iff_ne]; omega
    have hz2 : (bs T).size ≤ 65536 := by rw [hz]; omega
    clear he hz hd
    generalize bs T = TB at *
    go_enter Try.func50, Try.ntmps50
    go_wp2_with fail
    refine hrow.mono ?_
    rintro _ w1 ⟨rfl, hr1, hz1⟩
    have hw1 := hr0.trans hr1
    have hn := need_not (k : Int) w1
    clear hrow
    go_wp2_with fail
    refine hn.mono ?_
    rintro _ _ ⟨rfl, rfl⟩
    exact ⟨rfl, k, by omega, rfl, rfl, hw1.below⟩
end Go.Proofs.Ytffhbellpcneeaa

namespace Go.Proofs.Ytffhbellpcneeaa
open Go.RowKit Go.Vf
theorem own_keep {w w' : World} {base e size : Nat} {v : Value} {n : Nat} {xs : List Value} (ho : w.ownsRow base e size v n xs) (hk : ∀ b, base ≤ b → b < w.heap.size → w'.heap[b]? = w.heap[b]?) : w'.ownsRow base e size v n xs := by
  obtain ⟨h1, h2⟩ := ho
  refine ⟨h1, ?_⟩
  rcases h2 with h2 | ⟨k, cap, cur, h3, h4, h5, h6⟩
  · exact .inl h2
  · exact .inr ⟨k, cap, cur, h3, h4, by rw [hk k h4 (Array.getElem?_eq_some_iff.1 h5).1]; exact h5, h6⟩
theorem Rk.own {B : Nat} {s : ByteArray} {k : Nat} {w w' : World} (h : Rk B s k w w') {base : Nat} {v : Value} {acc : List UInt8} (ho : BOwn 5 w base v acc) (hb : B < base) : BOwn 5 w' base v acc :=
  own_keep ho fun b h1 h2 => h.keep b h2 (by omega)
theorem below_own {w w' : World} (h : Below w.heap.size w w') {base : Nat} {v : Value} {acc : List UInt8} (ho : BOwn 5 w base v acc) : BOwn 5 w' base v acc := own_keep ho fun b _ h2 => h.block b h2
/-- A call that turns nothing of what was there at the beginning, nor the reader. -/
theorem Rk.base {B : Nat} {s : ByteArray} {k : Nat} {a b c : World} (h : Rk B s k a b) (h' : Below a.heap.size b c) (hB : B < a.heap.size) : Rk B s k a c :=
  ⟨h.below.trans (h'.mono (Nat.le_of_lt hB)), fun i hi hb => (h'.block i hi).trans (h.keep i hi hb), h.rdr.below h' hB⟩

def unqF (q : UInt8) (t : List UInt8) : Option (List UInt8 × List UInt8) := unq q (t.length + 1) t
theorem unq_fuel (q : UInt8) : ∀ (n m : Nat) (t : List UInt8), t.length < n → t.length < m → unq q n t = unq q m t
  | n + 1, m + 1, t, hn, hm => by
    rw [unq, unq]
    split
    · rfl
    · split
      · rename_i hp
        have hl := pre_len hp
        have hpos := spelt_pos q (meant t)
        rw [unq_fuel q n m (t.drop (spelt q (meant t)).length) (by rw [List.length_drop]; omega) (by rw [List.length_drop]; omega)]
      · rfl
theorem unqF_end {q : UInt8} {t : List UInt8} (h : [q].isPrefixOf t = true) : unqF q t = some ([], t.drop 1) := by rw [unqF, unq, if_pos h]
theorem unqF_step {q : UInt8} {t : List UInt8} (h : [q].isPrefixOf t = false) (hp : (spelt q (meant t)).isPrefixOf t = true) : unqF q t = (unqF q (t.drop (spelt q (meant t)).length)).map fun x => (meant t :: x.1, x.2) := by
  have hl := pre_len hp
  have hpos := spelt_pos q (meant t)
  rw [unqF, unq, if_neg (by rw [h]; simp), if_pos hp, unqF, unq_fuel q t.length ((t.drop (spelt q (meant t)).length).length + 1) _ (by rw [List.length_drop]; omega) (by omega)]
theorem unqF_bad {q : UInt8} {t : List UInt8} (h : [q].isPrefixOf t = false) (hp : (spelt q (meant t)).isPrefixOf t = false) : unqF q t = none := by
  rw [unqF, unq, if_neg (by rw [h]; simp), if_neg (by rw [hp]; simp)]

set_option maxHeartbeats 2000000 in
set_option maxRecDepth 20000 in
theorem readQuoted_any (kd : Int) (q : UInt8) (hkd : kd = 5 ∨ kd = 6) (B k : Nat) (s : ByteArray) (hs : s.size ≤ 65536) (hk : k < s.size) (hq : s[k] = q) (w : World) (h : Rdr w B s k) :
    Calls Try.prog 51 #[.pointer (some ⟨B, 0, none⟩), .int .u8 kd, .int .u8 (q.toNat : Int)] w (RdE B s (quoR kd q (s.data.toList.drop (k + 1))) w) := by
  obtain ⟨c0, c1, f1⟩ := h.two
  have hB := h.lt
  have hlen : (s.data.toList.drop (k + 1)).length + 1 = s.size - k := by rw [drop_len]; omega
  obtain ⟨G, hG⟩ : ∃ G, quoR kd q (s.data.toList.drop (k + 1)) = G := ⟨_, rfl⟩
  have HGs : Hid (∀ r rest, unqF q (s.data.toList.drop (k + 1)) = some (r, rest) → G = .ok (rawP kd r, rest)) := fun r rest h => by
    rw [← hG, quoR]; unfold unqF at h; rw [h]
  have HGn : Hid (unqF q (s.data.toList.drop (k + 1)) = none → G = .error (s.size - k)) := fun h => by
    rw [← hG, quoR]; unfold unqF at h; rw [h, hlen]
  rw [hG]
  clear hG hlen
  have hcv := run_string_cells (P := Try.prog) w 61 9 5 Try.underlying61 Try.underlying5 Try.underlying9 [q] #[.int .u8 q.toNat] rfl
  have hb1 := (Below.refl w.heap.size w).alloc (Nat.le_refl _) (.cells #[.int .u8 q.toNat] 5)
  have hs1 := alloc_size w (.cells #[.int .u8 q.toNat] 5)
  have hr1 := (Rk.refl h).old hb1
  have hpre : [q].isPrefixOf (s.data.toList.drop k) = true := by rw [drop_at s k hk, hq]; simp [List.isPrefixOf]
  have hy1 := skip_yes B k s (bs [q]) hs (by omega) (by rw [bs_size]; simp) _ hr1.rdr (by rw [bs_data]; exact hpre)
  rw [bs_size] at hy1
  have hsy := fun m (hm : m ≤ s.size) w' (h' : Rdr w' B s m) hp => skip_yes B m s (bs [q]) hs hm (by rw [bs_size]; simp) w' h' (by rw [bs_data]; exact hp)
  have hsn := fun m (hm : m ≤ s.size) w' (h' : Rdr w' B s m) hp => skip_no B m s (bs [q]) hs hm (by rw [bs_size]; simp) w' h' (by rw [bs_data]; exact hp)
  rw [bs_size] at hsy
  generalize bs [q] = AR at *
  clear hpre hq h
  go_enter Try.func51, Try.ntmps51
  go_wp2_with fail
  generalize w.alloc (.cells #[.int .u8 q.toNat] 5) = w1 at *
  refine hy1.mono ?_
  rintro _ w2 ⟨rfl, hr2, hz2⟩
  have hw2 := hr1.trans hr2
  clear hy1 hr1 hr2 c0 c1 f1
  go_wp2_with fail
  have hmea := fun m (hm : m ≤ s.size) w' => meant_any (bs (s.data.toList.drop m)) (by rw [bs_size, drop_len]; omega) w'
  simp only [bs_data] at hmea
  go_loopw [9] (fun v wr => ∃ (m : Nat) (acc : List UInt8), k + 1 ≤ m ∧ m ≤ s.size ∧ acc.length + k + 1 ≤ m ∧ BOwn 5 wr w.heap.size v acc ∧ Rk B s m w wr ∧ Hid (unqF q (s.data.toList.drop (k + 1)) = (unqF q (s.data.toList.drop m)).map fun y => (acc ++ y.1, y.2))) (fun _ wr => s.size - atOf wr B)
  case atStart => exact ⟨k + 1, [], Nat.le_refl _, by omega, by simp, BOwn.nil _ _ _, hw2, by show _ = _; cases unqF q (s.data.toList.drop (k + 1)) <;> simp⟩
  case round =>
    clear hw2 hz2
    obtain ⟨m, acc, hkm, hm, hal, hown, hrk, HU⟩ := hrel
    have HA : Hid (atOf wr B = m) := hrk.rdr.atOf
    by_cases hp : [q].isPrefixOf (s.data.toList.drop m) = true
    · have hy := hsy m hm wr hrk.rdr hp
      have hle := pre_len hp
      rw [drop_len] at hle
      have hR := HGs.out acc (s.data.toList.drop (m + 1)) (by rw [HU.out, unqF_end hp, drop_more]; simp)
      have HR : Hid (G = .ok (rawP kd acc, s.data.toList.drop (m + 1))) := hR
      have hmd := fun w' => made_leaf (rawP kd acc) (rawLeaf (by omega) (by omega)) (k : Int) w'
      simp only [rawP, Prt.kind, Prt.yes, Prt.neg, Prt.mag, Prt.raw] at hmd
      clear hsy hsn hp HU HGs HGn hR hmea
      go_wp2_with fail
      refine hy.mono ?_
      rintro _ w3 ⟨rfl, hr3, -⟩
      have hw3 := hrk.trans hr3
      have hown3 := hr3.own hown hB
      have hcv3 := run_string_own (P := Try.prog) w3 61 9 5 Try.underlying61 Try.underlying5 Try.underlying9 w.heap.size _ acc hown3
      have hmd3 := hmd w3
      clear hmd hown hown3 hy
      go_wp2_with fail
      refine hmd3.mono ?_
      rintro _ w4 ⟨v4, rfl, hv, hb4⟩
      go_wp2_with fail
      go_ret
      rw [HR.out]
      have := hw3.size
      exact ⟨v4, m + 1, by simp at hle; omega, rfl, rfl, hv.mono (Nat.le_refl _) hw3.size, hw3.old hb4⟩
    · have hp' : [q].isPrefixOf (s.data.toList.drop m) = false := eq_false_of_ne_true hp
      have hy := hsn m hm wr hrk.rdr hp'
      have hmq := hmea m hm
      have hx := ext_drop s m
      obtain ⟨c, hc⟩ : ∃ c, meant (s.data.toList.drop m) = c := ⟨_, rfl⟩
      rw [hc] at hmq
      generalize bs (s.data.toList.drop m) = X at hx hmq
      have hsp := fun w' => spelt_any q c w'
      have hz : (bs (spelt q c)).size ≤ 65536 := by rw [bs_size]; have := spelt_le q c; omega
      have hzl : (bs (spelt q c)).size = (spelt q c).length := bs_size _
      cases hpp : (spelt q c).isPrefixOf (s.data.toList.drop m) with
      | true =>
        have hle := pre_len hpp
        rw [drop_len] at hle
        have hpos := spelt_pos q c
        have hy2 := fun w' (h' : Rdr w' B s m) => skip_yes B m s (bs (spelt q c)) hs hm hz w' h' (by rw [bs_data]; exact hpp)
        have HU2 : Hid (unqF q (s.data.toList.drop (k + 1)) = (unqF q (s.data.toList.drop (m + (spelt q c).length))).map fun y => ((acc ++ [c]) ++ y.1, y.2)) := by
          show _ = _
          rw [HU.out, unqF_step hp' (by rw [hc]; exact hpp), hc, drop_more, Option.map_map]
          congr 1
          funext y
          simp
        rw [hzl] at hy2
        generalize bs (spelt q c) = SP at *
        generalize (spelt q c).length = n at *
        clear hsy hsn hp hp' HU HGs HGn hmea hc hpp hz hzl
        go_wp2_with fail
        refine hy.mono ?_
        rintro _ w3 ⟨rfl, hr3, -⟩
        have hw3 := hrk.trans hr3
        have hown3 := hr3.own hown hB
        obtain ⟨d0, d1, _⟩ := hw3.rdr.two
        clear hy hown
        go_wp2_with fail
        go_quiet (first | (go_at_call 73; refine Calls.quiet_of (hmq _)))
        have hw3' := hw3.draws nq
        have hown3' : BOwn 5 (w3.drewN nq) w.heap.size _ acc := hown3
        generalize w3.drewN nq = w4 at *
        have hsp4 := hsp w4
        clear hsp hown3 hw3 d0 d1
        go_wp2_with fail
        refine hsp4.mono ?_
        rintro _ w5 ⟨rfl, hb5⟩
        have hw5 := hw3'.old hb5
        have hown5 := below_own hb5 hown3'
        have hy5 := hy2 w5 hw5.rdr
        clear hy2 hown3'
        go_wp2_with fail
        refine hy5.mono ?_
        rintro _ w6 ⟨rfl, hr6, -⟩
        have hw6 := hw5.trans hr6
        have hown6 := hr6.own hown5 hB
        have hn := need_yes (k : Int) w6
        clear hy5 hown5
        go_wp2_with fail
        refine hn.mono ?_
        rintro _ _ ⟨rfl, rfl⟩
        have hsz6 := hw6.size
        have hlen : acc.length ≤ 1099511627776 := by omega
        have hb6 := Below.refl w.heap.size w6
        go_wp2_with (at_builtin; refine wpList_append_byte rfl (.tmp 42) (.tmp 44) 61 rfl 5 Try.underlying61 info5 w.heap.size _ _ rfl hown6 c _ rfl 1 rfl hlen hsz6 w.heap.size w6 hb6 (Nat.le_refl _) ?_; intro v' w7 hown7 hbel7 hsz7)
        go_roundw
        case rel => exact ⟨m + n, acc ++ [c], by omega, by omega, by simp; omega, hown7, hw6.base hbel7 hB, HU2⟩
        case measure =>
          rw [HA.out, (hw6.base hbel7 hB).rdr.atOf]
          omega
      | false =>
        have hy2 := fun w' (h' : Rdr w' B s m) => skip_no B m s (bs (spelt q c)) hs hm hz w' h' (by rw [bs_data]; exact hpp)
        have HR : Hid (G = .error (s.size - k)) := HGn.out (by rw [HU.out, unqF_bad hp' (by rw [hc]; exact hpp)]; rfl)
        generalize bs (spelt q c) = SP at *
        clear hsy hsn hp hp' HU HGs HGn hmea hc hpp hz hzl
        go_wp2_with fail
        refine hy.mono ?_
        rintro _ w3 ⟨rfl, hr3, -⟩
        have hw3 := hrk.trans hr3
        obtain ⟨d0, d1, _⟩ := hw3.rdr.two
        clear hy hown
        go_wp2_with fail
        go_quiet (first | (go_at_call 73; refine Calls.quiet_of (hmq _)))
        have hw3' := hw3.draws nq
        generalize w3.drewN nq = w4 at *
        have hsp4 := hsp w4
        clear hsp hw3 d0 d1
        go_wp2_with fail
        refine hsp4.mono ?_
        rintro _ w5 ⟨rfl, hb5⟩
        have hw5 := hw3'.old hb5
        have hy5 := hy2 w5 hw5.rdr
        clear hy2
        go_wp2_with fail
        refine hy5.mono ?_
        rintro _ w6 ⟨rfl, hr6, -⟩
        have hw6 := hw5.trans hr6
        have hn := need_not (k : Int) w6
        clear hy5
        go_wp2_with fail
        refine hn.mono ?_
        rintro _ _ ⟨rfl, rfl⟩
        refine ⟨rfl, ?_⟩
        rw [HR.out]
        exact ⟨k, by omega, rfl, rfl, hw6.below⟩
end Go.Proofs.Ytffhbellpcneeaa

namespace Go.Proofs.Ytffhbellpcneeaa
open Go.RowKit Go.Vf
/-- A list of values in a row of its own. -/
def VOwn (w : World) (base : Nat) (v : Value) (vs : List Value) : Prop := w.ownsRow base 33 1 v vs.length vs
theorem VOwn.keep {w w' : World} {base : Nat} {v : Value} {vs : List Value} (h : VOwn w base v vs) (hk : ∀ b, base ≤ b → b < w.heap.size → w'.heap[b]? = w.heap[b]?) : VOwn w' base v vs := own_keep h hk
theorem VOwn.nil (w : World) (base : Nat) : VOwn w base (.slice none 0 0) [] := World.ownsRow_nil w base 33 1
theorem VOwn.form {w : World} {base : Nat} {v : Value} {vs : List Value} (h : VOwn w base v vs) : (v = .slice none 0 0 ∧ vs = []) ∨ ∃ g cap, v = .slice (some ⟨g, 0, none⟩) vs.length cap ∧ base ≤ g ∧ g < w.heap.size ∧ ∀ j (hj : j < vs.length), w.cell? ⟨g, j, none⟩ = some vs[j] := by
  have h0 := h
  obtain ⟨h1, h2⟩ := h
  rcases h2 with ⟨rfl, h3⟩ | ⟨g, cap, cur, rfl, h4, h5, h6⟩
  · exact .inl ⟨rfl, List.eq_nil_of_length_eq_zero h3⟩
  · refine .inr ⟨g, cap, rfl, h4, (Array.getElem?_eq_some_iff.1 h5).1, fun j hj => ?_⟩
    have := World.ownsRow.cellAt h0 j (by omega)
    rw [this, List.getElem?_eq_getElem hj]
theorem VIn.one {w : World} {lo n : Nat} {v : Value} {p : Prt} (h : VIn w lo n v p) : v.oneCell' = true := by
  cases h <;> rfl
theorem info33 : ∃ i, Try.prog.info? 33 = some i ∧ i.zero = some .nilIface ∧ i.size = 1 ∧ i.bytes = 16 := by
  obtain ⟨i, hi, hz⟩ := Option.map_eq_some_iff.1 info31
  simp only [Prod.mk.injEq] at hz
  exact ⟨i, hi, hz.1, hz.2.1, hz.2.2⟩

theorem slice_some (g n cap : Nat) (w : World) : (binOp .eql 77 (.slice (some ⟨g, 0, none⟩) n cap) (.slice none 0 0)).run Try.prog w = .ok (.bool false) w := by kernel_rfl
theorem slice_nil (w : World) : (binOp .eql 77 (.slice none 0 0) (.slice none 0 0)).run Try.prog w = .ok (.bool true) w := by kernel_rfl
set_option maxHeartbeats 1000000 in
set_option maxRecDepth 20000 in
theorem clone_any (v : Value) (vs : List Value) (h1 : ∀ u ∈ vs, u.oneCell' = true) (hn : vs.length ≤ 1024) (base : Nat) (w : World) (h : VOwn w base v vs) :
    Calls Try.prog 88 #[v] w fun e w' => ∃ v', e = .returned v' ∧ VOwn w' w.heap.size v' vs ∧ Below w.heap.size w w' := by
  obtain ⟨i, hi, hz, hsz, hby⟩ := info33
  rcases h.form with ⟨rfl, rfl⟩ | ⟨g, cap, rfl, hg, hlt, hc⟩
  · have hnil := slice_nil
    clear h h1 hn hi hz hsz hby
    go_enter Try.func88, Try.ntmps88
    go_wp2
    go_ret
    exact ⟨_, rfl, VOwn.nil _ _, Below.refl _ _⟩
  · have hnil := slice_some g
    have hb1 := (Below.refl w.heap.size w).alloc (Nat.le_refl _) (.cells #[] 33)
    have hs1 := alloc_size w (.cells #[] 33)
    have ho : (w.alloc (.cells #[] 33)).ownsRow w.heap.size 33 1 (.slice (some ⟨w.heap.size, 0, none⟩) 0 0) 0 [] := ⟨by simp, .inr ⟨w.heap.size, 0, #[], rfl, Nat.le_refl _, heap_alloc_new w _, by simp, by simp [maxLen], by simp, by simp⟩⟩
    have hnews : ∀ j u, vs[j]? = some u → (w.alloc (.cells #[] 33)).cell? ((⟨g, 0, none⟩ : Addr).add j) = some u := fun j u hu => by
      obtain ⟨hj, rfl⟩ := List.getElem?_eq_some_iff.1 hu
      rw [Go.WideShapes.add_plain, Nat.zero_add, World.cell?_alloc_lt w _ _ hlt]
      exact hc j hj
    obtain ⟨n, hN⟩ : ∃ n, vs.length = n := ⟨_, rfl⟩
    have HN : Hid (vs.length = n) := hN
    rw [hN] at hn ⊢
    clear h hc hN
    go_enter Try.func88, Try.ntmps88
    go_upto_region 3 with fail
    go_wp2_with (at_builtin; refine wpList_append_own _ rfl (.tmp 5) (.tmp 6) 77 rfl w.heap.size 33 i .nilIface 1 16 Try.underlying77 hi hz hsz hby rfl (by decide) _ 0 [] rfl ho ⟨g, 0, none⟩ n cap vs rfl (by rw [HN.out]; simp) hnews h1 (by simp [maxLen]; omega) (by omega) (by rw [hs1]; omega) ?_; intro v' w2 ho2 hg2 _)
    go_ret
    refine ⟨v', rfl, ?_, hb1.grown hg2 (by rw [hs1]; omega) (fun k hk => by cases hk; exact Nat.le_refl _)⟩
    show w2.ownsRow w.heap.size 33 1 v' vs.length vs
    rw [HN.out]
    simpa using ho2

set_option maxHeartbeats 1000000 in
set_option maxRecDepth 20000 in
theorem of_any (v : Value) (vs : List Value) (l : List Prt) (hl : l.length ≤ 1024) (hvl : vs.length = l.length) (hd : depL l ≤ 15) (lo base : Nat) (w : World) (hlo : lo ≤ w.heap.size) (h : VOwn w base v vs) (hv : ∀ j (hj : j < l.length), VIn w lo w.heap.size (vs[j]'(by omega)) l[j]) :
    Calls Try.prog 76 #[v] w fun e w' => ∃ g, e = .returned (.tuple #[.iface 78 (.pointer (some ⟨g, 0, none⟩)), .int .i64 0]) ∧ VIn w' lo w'.heap.size (.iface 78 (.pointer (some ⟨g, 0, none⟩))) (tupP l) ∧ Below w.heap.size w w' := by
  have hone : ∀ u ∈ vs, u.oneCell' = true := fun u hu => by
    obtain ⟨j, hj, rfl⟩ := List.mem_iff_getElem.1 hu
    exact (hv j (by omega)).one
  have hcl := clone_any v vs hone (by omega) base w h
  obtain ⟨a0, c0, hform⟩ : ∃ a c, v = .slice a l.length c := by
    rcases h.form with ⟨rfl, e⟩ | ⟨g, cap, rfl, _⟩
    · subst e; exact ⟨none, 0, by rw [← hvl]; rfl⟩
    · exact ⟨_, _, by rw [← hvl]⟩
  subst hform
  have hnext : ∀ v' w2, VOwn w2 w.heap.size v' vs → Below w.heap.size w w2 → ∃ a c, v' = .slice a l.length c ∧ Calls Try.prog 39 #[.slice a l.length c] w2 fun e w' => e = .returned (.pointer (some ⟨w2.heap.size, 0, none⟩)) ∧ Blk w' w2.heap.size 110 #[.slice a l.length c, .int .i64 ((depL l + 1 : Nat) : Int)] ∧ Below w2.heap.size w2 w' ∧ VIn w' lo w'.heap.size (.iface 78 (.pointer (some ⟨w2.heap.size, 0, none⟩))) (tupP l) := by
    intro v' w2 ho hb
    have key : ∃ a c, v' = .slice a l.length c ∧ ∀ j (hj : j < l.length), ∃ h off, a = some ⟨h, off, none⟩ ∧ lo ≤ h ∧ h < w2.heap.size ∧ w2.cell? ⟨h, off + j, none⟩ = some (vs[j]'(by omega)) := by
      rcases ho.form with ⟨rfl, e⟩ | ⟨g, cap, rfl, hg, hlt, hc⟩
      · subst e
        refine ⟨none, 0, by rw [← hvl]; rfl, fun j hj => ?_⟩
        rw [← hvl] at hj; simp at hj
      · refine ⟨_, _, by rw [← hvl], fun j hj => ⟨g, 0, rfl, by omega, hlt, ?_⟩⟩
        rw [Nat.zero_add]; exact hc j (by omega)
    obtain ⟨a, c, rfl, hc⟩ := key
    refine ⟨a, c, rfl, ?_⟩
    have hV : ∀ j (hj : j < l.length), (vs[j]?.getD .nilIface) = vs[j]'(by omega) := fun j hj => by
      rw [List.getElem?_eq_getElem (by omega)]; rfl
    have hin : ∀ j (hj : j < l.length), VIn w2 lo w2.heap.size (vs[j]?.getD .nilIface) l[j] := fun j hj => by
      rw [hV j hj]; exact ((hv j hj).old hb (Nat.le_refl _)).mono hb.size (Nat.le_refl _)
    have hcc : ∀ j, j < l.length → ∃ h off, a = some ⟨h, off, none⟩ ∧ lo ≤ h ∧ h < w2.heap.size ∧ w2.cell? ⟨h, off + j, none⟩ = some (vs[j]?.getD .nilIface) := fun j hj => by
      rw [hV j hj]; exact hc j hj
    refine (tupleOf_any l (by omega) (by omega) a c lo w2.heap.size (fun j => vs[j]?.getD .nilIface) w2 hcc hin).mono ?_
    rintro _ _ ⟨rfl, rfl⟩
    have q1 := (Below.refl w2.heap.size w2).alloc (Nat.le_refl _) (.cells #[.slice a l.length c, .int .i64 ((depL l + 1 : Nat) : Int)] 110)
    have q2 := alloc_size w2 (.cells #[.slice a l.length c, .int .i64 ((depL l + 1 : Nat) : Int)] 110)
    have q3 := Blk.new w2 110 #[.slice a l.length c, .int .i64 ((depL l + 1 : Nat) : Int)]
    refine ⟨rfl, q3, q1, .tup (fun j => vs[j]?.getD .nilIface) (by have := hb.size; omega) (by omega) q3 (fun j hj => ?_) (fun j hj => ((hin j hj).old q1 (Nat.le_refl _)).mono (by omega) (Nat.le_refl _))⟩
    obtain ⟨h', off, e, r1, r2, r3⟩ := hcc j hj
    exact ⟨h', off, e, r1, by omega, (cell_block (q1.block _ (by omega)) _).trans r3⟩
  have hD : depL l + 1 ≤ 16 := by omega
  generalize depL l + 1 = D at *
  obtain ⟨n, hN⟩ : ∃ n, l.length = n := ⟨_, rfl⟩
  rw [hN] at hcl hnext hl ⊢
  clear hN hv h hone hvl hd
  go_enter Try.func76, Try.ntmps76
  go_wp2_with fail
  refine hcl.mono ?_
  rintro _ w2 ⟨v', rfl, ho2, hb2⟩
  obtain ⟨a, c, rfl, ht⟩ := hnext v' w2 ho2 hb2
  clear hnext hcl ho2
  go_wp2_with fail
  refine ht.mono ?_
  rintro _ w3 ⟨rfl, hblk, hb3, hv3⟩
  have d1 : w3.cell? ⟨w2.heap.size, 1, none⟩ = some (.int .i64 (D : Int)) := hblk.cell 1
  have HV : Hid _ := hv3
  clear hv3 hblk ht
  go_wp2_with fail
  go_ret2
  exact ⟨_, rfl, HV.out, hb2.trans (hb3.mono hb2.size)⟩
end Go.Proofs.Ytffhbellpcneeaa

namespace Go.Proofs.Ytffhbellpcneeaa
open Go.RowKit Go.Vf

/-- What stands up to the quote, however it is spelt, and what stands behind. -/
def skim (q : UInt8) : List UInt8 → Option (List UInt8 × List UInt8)
  | [] => none
  | c :: t => if c = q then some ([], t) else if c ≠ 92 then (skim q t).map fun y => (c :: y.1, y.2) else
    match t with
    | [] => none
    | d :: u => if d ≠ 120 then (skim q u).map fun y => (d :: y.1, y.2) else
      match u with
      | a :: b :: r => if isHex a = true ∧ isHex b = true then (skim q r).map fun y => (unh a b :: y.1, y.2) else none
      | _ => none
theorem skim_cons (q c : UInt8) (t : List UInt8) : skim q (c :: t) = if c = q then some ([], t) else if c ≠ 92 then (skim q t).map fun y => (c :: y.1, y.2) else
    match t with
    | [] => none
    | d :: u => if d ≠ 120 then (skim q u).map fun y => (d :: y.1, y.2) else
      match u with
      | a :: b :: r => if isHex a = true ∧ isHex b = true then (skim q r).map fun y => (unh a b :: y.1, y.2) else none
      | _ => none := by rw [skim.eq_def]
theorem skim_end {q : UInt8} {t : List UInt8} : skim q (q :: t) = some ([], t) := by rw [skim_cons, if_pos rfl]
theorem skim_one {q c : UInt8} {t : List UInt8} (h : c ≠ q) (h2 : c ≠ 92) : skim q (c :: t) = (skim q t).map fun y => (c :: y.1, y.2) := by rw [skim_cons, if_neg h, if_pos h2]
theorem skim_lone {q : UInt8} (h : (92 : UInt8) ≠ q) : skim q [92] = none := by rw [skim_cons, if_neg h, if_neg (by simp)]
theorem skim_two {q d : UInt8} {u : List UInt8} (h : (92 : UInt8) ≠ q) (h2 : d ≠ 120) : skim q (92 :: d :: u) = (skim q u).map fun y => (d :: y.1, y.2) := by
  rw [skim_cons, if_neg h, if_neg (by simp)]; dsimp only; rw [if_pos h2]
theorem skim_short {q : UInt8} {u : List UInt8} (h : (92 : UInt8) ≠ q) (h2 : u.length < 2) : skim q (92 :: 120 :: u) = none := by
  rw [skim_cons, if_neg h, if_neg (by simp)]; dsimp only; rw [if_neg (by simp)]
  match u, h2 with
  | [], _ => rfl
  | [a], _ => rfl
theorem skim_four {q a b : UInt8} {r : List UInt8} (h : (92 : UInt8) ≠ q) (ha : isHex a = true) (hb : isHex b = true) : skim q (92 :: 120 :: a :: b :: r) = (skim q r).map fun y => (unh a b :: y.1, y.2) := by
  rw [skim_cons, if_neg h, if_neg (by simp)]; dsimp only; rw [if_neg (by simp), if_pos ⟨ha, hb⟩]
theorem skim_bad {q a b : UInt8} {r : List UInt8} (h : (92 : UInt8) ≠ q) (hb : ¬ (isHex a = true ∧ isHex b = true)) : skim q (92 :: 120 :: a :: b :: r) = none := by
  rw [skim_cons, if_neg h, if_neg (by simp)]; dsimp only; rw [if_neg (by simp), if_neg hb]

theorem skim_read {q : UInt8} (hq : q = 39 ∨ q = 34) (rest : List UInt8) : ∀ (l : List UInt8), skim q (l.flatMap (spelt q) ++ q :: rest) = some (l, rest)
  | [] => by simp [skim_cons]
  | c :: r => by
    have h92 : (92 : UInt8) ≠ q := by rcases hq with rfl | rfl <;> decide
    have ih := skim_read hq rest r
    rw [List.flatMap_cons, List.append_assoc]
    generalize r.flatMap (spelt q) ++ q :: rest = T at *
    unfold spelt
    split
    · rename_i h
      have hx : c ≠ 120 := by rcases h with rfl | rfl <;> rcases hq with rfl | rfl <;> decide
      show skim q (92 :: c :: T) = _
      rw [skim_two h92 hx, ih]; rfl
    · rename_i h
      split
      · show skim q (c :: T) = _
        rw [skim_one (fun e => h (.inl e)) (fun e => h (.inr e)), ih]; rfl
      · show skim q (92 :: 120 :: hexD (c.toNat / 16) :: hexD (c.toNat % 16) :: T) = _
        have hh := hex2_hex c
        rw [skim_four h92 (hh _ (by simp [hex2])) (hh _ (by simp [hex2])), ih, unh_hex2]; rfl

/-- What the document answers: what was skimmed, if it is spelt as it must be. -/
theorem unq_of_skim {q : UInt8} (hq : q = 39 ∨ q = 34) {t l rest : List UInt8} (he : t = l.flatMap (spelt q) ++ q :: rest) : unqF q t = some (l, rest) := by
  rw [unqF, he, unq_read hq rest l _ ?_]
  have : l.length ≤ (l.flatMap (spelt q)).length := by
    clear he
    induction l with
    | nil => simp
    | cons a r ih => rw [List.flatMap_cons, List.length_append, List.length_cons]; have := spelt_pos q a; omega
  rw [List.length_append]; simp only [List.length_cons]; omega
theorem unq_not_none {q : UInt8} (hq : q = 39 ∨ q = 34) {t : List UInt8} (hs : skim q t = none) : unqF q t = none := by
  cases h : unqF q t with
  | none => rfl
  | some x =>
    obtain ⟨l, rest⟩ := x
    have e := unq_inv q _ _ _ _ h
    rw [e, skim_read hq rest l] at hs
    cases hs
theorem unq_not_so {q : UInt8} (hq : q = 39 ∨ q = 34) {t l rest : List UInt8} (hs : skim q t = some (l, rest)) (he : t ≠ l.flatMap (spelt q) ++ q :: rest) : unqF q t = none := by
  cases h : unqF q t with
  | none => rfl
  | some x =>
    obtain ⟨l', rest'⟩ := x
    have e := unq_inv q _ _ _ _ h
    rw [e, skim_read hq rest' l'] at hs
    simp only [Option.some.injEq, Prod.mk.injEq] at hs
    obtain ⟨rfl, rfl⟩ := hs
    exact absurd e he
end Go.Proofs.Ytffhbellpcneeaa
