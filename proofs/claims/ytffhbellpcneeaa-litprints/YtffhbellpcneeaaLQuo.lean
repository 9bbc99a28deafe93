/- What lit's readQuoted does (contracts; nothing is claimed here). -/
import Derived.Test.YtffhbellpcneeaaLHexR
namespace Go.Proofs.Ytffhbellpcneeaa
open Go.RowKit Go.Vf
theorem own_keep {w w' : World} {base e size : Nat} {v : Value} {n : Nat} {xs : List Value} (ho : w.ownsRow base e size v n xs) (hk : ∀ b, base ≤ b → b < w.heap.size → w'.heap[b]? = w.heap[b]?) : w'.ownsRow base e size v n xs := by
  obtain ⟨h1, h2⟩ := ho
  refine ⟨h1, ?_⟩
  rcases h2 with h2 | ⟨k, cap, cur, h3, h4, h5, h6⟩
  · exact .inl h2
  · exact .inr ⟨k, cap, cur, h3, h4, by rw [hk k h4 (Array.getElem?_eq_some_iff.1 h5).1]; exact h5, h6⟩
theorem Rk.own {B : Nat} {s : ByteArray} {k : Nat} {w w' : World} (h : Rk B s k w w') {base : Nat} {v : Value} {acc : List UInt8} (ho : BOwn 5 w base v acc) (hb : B < base) : BOwn 5 w' base v acc :=
  own_keep ho fun b h1 h2 => h.keep b h2 (by omega)
theorem below_own {w w' : World} (h : Below w.heap.size w w') {base : Nat} {v : Value} {acc : List UInt8} (ho : BOwn 5 w base v acc) : BOwn 5 w' base v acc := own_keep ho fun b _ h2 => h.block b h2
/-- A call that turns nothing of what was there at the beginning, nor the reader. -/
theorem Rk.base {B : Nat} {s : ByteArray} {k : Nat} {a b c : World} (h : Rk B s k a b) (h' : Below a.heap.size b c) (hB : B < a.heap.size) : Rk B s k a c :=
  ⟨h.below.trans (h'.mono (Nat.le_of_lt hB)), fun i hi hb => (h'.block i hi).trans (h.keep i hi hb), h.rdr.below h' hB⟩

def unqF (q : UInt8) (t : List UInt8) : Option (List UInt8 × List UInt8) := unq q (t.length + 1) t
theorem unq_fuel (q : UInt8) : ∀ (n m : Nat) (t : List UInt8), t.length < n → t.length < m → unq q n t = unq q m t
  | n + 1, m + 1, t, hn, hm => by
    rw [unq, unq]
    split
    · rfl
    · split
      · rename_i hp
        have hl := pre_len hp
        have hpos := spelt_pos q (meant t)
        rw [unq_fuel q n m (t.drop (spelt q (meant t)).length) (by rw [List.length_drop]; omega) (by rw [List.length_drop]; omega)]
      · rfl
theorem unqF_end {q : UInt8} {t : List UInt8} (h : [q].isPrefixOf t = true) : unqF q t = some ([], t.drop 1) := by rw [unqF, unq, if_pos h]
theorem unqF_step {q : UInt8} {t : List UInt8} (h : [q].isPrefixOf t = false) (hp : (spelt q (meant t)).isPrefixOf t = true) : unqF q t = (unqF q (t.drop (spelt q (meant t)).length)).map fun x => (meant t :: x.1, x.2) := by
  have hl := pre_len hp
  have hpos := spelt_pos q (meant t)
  rw [unqF, unq, if_neg (by rw [h]; simp), if_pos hp, unqF, unq_fuel q t.length ((t.drop (spelt q (meant t)).length).length + 1) _ (by rw [List.length_drop]; omega) (by omega)]
theorem unqF_bad {q : UInt8} {t : List UInt8} (h : [q].isPrefixOf t = false) (hp : (spelt q (meant t)).isPrefixOf t = false) : unqF q t = none := by
  rw [unqF, unq, if_neg (by rw [h]; simp), if_neg (by rw [hp]; simp)]

set_option maxHeartbeats 2000000 in
set_option maxRecDepth 20000 in
theorem readQuoted_any (kd : Int) (q : UInt8) (hkd : kd = 5 ∨ kd = 6) (B k : Nat) (s : ByteArray) (hs : s.size ≤ 65536) (hk : k < s.size) (hq : s[k] = q) (w : World) (h : Rdr w B s k) :
    Calls Try.prog 51 #[.pointer (some ⟨B, 0, none⟩), .int .u8 kd, .int .u8 (q.toNat : Int)] w (RdE B s (quoR kd q (s.data.toList.drop (k + 1))) w) := by
  obtain ⟨c0, c1, f1⟩ := h.two
  have hB := h.lt
  have hlen : (s.data.toList.drop (k + 1)).length + 1 = s.size - k := by rw [drop_len]; omega
  obtain ⟨G, hG⟩ : ∃ G, quoR kd q (s.data.toList.drop (k + 1)) = G := ⟨_, rfl⟩
  have HGs : Hid (∀ r rest, unqF q (s.data.toList.drop (k + 1)) = some (r, rest) → G = .ok (rawP kd r, rest)) := fun r rest h => by
    rw [← hG, quoR]; unfold unqF at h; rw [h]
  have HGn : Hid (unqF q (s.data.toList.drop (k + 1)) = none → G = .error (s.size - k)) := fun h => by
    rw [← hG, quoR]; unfold unqF at h; rw [h, hlen]
  rw [hG]
  clear hG hlen
  have hcv := run_string_cells (P := Try.prog) w 61 9 5 Try.underlying61 Try.underlying5 Try.underlying9 [q] #[.int .u8 q.toNat] rfl
  have hb1 := (Below.refl w.heap.size w).alloc (Nat.le_refl _) (.cells #[.int .u8 q.toNat] 5)
  have hs1 := alloc_size w (.cells #[.int .u8 q.toNat] 5)
  have hr1 := (Rk.refl h).old hb1
  have hpre : [q].isPrefixOf (s.data.toList.drop k) = true := by rw [drop_at s k hk, hq]; simp [List.isPrefixOf]
  have hy1 := skip_yes B k s (bs [q]) hs (by omega) (by rw [bs_size]; simp) _ hr1.rdr (by rw [bs_data]; exact hpre)
  rw [bs_size] at hy1
  have hsy := fun m (hm : m ≤ s.size) w' (h' : Rdr w' B s m) hp => skip_yes B m s (bs [q]) hs hm (by rw [bs_size]; simp) w' h' (by rw [bs_data]; exact hp)
  have hsn := fun m (hm : m ≤ s.size) w' (h' : Rdr w' B s m) hp => skip_no B m s (bs [q]) hs hm (by rw [bs_size]; simp) w' h' (by rw [bs_data]; exact hp)
  rw [bs_size] at hsy
  generalize bs [q] = AR at *
  clear hpre hq h
  go_enter Try.func51, Try.ntmps51
  go_wp2_with fail
  generalize w.alloc (.cells #[.int .u8 q.toNat] 5) = w1 at *
  refine hy1.mono ?_
  rintro _ w2 ⟨rfl, hr2, hz2⟩
  have hw2 := hr1.trans hr2
  clear hy1 hr1 hr2 c0 c1 f1
  go_wp2_with fail
  have hmea := fun m (hm : m ≤ s.size) w' => meant_any (bs (s.data.toList.drop m)) (by rw [bs_size, drop_len]; omega) w'
  simp only [bs_data] at hmea
  go_loopw [9] (fun v wr => ∃ (m : Nat) (acc : List UInt8), k + 1 ≤ m ∧ m ≤ s.size ∧ acc.length + k + 1 ≤ m ∧ BOwn 5 wr w.heap.size v acc ∧ Rk B s m w wr ∧ Hid (unqF q (s.data.toList.drop (k + 1)) = (unqF q (s.data.toList.drop m)).map fun y => (acc ++ y.1, y.2))) (fun _ wr => s.size - atOf wr B)
  case atStart => exact ⟨k + 1, [], Nat.le_refl _, by omega, by simp, BOwn.nil _ _ _, hw2, by show _ = _; cases unqF q (s.data.toList.drop (k + 1)) <;> simp⟩
  case round =>
    clear hw2 hz2
    obtain ⟨m, acc, hkm, hm, hal, hown, hrk, HU⟩ := hrel
    have HA : Hid (atOf wr B = m) := hrk.rdr.atOf
    by_cases hp : [q].isPrefixOf (s.data.toList.drop m) = true
    · have hy := hsy m hm wr hrk.rdr hp
      have hle := pre_len hp
      rw [drop_len] at hle
      have hR := HGs.out acc (s.data.toList.drop (m + 1)) (by rw [HU.out, unqF_end hp, drop_more]; simp)
      have HR : Hid (G = .ok (rawP kd acc, s.data.toList.drop (m + 1))) := hR
      have hmd := fun w' => made_leaf (rawP kd acc) (rawLeaf (by omega) (by omega)) (k : Int) w'
      simp only [rawP, Prt.kind, Prt.yes, Prt.neg, Prt.mag, Prt.raw] at hmd
      clear hsy hsn hp HU HGs HGn hR hmea
      go_wp2_with fail
      refine hy.mono ?_
      rintro _ w3 ⟨rfl, hr3, -⟩
      have hw3 := hrk.trans hr3
      have hown3 := hr3.own hown hB
      have hcv3 := run_string_own (P := Try.prog) w3 61 9 5 Try.underlying61 Try.underlying5 Try.underlying9 w.heap.size _ acc hown3
      have hmd3 := hmd w3
      clear hmd hown hown3 hy
      go_wp2_with fail
      refine hmd3.mono ?_
      rintro _ w4 ⟨v4, rfl, hv, hb4⟩
      go_wp2_with fail
      go_ret
      rw [HR.out]
      have := hw3.size
      exact ⟨v4, m + 1, by simp at hle; omega, rfl, rfl, hv.mono (Nat.le_refl _) hw3.size, hw3.old hb4⟩
    · have hp' : [q].isPrefixOf (s.data.toList.drop m) = false := eq_false_of_ne_true hp
      have hy := hsn m hm wr hrk.rdr hp'
      have hmq := hmea m hm
      have hx := ext_drop s m
      obtain ⟨c, hc⟩ : ∃ c, meant (s.data.toList.drop m) = c := ⟨_, rfl⟩
      rw [hc] at hmq
      generalize bs (s.data.toList.drop m) = X at hx hmq
      have hsp := fun w' => spelt_any q c w'
      have hz : (bs (spelt q c)).size ≤ 65536 := by rw [bs_size]; have := spelt_le q c; omega
      have hzl : (bs (spelt q c)).size = (spelt q c).length := bs_size _
      cases hpp : (spelt q c).isPrefixOf (s.data.toList.drop m) with
      | true =>
        have hle := pre_len hpp
        rw [drop_len] at hle
        have hpos := spelt_pos q c
        have hy2 := fun w' (h' : Rdr w' B s m) => skip_yes B m s (bs (spelt q c)) hs hm hz w' h' (by rw [bs_data]; exact hpp)
        have HU2 : Hid (unqF q (s.data.toList.drop (k + 1)) = (unqF q (s.data.toList.drop (m + (spelt q c).length))).map fun y => ((acc ++ [c]) ++ y.1, y.2)) := by
          show _ = _
          rw [HU.out, unqF_step hp' (by rw [hc]; exact hpp), hc, drop_more, Option.map_map]
          congr 1
          funext y
          simp
        rw [hzl] at hy2
        generalize bs (spelt q c) = SP at *
        generalize (spelt q c).length = n at *
        clear hsy hsn hp hp' HU HGs HGn hmea hc hpp hz hzl
        go_wp2_with fail
        refine hy.mono ?_
        rintro _ w3 ⟨rfl, hr3, -⟩
        have hw3 := hrk.trans hr3
        have hown3 := hr3.own hown hB
        obtain ⟨d0, d1, _⟩ := hw3.rdr.two
        clear hy hown
        go_wp2_with fail
        go_quiet (first | (go_at_call 73; refine Calls.quiet_of (hmq _)))
        have hw3' := hw3.draws nq
        have hown3' : BOwn 5 (w3.drewN nq) w.heap.size _ acc := hown3
        generalize w3.drewN nq = w4 at *
        have hsp4 := hsp w4
        clear hsp hown3 hw3 d0 d1
        go_wp2_with fail
        refine hsp4.mono ?_
        rintro _ w5 ⟨rfl, hb5⟩
        have hw5 := hw3'.old hb5
        have hown5 := below_own hb5 hown3'
        have hy5 := hy2 w5 hw5.rdr
        clear hy2 hown3'
        go_wp2_with fail
        refine hy5.mono ?_
        rintro _ w6 ⟨rfl, hr6, -⟩
        have hw6 := hw5.trans hr6
        have hown6 := hr6.own hown5 hB
        have hn := need_yes (k : Int) w6
        clear hy5 hown5
        go_wp2_with fail
        refine hn.mono ?_
        rintro _ _ ⟨rfl, rfl⟩
        have hsz6 := hw6.size
        have hlen : acc.length ≤ 1099511627776 := by omega
        have hb6 := Below.refl w.heap.size w6
        go_wp2_with (at_builtin; refine wpList_append_byte rfl (.tmp 42) (.tmp 44) 61 rfl 5 Try.underlying61 info5 w.heap.size _ _ rfl hown6 c _ rfl 1 rfl hlen hsz6 w.heap.size w6 hb6 (Nat.le_refl _) ?_; intro v' w7 hown7 hbel7 hsz7)
        go_roundw
        case rel => exact ⟨m + n, acc ++ [c], by omega, by omega, by simp; omega, hown7, hw6.base hbel7 hB, HU2⟩
        case measure =>
          rw [HA.out, (hw6.base hbel7 hB).rdr.atOf]
          omega
      | false =>
        have hy2 := fun w' (h' : Rdr w' B s m) => skip_no B m s (bs (spelt q c)) hs hm hz w' h' (by rw [bs_data]; exact hpp)
        have HR : Hid (G = .error (s.size - k)) := HGn.out (by rw [HU.out, unqF_bad hp' (by rw [hc]; exact hpp)]; rfl)
        generalize bs (spelt q c) = SP at *
        clear hsy hsn hp hp' HU HGs HGn hmea hc hpp hz hzl
        go_wp2_with fail
        refine hy.mono ?_
        rintro _ w3 ⟨rfl, hr3, -⟩
        have hw3 := hrk.trans hr3
        obtain ⟨d0, d1, _⟩ := hw3.rdr.two
        clear hy hown
        go_wp2_with fail
        go_quiet (first | (go_at_call 73; refine Calls.quiet_of (hmq _)))
        have hw3' := hw3.draws nq
        generalize w3.drewN nq = w4 at *
        have hsp4 := hsp w4
        clear hsp hw3 d0 d1
        go_wp2_with fail
        refine hsp4.mono ?_
        rintro _ w5 ⟨rfl, hb5⟩
        have hw5 := hw3'.old hb5
        have hy5 := hy2 w5 hw5.rdr
        clear hy2
        go_wp2_with fail
        refine hy5.mono ?_
        rintro _ w6 ⟨rfl, hr6, -⟩
        have hw6 := hw5.trans hr6
        have hn := need_not (k : Int) w6
        clear hy5
        go_wp2_with fail
        refine hn.mono ?_
        rintro _ _ ⟨rfl, rfl⟩
        refine ⟨rfl, ?_⟩
        rw [HR.out]
        exact ⟨k, by omega, rfl, rfl, hw6.below⟩
end Go.Proofs.Ytffhbellpcneeaa
