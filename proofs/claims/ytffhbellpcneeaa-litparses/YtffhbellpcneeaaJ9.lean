/- What lit's made and readWord do (contracts; nothing is claimed here). · What lit's readWord does (contracts; nothing is claimed here). -/
import Derived.Test.YtffhbellpcneeaaLTxt
import Derived.Test.YtffhbellpcneeaaJ8
import Derived.Test.YtffhbellpcneeaaLUnd
namespace Go.Proofs.Ytffhbellpcneeaa
open Go.RowKit Go.Vf

/-- A part without items. -/
structure Leaf (p : Prt) : Prop where
  items : p.items = []
  kind : p.kind ≠ 7
  may : may p = true
  fits : Fits p
theorem Leaf.deeper {p : Prt} (h : Leaf p) : deeper 16 p = false := by
  rw [deeper_dep]
  cases p with | mk k y b m r l =>
  have : dep (.mk k y b m r l) = 0 := by rw [dep, if_neg (by simpa [Prt.kind] using h.kind)]
  rw [this]; rfl
theorem made_leaf (p : Prt) (h : Leaf p) (i : Int) (w : World) : Calls Try.prog 70 #[.agg #[.int .u8 p.kind, .bool p.yes, .bool p.neg, .string p.mag, .string p.raw, .slice none 0 0], .int .i64 i] w fun e w' => ∃ v, e = .returned v ∧ VIn w' w.heap.size w'.heap.size v p ∧ Below w.heap.size w w' := by
  have hb1 := (Below.refl w.heap.size w).alloc (Nat.le_refl _) (.cells #[.int .u8 p.kind, .bool p.yes, .bool p.neg, .string p.mag, .string p.raw, .slice none 0 0] 27)
  have hb0 := Blk.new w 27 #[.int .u8 p.kind, .bool p.yes, .bool p.neg, .string p.mag, .string p.raw, .slice none 0 0]
  have hs1 := alloc_size w (.cells #[.int .u8 p.kind, .bool p.yes, .bool p.neg, .string p.mag, .string p.raw, .slice none 0 0] 27)
  obtain ⟨c0, c1, c2, c3, c4, c5⟩ := hb0.c6
  have hmk := fun w' => make_any p h.fits none 0 0 0 w' (Nat.zero_le _) (.nil h.items)
  have hd := h.deeper
  have hm := h.may
  have hi : p.items.length = 0 := by rw [h.items]; rfl
  unfold pV at hmk
  rw [hi] at hmk
  clear h hi hb0
  generalize p.kind = k0 at *
  generalize p.yes = k1 at *
  generalize p.neg = k2 at *
  generalize p.mag = k3 at *
  generalize p.raw = k4 at *
  go_enter Try.func70, Try.ntmps70
  go_upto_region 1 with fail
  generalize w.alloc (.cells #[.int .u8 k0, .bool k1, .bool k2, .string k3, .string k4, .slice none 0 0] 27) = w1 at *
  have h2 := hmk w1
  rw [hd, hm] at h2
  clear hmk hd hm
  go_wp2_with fail
  refine h2.mono ?_
  rintro e w2 ⟨hb2, h3⟩
  rcases h3 with ⟨h3, _⟩ | ⟨_, h3, _⟩ | ⟨_, _, v, rfl, hv⟩
  · cases h3
  · cases h3
  have hn := need_yes i w2
  clear c0 c1 c2 c3 c4 c5
  have HV : Hid (VIn w2 w1.heap.size w2.heap.size v p) := hv
  clear hv
  go_wp2_with fail
  refine hn.mono ?_
  rintro _ _ ⟨rfl, rfl⟩
  go_wp2_with fail
  go_ret
  exact ⟨v, rfl, HV.out.mono (Nat.le_refl _) (by omega), hb1.trans (hb2.mono (by omega))⟩
end Go.Proofs.Ytffhbellpcneeaa

namespace Go.Proofs.Ytffhbellpcneeaa
open Go.RowKit Go.Vf

/-- How a reader ends: with the value and behind it, or giving up at a place. -/
def RdE (B : Nat) (s : ByteArray) (g : Got) (w : World) (e : Ending) (w' : World) : Prop := match g with
  | .ok (p, rest) => ∃ v k', k' ≤ s.size ∧ rest = s.data.toList.drop k' ∧ e = .returned v ∧ VIn w' w.heap.size w'.heap.size v p ∧ Rk B s k' w w'
  | .error r => ∃ k', k' ≤ s.size ∧ r = s.size - k' ∧ e = lostL 100 (k' : Int) ∧ Below B w w'
theorem leafFits {k : Int} {y b : Bool} {m r : ByteArray} (hk : 0 ≤ k) (hm : m.size ≤ 65536) (hr : r.size ≤ 65536) : Fits (.mk k y b m r []) :=
  .mk hk (by simp only [Prt.raw]; omega) (by simp only [Prt.mag]; omega) (by simp [Prt.items]) (fun x hx => by simp [Prt.items] at hx)
theorem boolLeaf (y : Bool) : Leaf (boolP y) := ⟨rfl, by simp [boolP, Prt.kind], by cases y <;> rfl, leafFits (by decide) (by decide) (by decide)⟩
theorem Rdr.two {w : World} {B : Nat} {s : ByteArray} {k : Nat} (h : Rdr w B s k) : w.cell? ⟨B, 0, none⟩ = some (.string s) ∧ w.cell? ⟨B, 1, none⟩ = some (.int .i64 (k : Int)) ∧ w.frozen? ⟨B, 1, none⟩ = false := ⟨h.cell 0, h.cell 1, h.frozen 1⟩
theorem pre_len {a l : List UInt8} (h : a.isPrefixOf l = true) : a.length ≤ l.length := (List.isPrefixOf_iff_prefix.1 h).length_le
theorem drop_more (s : ByteArray) (k n : Nat) : (s.data.toList.drop k).drop n = s.data.toList.drop (k + n) := by rw [List.drop_drop]

set_option maxHeartbeats 1000000 in
theorem readWord_any (B k : Nat) (s : ByteArray) (hs : s.size ≤ 65536) (hk : k ≤ s.size) (w : World) (h : Rdr w B s k) : Calls Try.prog 53 #[.pointer (some ⟨B, 0, none⟩)] w (RdE B s (wordR (s.data.toList.drop k)) w) := by
  obtain ⟨c0, c1, f1⟩ := h.two
  have HR : Hid (Rdr w B s k) := h
  have hB := h.lt
  unfold wordR
  have hl := drop_len s k
  by_cases h1 : [110, 117, 108, 108].isPrefixOf (s.data.toList.drop k) = true
  · rw [if_pos h1, drop_more]
    have hy := skip_yes B k s ⟨#[110, 117, 108, 108]⟩ hs hk (by decide) w h h1
    have hle := pre_len h1
    rw [hl] at hle
    clear h h1 hl
    go_enter Try.func53, Try.ntmps53
    go_wp2_with fail
    refine hy.mono ?_
    rintro _ w1 ⟨rfl, hr, hz⟩
    go_wp2_with fail
    go_ret
    exact ⟨_, k + 4, by simp at hle; omega, rfl, rfl, .null, hr⟩
  rw [if_neg h1]
  have h1' : [110, 117, 108, 108].isPrefixOf (s.data.toList.drop k) = false := eq_false_of_ne_true h1
  have hn := skip_no B k s ⟨#[110, 117, 108, 108]⟩ hs hk (by decide) w h h1'
  by_cases h2 : [121, 101, 115].isPrefixOf (s.data.toList.drop k) = true
  · rw [if_pos h2, drop_more]
    have hy := fun w' (h' : Rdr w' B s k) => skip_yes B k s ⟨#[121, 101, 115]⟩ hs hk (by decide) w' h' h2
    have hle := pre_len h2
    rw [hl] at hle
    clear h h1 h1' h2 hl
    go_enter Try.func53, Try.ntmps53
    go_wp2_with fail
    refine hn.mono ?_
    rintro _ w1 ⟨rfl, hr, hz⟩
    have hy1 := hy w1 hr.rdr
    clear hy hn
    go_wp2_with fail
    refine hy1.mono ?_
    rintro _ w2 ⟨rfl, hr2, hz2⟩
    have hm := made_leaf (boolP true) (boolLeaf true) (k : Int) w2
    simp only [boolP, Prt.kind, Prt.yes, Prt.neg, Prt.mag, Prt.raw] at hm
    go_wp2_with fail
    refine hm.mono ?_
    rintro _ w3 ⟨v, rfl, hv, hb3⟩
    go_wp2_with fail
    go_ret
    exact ⟨v, k + 3, by simp at hle; omega, rfl, rfl, hv.mono (Nat.le_refl _) (by omega), (hr.trans hr2).old hb3⟩
  rw [if_neg h2]
  have h2' : [121, 101, 115].isPrefixOf (s.data.toList.drop k) = false := eq_false_of_ne_true h2
  have hn2 := fun w' (h' : Rdr w' B s k) => skip_no B k s ⟨#[121, 101, 115]⟩ hs hk (by decide) w' h' h2'
  by_cases h3 : [110, 111].isPrefixOf (s.data.toList.drop k) = true
  · rw [if_pos h3, drop_more]
    have hy := fun w' (h' : Rdr w' B s k) => skip_yes B k s ⟨#[110, 111]⟩ hs hk (by decide) w' h' h3
    have hle := pre_len h3
    rw [hl] at hle
    clear h h1 h1' h2 h2' h3 hl
    go_enter Try.func53, Try.ntmps53
    go_wp2_with fail
    refine hn.mono ?_
    rintro _ w1 ⟨rfl, hr, hz⟩
    have hn3 := hn2 w1 hr.rdr
    clear hn2 hn
    go_wp2_with fail
    refine hn3.mono ?_
    rintro _ w2 ⟨rfl, hr2, hz2⟩
    have hy1 := hy w2 hr2.rdr
    clear hy hn3
    go_wp2_with fail
    refine hy1.mono ?_
    rintro _ w3 ⟨rfl, hr3, hz3⟩
    have hnd := need_yes (k : Int) w3
    go_wp2_with fail
    refine hnd.mono ?_
    rintro _ _ ⟨rfl, rfl⟩
    have hm := made_leaf (boolP false) (boolLeaf false) (k : Int) w3
    simp only [boolP, Prt.kind, Prt.yes, Prt.neg, Prt.mag, Prt.raw] at hm
    go_wp2_with fail
    refine hm.mono ?_
    rintro _ w4 ⟨v, rfl, hv, hb4⟩
    go_wp2_with fail
    go_ret
    exact ⟨v, k + 2, by simp at hle; omega, rfl, rfl, hv.mono (Nat.le_refl _) (by omega), ((hr.trans hr2).trans hr3).old hb4⟩
  · rw [if_neg h3]
    have h3' : [110, 111].isPrefixOf (s.data.toList.drop k) = false := eq_false_of_ne_true h3
    have hn3 := fun w' (h' : Rdr w' B s k) => skip_no B k s ⟨#[110, 111]⟩ hs hk (by decide) w' h' h3'
    clear h h1 h1' h2 h2' h3 h3'
    go_enter Try.func53, Try.ntmps53
    go_wp2_with fail
    refine hn.mono ?_
    rintro _ w1 ⟨rfl, hr, hz⟩
    have hn4 := hn2 w1 hr.rdr
    clear hn2 hn
    go_wp2_with fail
    refine hn4.mono ?_
    rintro _ w2 ⟨rfl, hr2, hz2⟩
    have hn5 := hn3 w2 hr2.rdr
    clear hn3 hn4
    go_wp2_with fail
    refine hn5.mono ?_
    rintro _ w3 ⟨rfl, hr3, hz3⟩
    have hnd := need_not (k : Int) w3
    go_wp2_with fail
    refine hnd.mono ?_
    rintro _ _ ⟨rfl, rfl⟩
    exact ⟨rfl, k, hk, rfl, rfl, ((hr.trans hr2).trans hr3).below⟩
end Go.Proofs.Ytffhbellpcneeaa
