/- What lit's readWord does (contracts; nothing is claimed here). -/
import Derived.Test.YtffhbellpcneeaaLMade
namespace Go.Proofs.Ytffhbellpcneeaa
open Go.RowKit Go.Vf

/-- How a reader ends: with the value and behind it, or giving up at a place. -/
def RdE (B : Nat) (s : ByteArray) (g : Got) (w : World) (e : Ending) (w' : World) : Prop := match g with
  | .ok (p, rest) => ∃ v k', k' ≤ s.size ∧ rest = s.data.toList.drop k' ∧ e = .returned v ∧ VIn w' w.heap.size w'.heap.size v p ∧ Rk B s k' w w'
  | .error r => ∃ k', k' ≤ s.size ∧ r = s.size - k' ∧ e = lostL 100 (k' : Int) ∧ Below B w w'
theorem leafFits {k : Int} {y b : Bool} {m r : ByteArray} (hk : 0 ≤ k) (hm : m.size ≤ 65536) (hr : r.size ≤ 65536) : Fits (.mk k y b m r []) :=
  .mk hk (by simp only [Prt.raw]; omega) (by simp only [Prt.mag]; omega) (by simp [Prt.items]) (fun x hx => by simp [Prt.items] at hx)
theorem boolLeaf (y : Bool) : Leaf (boolP y) := ⟨rfl, by simp [boolP, Prt.kind], by cases y <;> rfl, leafFits (by decide) (by decide) (by decide)⟩
theorem Rdr.two {w : World} {B : Nat} {s : ByteArray} {k : Nat} (h : Rdr w B s k) : w.cell? ⟨B, 0, none⟩ = some (.string s) ∧ w.cell? ⟨B, 1, none⟩ = some (.int .i64 (k : Int)) ∧ w.frozen? ⟨B, 1, none⟩ = false := ⟨h.cell 0, h.cell 1, h.frozen 1⟩
theorem pre_len {a l : List UInt8} (h : a.isPrefixOf l = true) : a.length ≤ l.length := (List.isPrefixOf_iff_prefix.1 h).length_le
theorem drop_more (s : ByteArray) (k n : Nat) : (s.data.toList.drop k).drop n = s.data.toList.drop (k + n) := by rw [List.drop_drop]

set_option maxHeartbeats 1000000 in
theorem readWord_any (B k : Nat) (s : ByteArray) (hs : s.size ≤ 65536) (hk : k ≤ s.size) (w : World) (h : Rdr w B s k) : Calls Try.prog 53 #[.pointer (some ⟨B, 0, none⟩)] w (RdE B s (wordR (s.data.toList.drop k)) w) := by
  obtain ⟨c0, c1, f1⟩ := h.two
  have HR : Hid (Rdr w B s k) := h
  have hB := h.lt
  unfold wordR
  have hl := drop_len s k
  by_cases h1 : [110, 117, 108, 108].isPrefixOf (s.data.toList.drop k) = true
  · rw [if_pos h1, drop_more]
    have hy := skip_yes B k s ⟨#[110, 117, 108, 108]⟩ hs hk (by decide) w h h1
    have hle := pre_len h1
    rw [hl] at hle
    clear h h1 hl
    go_enter Try.func53, Try.ntmps53
    go_wp2_with fail
    refine hy.mono ?_
    rintro _ w1 ⟨rfl, hr, hz⟩
    go_wp2_with fail
    go_ret
    exact ⟨_, k + 4, by simp at hle; omega, rfl, rfl, .null, hr⟩
  rw [if_neg h1]
  have h1' : [110, 117, 108, 108].isPrefixOf (s.data.toList.drop k) = false := eq_false_of_ne_true h1
  have hn := skip_no B k s ⟨#[110, 117, 108, 108]⟩ hs hk (by decide) w h h1'
  by_cases h2 : [121, 101, 115].isPrefixOf (s.data.toList.drop k) = true
  · rw [if_pos h2, drop_more]
    have hy := fun w' (h' : Rdr w' B s k) => skip_yes B k s ⟨#[121, 101, 115]⟩ hs hk (by decide) w' h' h2
    have hle := pre_len h2
    rw [hl] at hle
    clear h h1 h1' h2 hl
    go_enter Try.func53, Try.ntmps53
    go_wp2_with fail
    refine hn.mono ?_
    rintro _ w1 ⟨rfl, hr, hz⟩
    have hy1 := hy w1 hr.rdr
    clear hy hn
    go_wp2_with fail
    refine hy1.mono ?_
    rintro _ w2 ⟨rfl, hr2, hz2⟩
    have hm := made_leaf (boolP true) (boolLeaf true) (k : Int) w2
    simp only [boolP, Prt.kind, Prt.yes, Prt.neg, Prt.mag, Prt.raw] at hm
    go_wp2_with fail
    refine hm.mono ?_
    rintro _ w3 ⟨v, rfl, hv, hb3⟩
    go_wp2_with fail
    go_ret
    exact ⟨v, k + 3, by simp at hle; omega, rfl, rfl, hv.mono (Nat.le_refl _) (by omega), (hr.trans hr2).old hb3⟩
  rw [if_neg h2]
  have h2' : [121, 101, 115].isPrefixOf (s.data.toList.drop k) = false := eq_false_of_ne_true h2
  have hn2 := fun w' (h' : Rdr w' B s k) => skip_no B k s ⟨#[121, 101, 115]⟩ hs hk (by decide) w' h' h2'
  by_cases h3 : [110, 111].isPrefixOf (s.data.toList.drop k) = true
  · rw [if_pos h3, drop_more]
    have hy := fun w' (h' : Rdr w' B s k) => skip_yes B k s ⟨#[110, 111]⟩ hs hk (by decide) w' h' h3
    have hle := pre_len h3
    rw [hl] at hle
    clear h h1 h1' h2 h2' h3 hl
    go_enter Try.func53, Try.ntmps53
    go_wp2_with fail
    refine hn.mono ?_
    rintro _ w1 ⟨rfl, hr, hz⟩
    have hn3 := hn2 w1 hr.rdr
    clear hn2 hn
    go_wp2_with fail
    refine hn3.mono ?_
    rintro _ w2 ⟨rfl, hr2, hz2⟩
    have hy1 := hy w2 hr2.rdr
    clear hy hn3
    go_wp2_with fail
    refine hy1.mono ?_
    rintro _ w3 ⟨rfl, hr3, hz3⟩
    have hnd := need_yes (k : Int) w3
    go_wp2_with fail
    refine hnd.mono ?_
    rintro _ _ ⟨rfl, rfl⟩
    have hm := made_leaf (boolP false) (boolLeaf false) (k : Int) w3
    simp only [boolP, Prt.kind, Prt.yes, Prt.neg, Prt.mag, Prt.raw] at hm
    go_wp2_with fail
    refine hm.mono ?_
    rintro _ w4 ⟨v, rfl, hv, hb4⟩
    go_wp2_with fail
    go_ret
    exact ⟨v, k + 2, by simp at hle; omega, rfl, rfl, hv.mono (Nat.le_refl _) (by omega), ((hr.trans hr2).trans hr3).old hb4⟩
  · rw [if_neg h3]
    have h3' : [110, 111].isPrefixOf (s.data.toList.drop k) = false := eq_false_of_ne_true h3
    have hn3 := fun w' (h' : Rdr w' B s k) => skip_no B k s ⟨#[110, 111]⟩ hs hk (by decide) w' h' h3'
    clear h h1 h1' h2 h2' h3 h3'
    go_enter Try.func53, Try.ntmps53
    go_wp2_with fail
    refine hn.mono ?_
    rintro _ w1 ⟨rfl, hr, hz⟩
    have hn4 := hn2 w1 hr.rdr
    clear hn2 hn
    go_wp2_with fail
    refine hn4.mono ?_
    rintro _ w2 ⟨rfl, hr2, hz2⟩
    have hn5 := hn3 w2 hr2.rdr
    clear hn3 hn4
    go_wp2_with fail
    refine hn5.mono ?_
    rintro _ w3 ⟨rfl, hr3, hz3⟩
    have hnd := need_not (k : Int) w3
    go_wp2_with fail
    refine hnd.mono ?_
    rintro _ _ ⟨rfl, rfl⟩
    exact ⟨rfl, k, hk, rfl, rfl, ((hr.trans hr2).trans hr3).below⟩
end Go.Proofs.Ytffhbellpcneeaa
