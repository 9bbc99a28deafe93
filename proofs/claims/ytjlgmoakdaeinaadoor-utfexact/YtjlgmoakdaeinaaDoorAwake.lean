/- What dovetaillaw03.awake does (a contract; nothing is claimed here). -/
import Derived.Test.YtjlgmoakdaeinaaDoorSame
namespace Go.Proofs.YtjlgmoakdaeinaaDoor
open Go.RowKit Go.Vf

theorem below_two {a b c : World} (h : Below a.heap.size a b) (k : Below b.heap.size b c) : Below a.heap.size a c := h.trans (k.mono h.size)

/-- A list that was just written out. -/
theorem ints_new (w : World) (cs : Array Value) (t : TypeId) (zs : List Int) (cap : Nat) (h : cs = (zs.map (Value.int .i64)).toArray) (n : Nat) (hn : n = w.heap.size + 1) : Ints n (w.alloc (.cells cs t)) (.slice (some ⟨w.heap.size, 0, none⟩) zs.length cap) zs := by
  subst h hn
  refine .inr ⟨_, 0, cap, rfl, Nat.lt_succ_self _, fun j hj => ?_⟩
  rw [Nat.zero_add]
  have := (Blk.new w t (zs.map (Value.int .i64)).toArray).cell j
  rw [this]
  simp [hj]

theorem pts4 : ∀ p ∈ [0x61, 0xe9, 0x20ac, 0x1f600], IsPt p := by intro p hp; simp at hp; unfold IsPt; omega
theorem pts2 : ∀ p ∈ [0x61, 0x10ffff], IsPt p := by intro p hp; simp at hp; unfold IsPt; omega
theorem ptsa : ∀ p ∈ [0x61, 0xe9], IsPt p := by intro p hp; simp at hp; unfold IsPt; omega
theorem pts1 : ∀ p ∈ [0x61], IsPt p := by intro p hp; simp at hp; unfold IsPt; omega
theorem noChar_ff : noChar [255] := ⟨by simp, fun k h => by simp [rowB] at h⟩

set_option maxHeartbeats 2000000 in
set_option maxRecDepth 20000 in
theorem awake_any (w : World) (ht : Tabs w) : Calls Tryd.prog 8 #[] w fun e w' => e = .returned (.bool true) ∧ Below w.heap.size w w' := by
  go_enter Tryd.func8, Tryd.ntmps8
  go_wp2_with fail
  refine (points_any ⟨#[97, 195, 169, 226, 130, 172, 240, 159, 152, 128]⟩ (by decide) [0x61, 0xe9, 0x20ac, 0x1f600] [] (by decide) pts4 (.inl rfl) w ht).mono ?_
  rintro e w1 ⟨⟨_, v1, rfl, hv1⟩ | ⟨h, _⟩, hb1⟩
  rotate_left
  · exact absurd rfl h
  have ht1 := ht.own hb1
  obtain ⟨a1, c1, rfl⟩ := hv1.ints.val
  have i1 : Ints w1.heap.size w1 (.slice a1 4 c1) [0x61, 0xe9, 0x20ac, 0x1f600] := hv1.ints
  go_wp2_with fail
  -- Text of two points
  have hb2 := (Below.refl w1.heap.size w1).alloc (Nat.le_refl _) (.cells #[.int .i64 97, .int .i64 1114111] 3)
  have hn2 : Ints (w1.alloc (.cells #[.int .i64 97, .int .i64 1114111] 3)).heap.size (w1.alloc (.cells #[.int .i64 97, .int .i64 1114111] 3)) (.slice (some ⟨w1.heap.size, 0, none⟩) 2 2) [97, 1114111] := ints_new w1 _ 3 [97, 1114111] 2 rfl _ (by simp)
  generalize w1.alloc (.cells #[.int .i64 97, .int .i64 1114111] 3) = w2 at hb2 hn2 ⊢
  refine (text_any _ [97, 1114111] (by decide) [0x61, 0x10ffff] [] rfl pts2 (.inl rfl) w2 (ht1.own hb2) hn2).mono ?_
  rintro e w3 ⟨⟨_, rfl⟩ | ⟨h, _⟩, hb3⟩
  rotate_left
  · exact absurd rfl h
  rw [show bs (encs [0x61, 0x10ffff]) = ⟨#[97, 244, 143, 191, 191]⟩ by decide]
  have hg3 := below_two hb2 hb3
  have ht3 := ht1.own hg3
  have i3 := i1.below hg3 (Nat.le_refl _)
  clear hn2 hb3 hb2 hv1
  go_wp2_with fail
  -- Text of one point and one that is none
  have hb4 := (Below.refl w3.heap.size w3).alloc (Nat.le_refl _) (.cells #[.int .i64 97, .int .i64 55296] 3)
  have hn4 : Ints (w3.alloc (.cells #[.int .i64 97, .int .i64 55296] 3)).heap.size (w3.alloc (.cells #[.int .i64 97, .int .i64 55296] 3)) (.slice (some ⟨w3.heap.size, 0, none⟩) 2 2) [97, 55296] := ints_new w3 _ 3 [97, 55296] 2 rfl _ (by simp)
  generalize w3.alloc (.cells #[.int .i64 97, .int .i64 55296] 3) = w4 at hb4 hn4 ⊢
  refine (text_any _ [97, 55296] (by decide) [0x61] [55296] rfl pts1 (.inr ⟨_, _, rfl, by decide⟩) w4 (ht3.own hb4) hn4).mono ?_
  rintro e w5 ⟨⟨h, _⟩ | ⟨_, rfl⟩, hb5⟩
  · cases h
  have hg5 := below_two hb4 hb5
  have ht5 := ht3.own hg5
  have i5 := i3.below hg5 hg3.size
  clear hn4 hb4 hb5
  go_wp2_with fail
  -- SameInts
  have hb6 := (Below.refl w5.heap.size w5).alloc (Nat.le_refl _) (.cells #[.int .i64 97, .int .i64 233, .int .i64 8364, .int .i64 128512] 3)
  have hn6 : Ints (w5.alloc (.cells #[.int .i64 97, .int .i64 233, .int .i64 8364, .int .i64 128512] 3)).heap.size (w5.alloc (.cells #[.int .i64 97, .int .i64 233, .int .i64 8364, .int .i64 128512] 3)) (.slice (some ⟨w5.heap.size, 0, none⟩) 4 4) [97, 233, 8364, 128512] := ints_new w5 _ 3 [97, 233, 8364, 128512] 4 rfl _ (by simp)
  generalize w5.alloc (.cells #[.int .i64 97, .int .i64 233, .int .i64 8364, .int .i64 128512] 3) = w6 at hb6 hn6 ⊢
  refine (sameInts_any _ _ [0x61, 0xe9, 0x20ac, 0x1f600] [97, 233, 8364, 128512] _ _ w6 (i5.below hb6 (Nat.le_trans hg3.size hg5.size)) hn6 (by decide) (by decide)).mono ?_
  rintro e w7 ⟨rfl, hb7⟩
  rw [show decide (([0x61, 0xe9, 0x20ac, 0x1f600] : List Int) = [97, 233, 8364, 128512]) = true by decide]
  have hg7 := below_two hb6 hb7
  have ht7 := ht5.own hg7
  clear hn6 hb6 hb7 i1 i3 i5
  go_wp2_with fail
  refine (check_any ⟨#[97, 195, 169]⟩ (by decide) [0x61, 0xe9] [] (by decide) ptsa (.inl rfl) w7 ht7).mono ?_
  rintro e w8 ⟨rfl, hb8⟩
  rw [show chkOf [0x61, 0xe9] [] = -1 by decide]
  have ht8 := ht7.own hb8
  go_wp2_with fail
  refine (check_any ⟨#[97, 255]⟩ (by decide) [0x61] [255] (by decide) pts1 (.inr noChar_ff) w8 ht8).mono ?_
  rintro e w9 ⟨rfl, hb9⟩
  rw [show chkOf [0x61] [255] = 1 by decide]
  go_wp2_with fail
  go_ret
  exact ⟨rfl, below_two (below_two (below_two (below_two (below_two hb1 hg3) hg5) hg7) hb8) hb9⟩

end Go.Proofs.YtjlgmoakdaeinaaDoor
