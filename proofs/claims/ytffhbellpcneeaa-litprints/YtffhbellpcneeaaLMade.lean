/- What lit's made and readWord do (contracts; nothing is claimed here). -/
import Derived.Test.YtffhbellpcneeaaLTxt
import Derived.Test.YtffhbellpcneeaaJ7
import Derived.Test.YtffhbellpcneeaaLUnd
namespace Go.Proofs.Ytffhbellpcneeaa
open Go.RowKit Go.Vf

/-- A part without items. -/
structure Leaf (p : Prt) : Prop where
  items : p.items = []
  kind : p.kind ≠ 7
  may : may p = true
  fits : Fits p
theorem Leaf.deeper {p : Prt} (h : Leaf p) : deeper 16 p = false := by
  rw [deeper_dep]
  cases p with | mk k y b m r l =>
  have : dep (.mk k y b m r l) = 0 := by rw [dep, if_neg (by simpa [Prt.kind] using h.kind)]
  rw [this]; rfl
theorem made_leaf (p : Prt) (h : Leaf p) (i : Int) (w : World) : Calls Try.prog 70 #[.agg #[.int .u8 p.kind, .bool p.yes, .bool p.neg, .string p.mag, .string p.raw, .slice none 0 0], .int .i64 i] w fun e w' => ∃ v, e = .returned v ∧ VIn w' w.heap.size w'.heap.size v p ∧ Below w.heap.size w w' := by
  have hb1 := (Below.refl w.heap.size w).alloc (Nat.le_refl _) (.cells #[.int .u8 p.kind, .bool p.yes, .bool p.neg, .string p.mag, .string p.raw, .slice none 0 0] 27)
  have hb0 := Blk.new w 27 #[.int .u8 p.kind, .bool p.yes, .bool p.neg, .string p.mag, .string p.raw, .slice none 0 0]
  have hs1 := alloc_size w (.cells #[.int .u8 p.kind, .bool p.yes, .bool p.neg, .string p.mag, .string p.raw, .slice none 0 0] 27)
  obtain ⟨c0, c1, c2, c3, c4, c5⟩ := hb0.c6
  have hmk := fun w' => make_any p h.fits none 0 0 0 w' (Nat.zero_le _) (.nil h.items)
  have hd := h.deeper
  have hm := h.may
  have hi : p.items.length = 0 := by rw [h.items]; rfl
  unfold pV at hmk
  rw [hi] at hmk
  clear h hi hb0
  generalize p.kind = k0 at *
  generalize p.yes = k1 at *
  generalize p.neg = k2 at *
  generalize p.mag = k3 at *
  generalize p.raw = k4 at *
  go_enter Try.func70, Try.ntmps70
  go_upto_region 1 with fail
  generalize w.alloc (.cells #[.int .u8 k0, .bool k1, .bool k2, .string k3, .string k4, .slice none 0 0] 27) = w1 at *
  have h2 := hmk w1
  rw [hd, hm] at h2
  clear hmk hd hm
  go_wp2_with fail
  refine h2.mono ?_
  rintro e w2 ⟨hb2, h3⟩
  rcases h3 with ⟨h3, _⟩ | ⟨_, h3, _⟩ | ⟨_, _, v, rfl, hv⟩
  · cases h3
  · cases h3
  have hn := need_yes i w2
  clear c0 c1 c2 c3 c4 c5
  have HV : Hid (VIn w2 w1.heap.size w2.heap.size v p) := hv
  clear hv
  go_wp2_with fail
  refine hn.mono ?_
  rintro _ _ ⟨rfl, rfl⟩
  go_wp2_with fail
  go_ret
  exact ⟨v, rfl, HV.out.mono (Nat.le_refl _) (by omega), hb1.trans (hb2.mono (by omega))⟩
end Go.Proofs.Ytffhbellpcneeaa
