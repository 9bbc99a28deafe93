/- What the statement OrderNames does (contracts; nothing is claimed here). -/
import Derived.Test.YtkjoomdglealmaaGreatDoorOFld
import Derived.Test.YtkjoomdglealmaaGreatDoorJ32
import Derived.Test.YtkjoomdglealmaaGreatDoorJ21
namespace Go.Proofs.YtkjoomdglealmaaGreatDoor
open Go.RowKit Go.Vf

def oO (d : Bool) : Go.Vf.Own := ⟨⟨#[97]⟩, 2, d, 1, false, false, ⟨#[]⟩, false, ⟨#[]⟩, 0, 0, false, false⟩
def pN (x : UInt8) : Prt := .mk 2 false false ⟨#[x]⟩ ⟨#[]⟩ []
theorem oO_chk (d : Bool) : (chkS bndQ 65536 [.mk (oO d) []]).1 = 0 := by
  have h1 : seeF bndQ 1 1 [] (.mk (oO d) []) = 0 := by cases d <;> decide
  have t1 : tourL bndQ [] [] 0 [.mk (oO d) []] = .ok 1 := by
    rw [tourL_on bndQ [] [] 0 (.mk (oO d) []) [] h1 (tourL_nil _ _ _ _), tourL_nil]
  exact tour_chkS t1 (by decide) (by decide) (by simp)
theorem oO_fits (d : Bool) : FitsF 17179869184 (.mk (oO d) []) :=
  .mk ⟨by cases d <;> decide, by cases d <;> decide, by cases d <;> decide, by cases d <;> decide, by cases d <;> decide, by cases d <;> decide, by cases d <;> decide, by cases d <;> decide, by cases d <;> decide, by cases d <;> decide, by cases d <;> decide⟩ (by simp [Fld.fields]) (fun y hy => by cases hy)
theorem oO_num (d : Bool) (x : UInt8) : unf utfAt (.mk (oO d) []) (pN x) = none := by
  simp [unf, oO, pN, oobR]
theorem oO_null (d : Bool) : unf utfAt (.mk (oO d) []) (.mk 0 false false ⟨#[]⟩ ⟨#[]⟩ []) = none := by
  simp [unf, oO]
theorem pN_may (x : UInt8) (hx : x = 5 ∨ x = 7) : may (pN x) = true ∧ deeper 16 (pN x) = false ∧ dep (pN x) ≤ 100 := by
  rcases hx with rfl | rfl <;> decide
theorem pN_fits (x : UInt8) : Fits (pN x) := .mk (by show (0 : Int) ≤ 2; decide) (by show 0 ≤ _; decide) (by show 1 ≤ _; decide) (by show 0 ≤ _; decide) (fun y hy => by cases hy)
theorem oMake (x : UInt8) (hx : x = 5 ∨ x = 7) (w : World) : Calls Tryz.prog 13 #[.agg #[.int .u8 2, .bool false, .bool false, .string ⟨#[x]⟩, .string ⟨#[]⟩, .slice none 0 0]] w fun e w' => e = .returned (.tuple #[.iface 130 (.agg #[.bool false, .string ⟨#[x]⟩]), .int .i64 0]) ∧ Below w.heap.size w w' := by
  obtain ⟨h1, h2, _⟩ := pN_may x hx
  refine (make_any (pN x) (pN_fits x) none 0 0 0 w (Nat.zero_le _) (.nil rfl)).mono ?_
  rintro e w' ⟨hb, ⟨h4, _⟩ | ⟨_, h4, _⟩ | ⟨_, _, v, rfl, hv⟩⟩
  · rw [h2] at h4; cases h4
  · rw [h1] at h4; cases h4
  · unfold pN at hv
    refine ⟨?_, hb⟩
    cases hv with
    | num b m => rfl
theorem oFit (d : Bool) (v : Value) (p : Prt) (hm : may p = true) (hd : dep p ≤ 100) (hu : unf utfAt (.mk (oO d) []) p = none) (w : World) (hv : ∀ W, VIn W 0 0 v p) (hT : Tabs w) (hE : ErrT w) (hz0 : 0 < w.heap.size) : ∀ W, Below w.heap.size w W → Calls Tryz.prog 20 #[.agg #[.string ⟨#[97]⟩, .int .u8 2, .bool d, .int .u8 1, .bool false, .bool false, .string ⟨#[]⟩, .bool false, .string ⟨#[]⟩, .int .i64 0, .int .i64 0, .bool false, .bool false, .slice none 0 0], v] W fun e w' => e = .returned .nilIface ∧ Below W.heap.size W w' := fun W hW => by
  have h := fitField_any (.mk (oO d) []) (oO_fits d) none 0 0 0 (Nat.le_refl _) v p hm hd 0 0 W (Nat.zero_le _) (Nat.zero_le _) .nil (hv W) (hT.own hW) (hE.old hz0 hW)
  rw [oO_chk, hu] at h
  refine h.mono ?_
  rintro e w' ⟨hb, he⟩
  exact ⟨he, hb⟩
theorem oField (tb : Nat) (d : Bool) (w : World) (hT : Tabs w) (hE : ErrT w) (hz0 : 0 < w.heap.size) : Calls Tryz.prog 37 #[.pointer (some ⟨tb, 0, none⟩), .agg #[.string ⟨#[97]⟩, .int .u8 2, .bool d, .int .u8 1, .bool false, .bool false, .string ⟨#[]⟩, .bool false, .string ⟨#[]⟩, .int .i64 0, .int .i64 0, .bool false, .bool false, .slice none 0 0], .iface 130 (.agg #[.bool false, .string ⟨#[5]⟩]), .iface 130 (.agg #[.bool false, .string ⟨#[7]⟩])] w fun e w' => e = .returned (.tuple #[.int .i64 (if d then 1 else -1), .nilIface]) ∧ Below w.heap.size w w' := by
  obtain ⟨a1, _, a2⟩ := pN_may 5 (.inl rfl)
  obtain ⟨b1, _, b2⟩ := pN_may 7 (.inr rfl)
  refine orderField_of tb (oO d) none 0 0 _ _ _ w (oFit d _ (pN 5) a1 a2 (oO_num d 5) w (fun _ => .num _ _) hT hE hz0) (oFit d _ (pN 7) b1 b2 (oO_num d 7) w (fun _ => .num _ _) hT hE hz0) (fun W => ?_)
  have h := stand_num (.pointer (some ⟨tb, 0, none⟩)) (oO d) none 0 0 false ⟨#[5]⟩ false ⟨#[7]⟩ (-1) (by decide) (by decide) W (fun W => by
    have h := kindStands_num (.pointer (some ⟨tb, 0, none⟩)) (oO d) none 0 0 false ⟨#[5]⟩ false ⟨#[7]⟩ (by decide) (by decide) (by decide) (by decide) W
    rw [show cmpN false (⟨#[5]⟩ : ByteArray).data.toList false (⟨#[7]⟩ : ByteArray).data.toList = -1 by decide] at h
    exact h)
  refine h.mono ?_
  rintro e w' ⟨rfl, hb⟩
  refine ⟨?_, hb⟩
  cases d <;> rfl
theorem oFieldN (tb : Nat) (d : Bool) (w : World) (hT : Tabs w) (hE : ErrT w) (hz0 : 0 < w.heap.size) : Calls Tryz.prog 37 #[.pointer (some ⟨tb, 0, none⟩), .agg #[.string ⟨#[97]⟩, .int .u8 2, .bool d, .int .u8 1, .bool false, .bool false, .string ⟨#[]⟩, .bool false, .string ⟨#[]⟩, .int .i64 0, .int .i64 0, .bool false, .bool false, .slice none 0 0], .nilIface, .iface 130 (.agg #[.bool false, .string ⟨#[7]⟩])] w fun e w' => e = .returned (.tuple #[.int .i64 (-1), .nilIface]) ∧ Below w.heap.size w w' := by
  obtain ⟨b1, _, b2⟩ := pN_may 7 (.inr rfl)
  refine orderField_of tb (oO d) none 0 0 _ _ _ w (oFit d _ (.mk 0 false false ⟨#[]⟩ ⟨#[]⟩ []) (by rw [may]; rfl) (by rw [dep]; decide) (oO_null d) w (fun _ => .null) hT hE hz0) (oFit d _ (pN 7) b1 b2 (oO_num d 7) w (fun _ => .num _ _) hT hE hz0) (fun W => ?_)
  exact stand_null (.pointer (some ⟨tb, 0, none⟩)) (oO d) rfl none 0 0 false ⟨#[7]⟩ W
set_option maxHeartbeats 4000000 in
set_option maxRecDepth 20000 in
theorem awake13_any (w : World) (hT : Tabs w) (hE : ErrT w) : Calls Tryz.prog 29 #[] w fun e w' => e = .returned (.bool true) ∧ Below w.heap.size w w' := by
  have hz0 : 0 < w.heap.size := by have := hT.size; omega
  have h1 := wload0 w
  go_enter Tryz.func29, Tryz.ntmps29
  go_wp2_with fail
  refine h1.mono ?_
  rintro _ w2 ⟨tb, rfl, hb2⟩
  have h2 := oMake 5 (.inl rfl) w2
  clear h1
  go_wp2_with fail
  refine h2.mono ?_
  rintro _ w3 ⟨rfl, hb3⟩
  have hb03 := hb2.trans (hb3.mono hb2.size)
  have h3 := oMake 7 (.inr rfl) w3
  clear h2 hb2 hb3
  go_wp2_with fail
  refine h3.mono ?_
  rintro _ w4 ⟨rfl, hb4⟩
  have hb04 := hb03.trans (hb4.mono hb03.size)
  have hb5 := (Below.refl w4.heap.size w4).alloc (Nat.le_refl _) (.cells #[.string ⟨#[97]⟩, .int .u8 2, .bool false, .int .u8 1, .bool false, .bool false, .string ⟨#[]⟩, .bool false, .string ⟨#[]⟩, .int .i64 0, .int .i64 0, .bool false, .bool false, .slice none 0 0] 57)
  have hX5 := Blk.new w4 57 #[.string ⟨#[97]⟩, .int .u8 2, .bool false, .int .u8 1, .bool false, .bool false, .string ⟨#[]⟩, .bool false, .string ⟨#[]⟩, .int .i64 0, .int .i64 0, .bool false, .bool false, .slice none 0 0]
  have hs5 := alloc_size w4 (.cells #[.string ⟨#[97]⟩, .int .u8 2, .bool false, .int .u8 1, .bool false, .bool false, .string ⟨#[]⟩, .bool false, .string ⟨#[]⟩, .int .i64 0, .int .i64 0, .bool false, .bool false, .slice none 0 0] 57)
  have hb56 := (Below.refl _ (w4.alloc (.cells #[.string ⟨#[97]⟩, .int .u8 2, .bool false, .int .u8 1, .bool false, .bool false, .string ⟨#[]⟩, .bool false, .string ⟨#[]⟩, .int .i64 0, .int .i64 0, .bool false, .bool false, .slice none 0 0] 57))).alloc (Nat.le_refl _) (.cells #[.string ⟨#[97]⟩, .int .u8 2, .bool true, .int .u8 1, .bool false, .bool false, .string ⟨#[]⟩, .bool false, .string ⟨#[]⟩, .int .i64 0, .int .i64 0, .bool false, .bool false, .slice none 0 0] 57)
  have hY6 := Blk.new (w4.alloc (.cells #[.string ⟨#[97]⟩, .int .u8 2, .bool false, .int .u8 1, .bool false, .bool false, .string ⟨#[]⟩, .bool false, .string ⟨#[]⟩, .int .i64 0, .int .i64 0, .bool false, .bool false, .slice none 0 0] 57)) 57 #[.string ⟨#[97]⟩, .int .u8 2, .bool true, .int .u8 1, .bool false, .bool false, .string ⟨#[]⟩, .bool false, .string ⟨#[]⟩, .int .i64 0, .int .i64 0, .bool false, .bool false, .slice none 0 0]
  rw [hs5] at hY6
  have hX6 := hX5.old hb56
  have hb46 := hb5.trans (hb56.mono hb5.size)
  have hb06 := hb04.trans (hb46.mono hb04.size)
  clear h3 hb03 hb4 hb5 hX5 hs5 hb56
  go_upto_region 8 with fail
  generalize (w4.alloc (.cells #[.string ⟨#[97]⟩, .int .u8 2, .bool false, .int .u8 1, .bool false, .bool false, .string ⟨#[]⟩, .bool false, .string ⟨#[]⟩, .int .i64 0, .int .i64 0, .bool false, .bool false, .slice none 0 0] 57)).alloc (.cells #[.string ⟨#[97]⟩, .int .u8 2, .bool true, .int .u8 1, .bool false, .bool false, .string ⟨#[]⟩, .bool false, .string ⟨#[]⟩, .int .i64 0, .int .i64 0, .bool false, .bool false, .slice none 0 0] 57) = w6 at *
  have h6 := oField tb false w6 (hT.own hb06) (hE.old hz0 hb06) (by have := hb06.size; omega)
  simp only [Bool.false_eq_true, if_false] at h6
  obtain ⟨c0, c1, c2, c3, c4, c5, c6, c7, c8, c9, c10, c11, c12, c13⟩ := hX6.c14
  go_wp2_with fail
  refine h6.mono ?_
  rintro _ w7 ⟨rfl, hb7⟩
  have hb07 := hb06.trans (hb7.mono hb06.size)
  have hY7 := hY6.old hb7
  clear h6 c0 c1 c2 c3 c4 c5 c6 c7 c8 c9 c10 c11 c12 c13 hX6 hY6 hb04 hb46
  have h7 := oField tb true w7 (hT.own hb07) (hE.old hz0 hb07) (by have := hb07.size; omega)
  simp only [if_true] at h7
  obtain ⟨c0, c1, c2, c3, c4, c5, c6, c7, c8, c9, c10, c11, c12, c13⟩ := hY7.c14
  go_wp2_with fail
  refine h7.mono ?_
  rintro _ w8 ⟨rfl, hb8⟩
  have hb08 := hb07.trans (hb8.mono hb07.size)
  have hY8 := hY7.old hb8
  clear h7 c0 c1 c2 c3 c4 c5 c6 c7 c8 c9 c10 c11 c12 c13 hY7 hb06
  have h8 := oFieldN tb true w8 (hT.own hb08) (hE.old hz0 hb08) (by have := hb08.size; omega)
  obtain ⟨c0, c1, c2, c3, c4, c5, c6, c7, c8, c9, c10, c11, c12, c13⟩ := hY8.c14
  go_wp2_with fail
  refine h8.mono ?_
  rintro _ w9 ⟨rfl, hb9⟩
  have hb09 := hb08.trans (hb9.mono hb08.size)
  clear h8 c0 c1 c2 c3 c4 c5 c6 c7 c8 c9 c10 c11 c12 c13 hY8 hb07
  go_wp2_with fail
  go_ret
  exact ⟨rfl, hb09⟩
set_option maxHeartbeats 1000000 in
theorem orderNames_any (w : World) (hT : Tabs w) (hE : ErrT w) : Calls Tryz.prog 6 #[] w fun e w' => e = .returned (.bool true) ∧ Below w.heap.size w w' := by
  have h := awake13_any w hT hE
  go_enter Tryz.func6, Tryz.ntmps6
  go_wp2_with fail
  refine h.mono ?_
  rintro _ w2 ⟨rfl, hb⟩
  clear h
  go_wp2_with fail
  go_ret
  exact ⟨rfl, hb⟩
end Go.Proofs.YtkjoomdglealmaaGreatDoor
