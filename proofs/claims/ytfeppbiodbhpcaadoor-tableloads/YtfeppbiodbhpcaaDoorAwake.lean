/- What dovetaillaw06.awake does (a contract; nothing is claimed here). -/
import Derived.Test.YtfeppbiodbhpcaaDoorAsk6
namespace Go.Proofs.YtfeppbiodbhpcaaDoor
open Go.RowKit Go.Vf Go.Maps

def awText : ByteArray := ⟨#[48, 48, 54, 49, 59, 91, 46, 49, 67, 52, 55, 46, 48, 48, 50, 48, 46, 48, 48, 48, 50, 93, 10, 48, 48, 54, 51, 32, 48, 48, 54, 56, 59, 91, 46, 49, 67, 55, 65, 46, 48, 48, 50, 48, 46, 48, 48, 48, 50, 93, 10, 48, 48, 50, 48, 59, 91, 42, 48, 50, 48, 57, 46, 48, 48, 50, 48, 46, 48, 48, 48, 50, 93]⟩
def awText2 : ByteArray := ⟨#[10, 48, 48, 54, 49, 59, 91, 46, 70, 66, 52, 48, 46, 48, 48, 50, 48, 46, 48, 48, 48, 50, 93]⟩
def awTest (r : Except (Int × Int) (List Ent)) : Bool := match r with
  | .error _ => false
  | .ok E => (findT E [99, 104] == some [⟨false, 7290, 32, 2⟩]) && (findT E [99] == none) && (longT E 99 == 2) && (longT E 104 == 0)
def awTwo (r : Except (Int × Int) (List Ent)) : Bool := match r with
  | .error (why, line) => why == 62 && line == 2
  | .ok _ => false
set_option maxRecDepth 100000 in
theorem aw_one : awTest (loadT awText.data.toList) = true := by kernel_rfl
set_option maxRecDepth 100000 in
theorem aw_two : awTwo (loadT awText2.data.toList) = true := by kernel_rfl
theorem aw_ok : ∃ E, loadT awText.data.toList = .ok E ∧ findT E [99, 104] = some [⟨false, 7290, 32, 2⟩] ∧ findT E [99] = none ∧ longT E 99 = 2 ∧ longT E 104 = 0 := by
  have h := aw_one
  cases hl : loadT awText.data.toList with
  | error e => rw [hl] at h; cases h
  | ok E =>
    rw [hl] at h
    unfold awTest at h
    simp only [Bool.and_eq_true, beq_iff_eq] at h
    exact ⟨E, rfl, h.1.1.1, h.1.1.2, h.1.2, h.2⟩
theorem aw_no : loadT awText2.data.toList = .error (62, 2) := by
  have h := aw_two
  cases hl : loadT awText2.data.toList with
  | ok E => rw [hl] at h; cases h
  | error e =>
    obtain ⟨a, b⟩ := e
    rw [hl] at h
    unfold awTwo at h
    simp only [Bool.and_eq_true, beq_iff_eq] at h
    rw [h.1, h.2]
theorem aw_imp : impR 19968 = [⟨false, 64320, 32, 2⟩, ⟨false, 52736, 0, 0⟩] := by
  unfold impR baseR
  decide
theorem below_two {w w1 w2 : World} (h1 : Below w.heap.size w w1) (h2 : Below w1.heap.size w1 w2) : Below w.heap.size w w2 := h1.trans (h2.mono h1.size)
theorem ints_new6 (w : World) (zs : List Int) : Ints (w.alloc (.cells (rc zs) 3)).heap.size (w.alloc (.cells (rc zs) 3)) (.slice (some ⟨w.heap.size, 0, none⟩) zs.length zs.length) zs := by
  have hB := Blk.new w 3 (rc zs)
  refine .inr ⟨w.heap.size, 0, zs.length, rfl, hB.lt, fun j hj => ?_⟩
  rw [Nat.zero_add, hB.cell, rc_at _ _ hj]
  simp [hj]

set_option maxHeartbeats 2000000 in
set_option maxRecDepth 20000 in
theorem awake_any (m : Int) (w : World) (hm : w.cell? ⟨0, 0, none⟩ = some (.int .i64 m)) : Calls Tryd.prog 9 #[] w fun e w' => e = .returned (.bool true) ∧ Below w.heap.size w w' := by
  obtain ⟨E, hload, hf1, hf2, hl1, hl2⟩ := aw_ok
  have HNO : Hid (loadT awText2.data.toList = .error (62, 2)) := aw_no
  have HIM : Hid (impR 19968 = [⟨false, 64320, 32, 2⟩, ⟨false, 52736, 0, 0⟩]) := aw_imp
  have HF1 : Hid (findT E [99, 104] = some [⟨false, 7290, 32, 2⟩]) := hf1
  have HF2 : Hid (findT E [99] = none) := hf2
  have HL1 : Hid (longT E 99 = 2) := hl1
  have HL2 : Hid (longT E 104 = 0) := hl2
  have hlt0 : 0 < w.heap.size := World.block_lt_of_cell? w _ hm
  have hla := load_any awText m w hm (by decide)
  rw [hload] at hla
  clear hload hf1 hf2 hl1 hl2
  go_enter Tryd.func9, Tryd.ntmps9
  go_wp2_with fail
  refine hla.mono ?_
  rintro _ w1 ⟨hb1, T, me, ml, val, rfl, ht1⟩
  go_upto_region 4 with fail
  have hn2 := ints_new6 w1 [99, 104]
  have hb2 := (Below.refl w1.heap.size w1).alloc (Nat.le_refl _) (.cells (rc [99, 104]) 3)
  have ht2 := ht1.below hb2
  rw [show rc [99, 104] = #[.int .i64 99, .int .i64 104] from rfl] at hn2 hb2 ht2
  have hlw1 : 0 < w1.heap.size := by have := hb1.size; omega
  have hbA := below_two hb1 hb2
  generalize hW2 : w1.alloc (.cells #[.int .i64 99, .int .i64 104] 3) = W2 at hn2 ht2 hbA
  have hfA := find_any T me ml _ val E _ _ W2 ht2 (Nat.le_refl _) hn2 (by decide)
  rw [HF1.out] at hfA
  clear hb2
  go_wp2_with fail
  refine hfA.mono ?_
  rintro _ w3 ⟨hb3, a3, n3, c3, rfl, hown3⟩
  have hbB := below_two hbA hb3
  have ht3 := ht2.below hb3
  have he3 := hown3.els
  obtain ⟨_, _, e3⟩ := row_val hown3
  cases e3
  obtain ⟨b3, o3, rfl, _, cx3, _, _⟩ := he3.at (j := 0) (by decide)
  clear hn2 ht2 hfA hown3 hW2 hbA hb3
  have hlt3 := World.block_lt_of_cell? w3 _ cx3
  go_upto_region 5 with fail
  have hn4 := ints_new6 w3 [99]
  have hb4 := (Below.refl w3.heap.size w3).alloc (Nat.le_refl _) (.cells (rc [99]) 3)
  have ht4 := ht3.below hb4
  rw [show rc [99] = #[.int .i64 99] from rfl] at hn4 hb4 ht4
  have hbC := below_two hbB hb4
  have cx4 := (hb4.cell (p := ⟨b3, o3 + 0 * 4 + 1, none⟩) hlt3).trans cx3
  generalize hW4 : w3.alloc (.cells #[.int .i64 99] 3) = W4 at hn4 ht4 hbC cx4 hb4
  have hlt4 : b3 < W4.heap.size := by have := hb4.size; exact Nat.lt_of_lt_of_le hlt3 this
  have hfB := find_any T me ml _ val E _ _ W4 ht4 (Nat.le_refl _) hn4 (by decide)
  rw [HF2.out] at hfB
  go_wp2_with fail
  refine hfB.mono ?_
  rintro _ w5 ⟨hb5, hq5⟩
  obtain rfl : _ = _ := hq5
  have hbD := below_two hbC hb5
  have ht5 := ht4.below hb5
  have cx5 := (hb5.cell (p := ⟨b3, o3 + 0 * 4 + 1, none⟩) hlt4).trans cx4
  have hlt5 : b3 < w5.heap.size := Nat.lt_of_lt_of_le hlt4 hb5.size
  have hm5 := (hbD.cell (p := ⟨0, 0, none⟩) hlt0).trans hm
  have hlb := load_any awText2 m w5 hm5 (by decide)
  rw [HNO.out] at hlb
  clear hn4 ht4 hfB hW4 hbC hb4 hb5 cx4 cx3 he3 ht3 hbB ht1 hb1
  go_wp2_with fail
  refine hlb.mono ?_
  rintro _ w6 ⟨hb6, hq6⟩
  obtain rfl : _ = _ := hq6
  have hbE := below_two hbD hb6
  have ht6 := ht5.below hb6
  have cx6 := (hb6.cell (p := ⟨b3, o3 + 0 * 4 + 1, none⟩) hlt5).trans cx5
  have hlt6 : b3 < w6.heap.size := Nat.lt_of_lt_of_le hlt5 hb6.size
  have him := implied_any 19968 w6
  rw [HIM.out] at him
  clear hlb hbD hb6 cx5 ht5 hm5
  go_wp2_with fail
  refine him.mono ?_
  rintro _ w7 ⟨v7, rfl, hown7, hb7, hv7⟩
  have hbF := below_two hbE hb7
  have ht7 := ht6.below hb7
  have cx7 := (hb7.cell (p := ⟨b3, o3 + 0 * 4 + 1, none⟩) hlt6).trans cx6
  have he7 := hown7.els
  obtain ⟨_, _, e7⟩ := row_val hown7
  subst e7
  obtain ⟨b7, o7, rfl, _, cy7, _, _⟩ := he7.at (j := 0) (by decide)
  obtain ⟨b7', o7', e7', _, cz7, _, _⟩ := he7.at (j := 1) (by decide)
  cases e7'
  have hLa := longest_any T me ml val E 99 (by unfold InI; omega) w7 ht7
  have hLb := longest_any T me ml val E 104 (by unfold InI; omega) w7 ht7
  rw [HL1.out] at hLa
  rw [HL2.out] at hLb
  simp only [List.getElem_cons_zero, List.getElem_cons_succ, Nat.zero_mul, Nat.one_mul, Nat.add_zero] at cx7 cy7 cz7
  clear him hown7 hv7 he7 hbE cx6 ht6
  go_wp2_with fail
  refine hLa.mono ?_
  rintro _ w8 ⟨rfl, rfl⟩
  go_wp2_with fail
  refine hLb.mono ?_
  rintro _ w8 ⟨rfl, rfl⟩
  go_wp2
  go_ret
  exact ⟨rfl, hbF⟩

end Go.Proofs.YtfeppbiodbhpcaaDoor
