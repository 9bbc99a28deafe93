/- What the comparison of two rows does, for the sort (a contract; nothing is claimed here). -/
import Derived.Test.YtfeppbiodbhpcaaDoorR8
import Derived.Shelf.SlSortCmp.WholeK
namespace Go.Proofs.YtfeppbiodbhpcaaDoor
open Go.RowKit Go.Vf Go.Maps Go.Sort

theorem two_grown (w : World) (a b : Obj) (n : Nat) : ((w.alloc a).alloc b).drewN n = grow (w.drewN n) #[a, b] := by
  unfold grow
  simp only [World.alloc, World.drewN]
  congr 1

set_option maxHeartbeats 2000000 in
set_option maxRecDepth 20000 in
theorem compRows_any (r s : R8) (w : World) : Calls Tryd.prog 49 #[.agg (enc8 r).toArray, .agg (enc8 s).toArray] w fun e w' => e = .returned (.int .i64 (cmp8 r s)) ∧ ∃ q os, w' = grow (w.drewN q) os := by
  have hA := Blk.new w 73 (rc r.l)
  have hB := Blk.new (w.alloc (.cells (rc r.l) 73)) 73 (rc s.l)
  have hA' : Blk ((w.alloc (.cells (rc r.l) 73)).alloc (.cells (rc s.l) 73)) w.heap.size 73 (rc r.l) := (Below.heap_alloc _ _ _ (by simp)).trans hA
  rw [show (w.alloc (.cells (rc r.l) 73)).heap.size = w.heap.size + 1 by simp] at hB
  have iA : ∀ n, Ints (w.heap.size + 2) (((w.alloc (.cells (rc r.l) 73)).alloc (.cells (rc s.l) 73)).drewN n) (.slice (some ⟨w.heap.size, 0, none⟩) 8 8) r.l := fun n => .inr ⟨w.heap.size, 0, 8, rfl, by omega, fun j hj => by
    rw [Nat.zero_add]
    show ((w.alloc (.cells (rc r.l) 73)).alloc (.cells (rc s.l) 73)).cell? _ = _
    rw [hA'.cell, rc_at _ _ hj]
    simp [hj]⟩
  have iB : ∀ n, Ints (w.heap.size + 2) (((w.alloc (.cells (rc r.l) 73)).alloc (.cells (rc s.l) 73)).drewN n) (.slice (some ⟨w.heap.size + 1, 0, none⟩) 8 8) s.l := fun n => .inr ⟨w.heap.size + 1, 0, 8, rfl, by omega, fun j hj => by
    rw [Nat.zero_add]
    show ((w.alloc (.cells (rc r.l) 73)).alloc (.cells (rc s.l) 73)).cell? _ = _
    rw [hB.cell, rc_at _ _ hj]
    simp [hj]⟩
  have hc : ∀ n, Calls Tryd.prog 38 #[.slice (some ⟨w.heap.size, 0, none⟩) 8 8, .slice (some ⟨w.heap.size + 1, 0, none⟩) 8 8] (((w.alloc (.cells (rc r.l) 73)).alloc (.cells (rc s.l) 73)).drewN n) fun e w' => e = .returned (.int .i64 (cmp8 r s)) ∧ w' = ((w.alloc (.cells (rc r.l) 73)).alloc (.cells (rc s.l) 73)).drewN n := fun n => (compare_any _ _ _ _ r.l s.l _ (iA n) (iB n) (by show 8 ≤ _; omega) (by show 8 ≤ _; omega)).mono fun e w' h => ⟨h.1, h.2.symm⟩
  obtain ⟨a0, a1, a2, a3, a4, a5, a6, a7⟩ := r
  obtain ⟨b0, b1, b2, b3, b4, b5, b6, b7⟩ := s
  generalize hR : cmp8 _ _ = R at hc ⊢
  have hfin := fun n => two_grown w (.cells (rc (R8.l ⟨a0, a1, a2, a3, a4, a5, a6, a7⟩)) 73) (.cells (rc (R8.l ⟨b0, b1, b2, b3, b4, b5, b6, b7⟩)) 73) n
  have hc' : ∀ n, Calls Tryd.prog 38 #[.slice (some ⟨w.heap.size, 0, none⟩) 8 8, .slice (some ⟨w.heap.size + 1, 0, none⟩) 8 8] (((w.alloc (.cells #[.int .i64 a0, .int .i64 a1, .int .i64 a2, .int .i64 a3, .int .i64 a4, .int .i64 a5, .int .i64 a6, .int .i64 a7] 73)).alloc (.cells #[.int .i64 b0, .int .i64 b1, .int .i64 b2, .int .i64 b3, .int .i64 b4, .int .i64 b5, .int .i64 b6, .int .i64 b7] 73)).drewN n) fun e w' => e = .returned (.int .i64 R) ∧ w' = ((w.alloc (.cells #[.int .i64 a0, .int .i64 a1, .int .i64 a2, .int .i64 a3, .int .i64 a4, .int .i64 a5, .int .i64 a6, .int .i64 a7] 73)).alloc (.cells #[.int .i64 b0, .int .i64 b1, .int .i64 b2, .int .i64 b3, .int .i64 b4, .int .i64 b5, .int .i64 b6, .int .i64 b7] 73)).drewN n := hc
  have hfin' : ∀ n, ((w.alloc (.cells #[.int .i64 a0, .int .i64 a1, .int .i64 a2, .int .i64 a3, .int .i64 a4, .int .i64 a5, .int .i64 a6, .int .i64 a7] 73)).alloc (.cells #[.int .i64 b0, .int .i64 b1, .int .i64 b2, .int .i64 b3, .int .i64 b4, .int .i64 b5, .int .i64 b6, .int .i64 b7] 73)).drewN n = grow (w.drewN n) #[(.cells #[.int .i64 a0, .int .i64 a1, .int .i64 a2, .int .i64 a3, .int .i64 a4, .int .i64 a5, .int .i64 a6, .int .i64 a7] 73), (.cells #[.int .i64 b0, .int .i64 b1, .int .i64 b2, .int .i64 b3, .int .i64 b4, .int .i64 b5, .int .i64 b6, .int .i64 b7] 73)] := hfin
  show Calls Tryd.prog 49 #[.agg #[.int .i64 a0, .int .i64 a1, .int .i64 a2, .int .i64 a3, .int .i64 a4, .int .i64 a5, .int .i64 a6, .int .i64 a7], .agg #[.int .i64 b0, .int .i64 b1, .int .i64 b2, .int .i64 b3, .int .i64 b4, .int .i64 b5, .int .i64 b6, .int .i64 b7]] w _
  clear hc hfin
  clear hA hB hA' iA iB hR
  go_enter Tryd.func49, Tryd.ntmps49
  go_upto_region 1 with fail
  generalize hW : (w.alloc (.cells #[.int .i64 a0, .int .i64 a1, .int .i64 a2, .int .i64 a3, .int .i64 a4, .int .i64 a5, .int .i64 a6, .int .i64 a7] 73)).alloc (.cells #[.int .i64 b0, .int .i64 b1, .int .i64 b2, .int .i64 b3, .int .i64 b4, .int .i64 b5, .int .i64 b6, .int .i64 b7] 73) = W at hc' hfin' ⊢
  clear hW
  have hc1 : Calls Tryd.prog 38 #[.slice (some ⟨w.heap.size, 0, none⟩) 8 8, .slice (some ⟨w.heap.size + 1, 0, none⟩) 8 8] W.drew fun e w' => e = .returned (.int .i64 R) ∧ w' = W.drew := hc' 1
  have hf1 : W.drew = grow (w.drewN 1) _ := hfin' 1
  have HF : Hid (∃ q os, W.drew = grow (w.drewN q) os) := ⟨_, _, hf1⟩
  clear hc' hfin' hf1
  go_region_with (first | (go_at_call 38; with_reducible refine hc1.mono ?_; rintro e wA ⟨rfl, rfl⟩))
  all_goals go_wp2
  all_goals go_ret
  all_goals exact ⟨rfl, HF.out⟩

end Go.Proofs.YtfeppbiodbhpcaaDoor
