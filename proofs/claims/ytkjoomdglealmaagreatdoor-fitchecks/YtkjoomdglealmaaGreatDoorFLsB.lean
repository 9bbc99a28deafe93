/- What fit's least does with a number's field and a tuple's (contracts; nothing is claimed here). -/
import Derived.Test.YtkjoomdglealmaaGreatDoorJ23
namespace Go.Proofs.YtkjoomdglealmaaGreatDoor
open Go.RowKit Go.Vf

set_option maxHeartbeats 4000000 in
set_option maxRecDepth 20000 in
theorem least_2 (o : Go.Vf.Own) (l : List Fld) (h2 : o.kind = 2) (hlm : o.lm.size ≤ 17179869184) : LeastOk (.mk o l) := by
  intro a c lo n₀ w hn₀ hin
  rw [lst_2 h2]
  simp only [Fld.own, Fld.fields]
  clear hin
  unfold fV
  rw [h2]
  have hb1 := (Below.refl w.heap.size w).alloc (Nat.le_refl _) (.cells #[.string o.name, .int .u8 2, .bool o.down, .int .u8 o.nulls, .bool o.bnd, .bool o.ln, .string o.lm, .bool o.hn, .string o.hm, .int .i64 o.most, .int .i64 o.str, .bool o.shf, .bool o.bck, .slice a l.length c] 57)
  have hs1 := alloc_size w (.cells #[.string o.name, .int .u8 2, .bool o.down, .int .u8 o.nulls, .bool o.bnd, .bool o.ln, .string o.lm, .bool o.hn, .string o.hm, .int .i64 o.most, .int .i64 o.str, .bool o.shf, .bool o.bck, .slice a l.length c] 57)
  have hA1 := Blk.new w 57 #[.string o.name, .int .u8 2, .bool o.down, .int .u8 o.nulls, .bool o.bnd, .bool o.ln, .string o.lm, .bool o.hn, .string o.hm, .int .i64 o.most, .int .i64 o.str, .bool o.shf, .bool o.bck, .slice a l.length c]
  have hb2 := hb1.alloc hb1.size (.cells #[.int .u8 0, .bool false, .bool false, .string ⟨#[]⟩, .string ⟨#[]⟩, .slice none 0 0] 30)
  have hs2 := alloc_size (w.alloc (.cells #[.string o.name, .int .u8 2, .bool o.down, .int .u8 o.nulls, .bool o.bnd, .bool o.ln, .string o.lm, .bool o.hn, .string o.hm, .int .i64 o.most, .int .i64 o.str, .bool o.shf, .bool o.bck, .slice a l.length c] 57)) (.cells #[.int .u8 0, .bool false, .bool false, .string ⟨#[]⟩, .string ⟨#[]⟩, .slice none 0 0] 30)
  have hb12 := (Below.refl _ (w.alloc (.cells #[.string o.name, .int .u8 2, .bool o.down, .int .u8 o.nulls, .bool o.bnd, .bool o.ln, .string o.lm, .bool o.hn, .string o.hm, .int .i64 o.most, .int .i64 o.str, .bool o.shf, .bool o.bck, .slice a l.length c] 57))).alloc (Nat.le_refl _) (.cells #[.int .u8 0, .bool false, .bool false, .string ⟨#[]⟩, .string ⟨#[]⟩, .slice none 0 0] 30)
  have hZ2 := Blk.new (w.alloc (.cells #[.string o.name, .int .u8 2, .bool o.down, .int .u8 o.nulls, .bool o.bnd, .bool o.ln, .string o.lm, .bool o.hn, .string o.hm, .int .i64 o.most, .int .i64 o.str, .bool o.shf, .bool o.bck, .slice a l.length c] 57)) 30 #[.int .u8 0, .bool false, .bool false, .string ⟨#[]⟩, .string ⟨#[]⟩, .slice none 0 0]
  have hA2 := hA1.old hb12
  have hb3 := hb2.alloc hb2.size (.cells #[.int .u8 2, .bool false, .bool false, .string ⟨#[]⟩, .string ⟨#[]⟩, .slice none 0 0] 30)
  have hs3 := alloc_size ((w.alloc (.cells #[.string o.name, .int .u8 2, .bool o.down, .int .u8 o.nulls, .bool o.bnd, .bool o.ln, .string o.lm, .bool o.hn, .string o.hm, .int .i64 o.most, .int .i64 o.str, .bool o.shf, .bool o.bck, .slice a l.length c] 57)).alloc (.cells #[.int .u8 0, .bool false, .bool false, .string ⟨#[]⟩, .string ⟨#[]⟩, .slice none 0 0] 30)) (.cells #[.int .u8 2, .bool false, .bool false, .string ⟨#[]⟩, .string ⟨#[]⟩, .slice none 0 0] 30)
  have hb23 := (Below.refl _ ((w.alloc (.cells #[.string o.name, .int .u8 2, .bool o.down, .int .u8 o.nulls, .bool o.bnd, .bool o.ln, .string o.lm, .bool o.hn, .string o.hm, .int .i64 o.most, .int .i64 o.str, .bool o.shf, .bool o.bck, .slice a l.length c] 57)).alloc (.cells #[.int .u8 0, .bool false, .bool false, .string ⟨#[]⟩, .string ⟨#[]⟩, .slice none 0 0] 30))).alloc (Nat.le_refl _) (.cells #[.int .u8 2, .bool false, .bool false, .string ⟨#[]⟩, .string ⟨#[]⟩, .slice none 0 0] 30)
  have hP3 := Blk.new ((w.alloc (.cells #[.string o.name, .int .u8 2, .bool o.down, .int .u8 o.nulls, .bool o.bnd, .bool o.ln, .string o.lm, .bool o.hn, .string o.hm, .int .i64 o.most, .int .i64 o.str, .bool o.shf, .bool o.bck, .slice a l.length c] 57)).alloc (.cells #[.int .u8 0, .bool false, .bool false, .string ⟨#[]⟩, .string ⟨#[]⟩, .slice none 0 0] 30)) 30 #[.int .u8 2, .bool false, .bool false, .string ⟨#[]⟩, .string ⟨#[]⟩, .slice none 0 0]
  have hA3 := hA2.old hb23
  have hZ3 := hZ2.old hb23
  rw [hs1] at hZ3 hs2 hZ2
  rw [hs2] at hs3 hP3
  go_enter Tryz.func54, Tryz.ntmps54
  go_upto_region 2 with fail
  generalize (((w.alloc (.cells #[.string o.name, .int .u8 2, .bool o.down, .int .u8 o.nulls, .bool o.bnd, .bool o.ln, .string o.lm, .bool o.hn, .string o.hm, .int .i64 o.most, .int .i64 o.str, .bool o.shf, .bool o.bck, .slice a l.length c] 57)).alloc (.cells #[.int .u8 0, .bool false, .bool false, .string ⟨#[]⟩, .string ⟨#[]⟩, .slice none 0 0] 30)).alloc (.cells #[.int .u8 2, .bool false, .bool false, .string ⟨#[]⟩, .string ⟨#[]⟩, .slice none 0 0] 30)) = w3 at *
  clear hb1 hb2 hb12 hb23 hs1 hs2 hA1 hA2 hZ2
  obtain ⟨c0, c1, c2, c3, c4, c5, c6, c7, c8, c9, c10, c11, c12, c13⟩ := hA3.c14
  go_upto_region 4 with fail
  refine wp_region_held_drew (S := fun x => Blk x w.heap.size 57 #[.string o.name, .int .u8 2, .bool o.down, .int .u8 o.nulls, .bool o.bnd, .bool o.ln, .string o.lm, .bool o.hn, .string o.hm, .int .i64 o.most, .int .i64 o.str, .bool o.shf, .bool o.bck, .slice a l.length c]) (by kernel_rfl) (hA3) (fun hHeld => ?_)
  refine wpAnyH_takeD (i := 0) (some 13) (v := .pointer (some ⟨w.heap.size, 5, none⟩)) rfl rfl (by kernel_rfl) (by kernel_rfl) (by kernel_rfl) (fun _ _ _ h => h) (Or.inl ⟨by kernel_rfl, ?hy0⟩) (by assumption) ?rest0
  case hy0 => (intro x hSx; (try dsimp only at hSx); go_simp; first | done | with_reducible rfl)
  try simp only [Act.put, List.setIfInBounds_toArray, List.set_cons_zero, List.set_cons_succ]
  refine wpAnyH_takeD (i := 1) (some 14) (v := .pointer (some ⟨w.heap.size, 5, none⟩)) rfl rfl (by kernel_rfl) (by kernel_rfl) (by kernel_rfl) (fun _ _ _ h => h) (Or.inl ⟨by kernel_rfl, ?hy1⟩) (by assumption) ?rest1
  case hy1 => (intro x hSx; (try dsimp only at hSx); go_simp; first | done | with_reducible rfl)
  try simp only [Act.put, List.setIfInBounds_toArray, List.set_cons_zero, List.set_cons_succ]
  refine wpAnyH_takeD (i := 2) (some 15) (v := .bool o.ln) rfl rfl (by kernel_rfl) (by kernel_rfl) (by kernel_rfl) (fun _ _ _ h => h) (Or.inl ⟨by kernel_rfl, ?hy2⟩) (by assumption) ?rest2
  case hy2 => (intro zz hSx; obtain ⟨q0, q1, q2, q3, q4, q5, q6, q7, q8, q9, q10, q11, q12, q13⟩ := Blk.c14 hSx; (try dsimp only at hSx); go_simp; first | done | with_reducible rfl)
  try simp only [Act.put, List.setIfInBounds_toArray, List.set_cons_zero, List.set_cons_succ]
  refine wpAnyH_takeD (i := 3) (some 16) (v := .pointer (some ⟨w.heap.size, 5, none⟩)) rfl rfl (by kernel_rfl) (by kernel_rfl) (by kernel_rfl) (fun _ _ _ h => h) (Or.inl ⟨by kernel_rfl, ?hy3⟩) (by assumption) ?rest3
  case hy3 => (intro x hSx; (try dsimp only at hSx); go_simp; first | done | with_reducible rfl)
  try simp only [Act.put, List.setIfInBounds_toArray, List.set_cons_zero, List.set_cons_succ]
  refine wpAnyH_takeD (i := 4) (some 17) (v := .pointer (some ⟨w.heap.size, 6, none⟩)) rfl rfl (by kernel_rfl) (by kernel_rfl) (by kernel_rfl) (fun _ _ _ h => h) (Or.inl ⟨by kernel_rfl, ?hy4⟩) (by assumption) ?rest4
  case hy4 => (intro x hSx; (try dsimp only at hSx); go_simp; first | done | with_reducible rfl)
  try simp only [Act.put, List.setIfInBounds_toArray, List.set_cons_zero, List.set_cons_succ]
  refine wpAnyH_takeD (i := 5) (some 18) (v := .string o.lm) rfl rfl (by kernel_rfl) (by kernel_rfl) (by kernel_rfl) (fun _ _ _ h => h) (Or.inl ⟨by kernel_rfl, ?hy5⟩) (by assumption) ?rest5
  case hy5 => (intro zz hSx; obtain ⟨q0, q1, q2, q3, q4, q5, q6, q7, q8, q9, q10, q11, q12, q13⟩ := Blk.c14 hSx; (try dsimp only at hSx); go_simp; first | done | with_reducible rfl)
  try simp only [Act.put, List.setIfInBounds_toArray, List.set_cons_zero, List.set_cons_succ]
  refine wpAnyH_ready (rs := [6]) (by kernel_rfl) (by simp) ?_
  refine AllReadyH.cons rfl (fun K hK => ?_) AllReadyH.nil
  go_simp
  go_wp2_with (go_at_call 84; refine (clone_any o.lm _ hlm).mono ?_; rintro e w4 ⟨rfl, hb4⟩)
  have hb34 : Below w3.heap.size w3 w4 := ((Below.refl w3.heap.size w3).drew).trans hb4
  have hP4 := hP3.old hb34
  have hZ4 := hZ3.old hb34
  have hA4 := hA3.old hb34
  refine hK.out _ _ (hA4) (fun hHeld6 => ?_)
  clear hK K
  try simp only [Act.put, List.setIfInBounds_toArray, List.set_cons_zero, List.set_cons_succ]
  refine wpAnyH_takeD (i := 7) (some 20) (v := .agg #[.bool o.ln, .string o.lm]) rfl rfl (by kernel_rfl) (by kernel_rfl) (by kernel_rfl) (fun _ _ _ h => h) (Or.inl ⟨by kernel_rfl, ?hy7⟩) (by assumption) ?rest7
  case hy7 => (intro x hSx; (try dsimp only at hSx); go_simp; first | done | with_reducible rfl)
  try simp only [Act.put, List.setIfInBounds_toArray, List.set_cons_zero, List.set_cons_succ]
  refine wpAnyH_takeD (i := 8) (some 21) (v := .pointer (some ⟨w.heap.size + 1 + 1, 2, none⟩)) rfl rfl (by kernel_rfl) (by kernel_rfl) (by kernel_rfl) (fun _ _ _ h => h) (Or.inl ⟨by kernel_rfl, ?hy8⟩) (by assumption) ?rest8
  case hy8 => (intro x hSx; (try dsimp only at hSx); go_simp; first | done | with_reducible rfl)
  try simp only [Act.put, List.setIfInBounds_toArray, List.set_cons_zero, List.set_cons_succ]
  have g2 : w4.cell? ⟨w.heap.size + 1 + 1, 2, none⟩ = some (.bool false) := hP4.cell 2
  have g3 : w4.cell? ⟨w.heap.size + 1 + 1, 3, none⟩ = some (.string ⟨#[]⟩) := hP4.cell 3
  have g4 : w4.frozen? ⟨w.heap.size + 1 + 1, 2, none⟩ = false := hP4.frozen 2
  have g5 : w4.frozen? ⟨w.heap.size + 1 + 1, 3, none⟩ = false := hP4.frozen 3
  have hA5 : Blk ((w4.setCell ⟨w.heap.size + 1 + 1, 2, none⟩ (.bool o.ln)).setCell ⟨w.heap.size + 1 + 1, 3, none⟩ (.string o.lm)) w.heap.size 57 #[.string o.name, .int .u8 2, .bool o.down, .int .u8 o.nulls, .bool o.bnd, .bool o.ln, .string o.lm, .bool o.hn, .string o.hm, .int .i64 o.most, .int .i64 o.str, .bool o.shf, .bool o.bck, .slice a l.length c] := (hA4.other (p := ⟨w.heap.size + 1 + 1, 2, none⟩) (by show w.heap.size ≠ w.heap.size + 1 + 1; omega) _).other (p := ⟨w.heap.size + 1 + 1, 3, none⟩) (by show w.heap.size ≠ w.heap.size + 1 + 1; omega) _
  have hZ5 : Blk ((w4.setCell ⟨w.heap.size + 1 + 1, 2, none⟩ (.bool o.ln)).setCell ⟨w.heap.size + 1 + 1, 3, none⟩ (.string o.lm)) (w.heap.size + 1) 30 #[.int .u8 0, .bool false, .bool false, .string ⟨#[]⟩, .string ⟨#[]⟩, .slice none 0 0] := (hZ4.other (p := ⟨w.heap.size + 1 + 1, 2, none⟩) (by show w.heap.size + 1 ≠ w.heap.size + 1 + 1; omega) _).other (p := ⟨w.heap.size + 1 + 1, 3, none⟩) (by show w.heap.size + 1 ≠ w.heap.size + 1 + 1; omega) _
  have hP5 : Blk ((w4.setCell ⟨w.heap.size + 1 + 1, 2, none⟩ (.bool o.ln)).setCell ⟨w.heap.size + 1 + 1, 3, none⟩ (.string o.lm)) (w.heap.size + 1 + 1) 30 #[.int .u8 2, .bool false, .bool o.ln, .string o.lm, .string ⟨#[]⟩, .slice none 0 0] := by
    have := (hP4.set 2 (.bool o.ln)).set 3 (.string o.lm)
    simpa using this
  have hb5 : Below w.heap.size w ((w4.setCell ⟨w.heap.size + 1 + 1, 2, none⟩ (.bool o.ln)).setCell ⟨w.heap.size + 1 + 1, 3, none⟩ (.string o.lm)) := ((hb3.trans (hb34.mono hb3.size)).setCell (p := ⟨w.heap.size + 1 + 1, 2, none⟩) (by show w.heap.size ≤ w.heap.size + 1 + 1; omega) _).setCell (p := ⟨w.heap.size + 1 + 1, 3, none⟩) (by show w.heap.size ≤ w.heap.size + 1 + 1; omega) _
  refine wpAnyH_ready (rs := [9]) (by kernel_rfl) (by simp) ?_
  refine AllReadyH.cons rfl (fun K hK => ?_) AllReadyH.nil
  go_simp
  refine hK.out _ _ (hA5) (fun hHeld9 => ?_)
  clear hK K
  try simp only [Act.put, List.setIfInBounds_toArray, List.set_cons_zero, List.set_cons_succ]
  refine wpAnyH_done (by kernel_rfl) ?_ _
  generalize ((w4.setCell ⟨w.heap.size + 1 + 1, 2, none⟩ (.bool o.ln)).setCell ⟨w.heap.size + 1 + 1, 3, none⟩ (.string o.lm)) = w5 at *
  obtain ⟨p0, p1, p2, p3, p4, p5⟩ := hP5.c6
  obtain ⟨z0, z1, z2, z3, z4, z5⟩ := hZ5.c6
  have f0 := hZ5.frozen 0
  have f1 := hZ5.frozen 1
  have f2 := hZ5.frozen 2
  have f3 := hZ5.frozen 3
  have f4 := hZ5.frozen 4
  have f5 := hZ5.frozen 5
  have hZ9 := hZ5
  have hfin := hZ9.set6 (.int .u8 2) (.bool false) (.bool o.ln) (.string o.lm) (.string ⟨#[]⟩) (.slice none 0 0)
  have hbw := set6_below hb5 (show w.heap.size ≤ w.heap.size + 1 by omega) 0 (.int .u8 2) (.bool false) (.bool o.ln) (.string o.lm) (.string ⟨#[]⟩) (.slice none 0 0)
  clear hP3 hZ3 hZ9 hA3 h2 hP4 hZ4 hP5 hZ5 hA4 hA5 g2 g3 g4 g5 c0 c1 c2 c3 c4 c5 c6 c7 c8 c9 c10 c11 c12 c13
  go_wp2_with fail
  refine bodyPost_ret (res54_run (b := w.heap.size + 1) hfin rfl) rfl ?_
  exact ⟨none, 0, by rw [pV_of], .nil rfl, hbw⟩

theorem lstL_snoc (l : List Fld) (x : Fld) : lstL (l ++ [x]) = lstL l ++ [lst x] := by rw [lstL_map, lstL_map, List.map_append]; rfl
theorem lstL_len (l : List Fld) : (lstL l).length = l.length := by rw [lstL_map, List.length_map]
set_option maxHeartbeats 4000000 in
set_option maxRecDepth 20000 in
theorem least_7 (o : Go.Vf.Own) (l : List Fld) (h7 : o.kind = 7) (hll : l.length ≤ 64) (ih : ∀ x ∈ l, LeastOk x) : LeastOk (.mk o l) := by
  intro a c lo n₀ w hn₀ hin
  rw [lst_7 h7]
  simp only [Fld.own, Fld.fields]
  unfold fV
  rw [h7]
  have hb1 := (Below.refl w.heap.size w).alloc (Nat.le_refl _) (.cells #[.string o.name, .int .u8 7, .bool o.down, .int .u8 o.nulls, .bool o.bnd, .bool o.ln, .string o.lm, .bool o.hn, .string o.hm, .int .i64 o.most, .int .i64 o.str, .bool o.shf, .bool o.bck, .slice a l.length c] 57)
  have hs1 := alloc_size w (.cells #[.string o.name, .int .u8 7, .bool o.down, .int .u8 o.nulls, .bool o.bnd, .bool o.ln, .string o.lm, .bool o.hn, .string o.hm, .int .i64 o.most, .int .i64 o.str, .bool o.shf, .bool o.bck, .slice a l.length c] 57)
  have hA1 := Blk.new w 57 #[.string o.name, .int .u8 7, .bool o.down, .int .u8 o.nulls, .bool o.bnd, .bool o.ln, .string o.lm, .bool o.hn, .string o.hm, .int .i64 o.most, .int .i64 o.str, .bool o.shf, .bool o.bck, .slice a l.length c]
  have hb2 := hb1.alloc hb1.size (.cells #[.int .u8 0, .bool false, .bool false, .string ⟨#[]⟩, .string ⟨#[]⟩, .slice none 0 0] 30)
  have hs2 := alloc_size (w.alloc (.cells #[.string o.name, .int .u8 7, .bool o.down, .int .u8 o.nulls, .bool o.bnd, .bool o.ln, .string o.lm, .bool o.hn, .string o.hm, .int .i64 o.most, .int .i64 o.str, .bool o.shf, .bool o.bck, .slice a l.length c] 57)) (.cells #[.int .u8 0, .bool false, .bool false, .string ⟨#[]⟩, .string ⟨#[]⟩, .slice none 0 0] 30)
  have hb12 := (Below.refl _ (w.alloc (.cells #[.string o.name, .int .u8 7, .bool o.down, .int .u8 o.nulls, .bool o.bnd, .bool o.ln, .string o.lm, .bool o.hn, .string o.hm, .int .i64 o.most, .int .i64 o.str, .bool o.shf, .bool o.bck, .slice a l.length c] 57))).alloc (Nat.le_refl _) (.cells #[.int .u8 0, .bool false, .bool false, .string ⟨#[]⟩, .string ⟨#[]⟩, .slice none 0 0] 30)
  have hZ2 := Blk.new (w.alloc (.cells #[.string o.name, .int .u8 7, .bool o.down, .int .u8 o.nulls, .bool o.bnd, .bool o.ln, .string o.lm, .bool o.hn, .string o.hm, .int .i64 o.most, .int .i64 o.str, .bool o.shf, .bool o.bck, .slice a l.length c] 57)) 30 #[.int .u8 0, .bool false, .bool false, .string ⟨#[]⟩, .string ⟨#[]⟩, .slice none 0 0]
  have hA2 := hA1.old hb12
  have hb3 := hb2.alloc hb2.size (.cells #[.int .u8 7, .bool false, .bool false, .string ⟨#[]⟩, .string ⟨#[]⟩, .slice none 0 0] 30)
  have hs3 := alloc_size ((w.alloc (.cells #[.string o.name, .int .u8 7, .bool o.down, .int .u8 o.nulls, .bool o.bnd, .bool o.ln, .string o.lm, .bool o.hn, .string o.hm, .int .i64 o.most, .int .i64 o.str, .bool o.shf, .bool o.bck, .slice a l.length c] 57)).alloc (.cells #[.int .u8 0, .bool false, .bool false, .string ⟨#[]⟩, .string ⟨#[]⟩, .slice none 0 0] 30)) (.cells #[.int .u8 7, .bool false, .bool false, .string ⟨#[]⟩, .string ⟨#[]⟩, .slice none 0 0] 30)
  have hb23 := (Below.refl _ ((w.alloc (.cells #[.string o.name, .int .u8 7, .bool o.down, .int .u8 o.nulls, .bool o.bnd, .bool o.ln, .string o.lm, .bool o.hn, .string o.hm, .int .i64 o.most, .int .i64 o.str, .bool o.shf, .bool o.bck, .slice a l.length c] 57)).alloc (.cells #[.int .u8 0, .bool false, .bool false, .string ⟨#[]⟩, .string ⟨#[]⟩, .slice none 0 0] 30))).alloc (Nat.le_refl _) (.cells #[.int .u8 7, .bool false, .bool false, .string ⟨#[]⟩, .string ⟨#[]⟩, .slice none 0 0] 30)
  have hP3 := Blk.new ((w.alloc (.cells #[.string o.name, .int .u8 7, .bool o.down, .int .u8 o.nulls, .bool o.bnd, .bool o.ln, .string o.lm, .bool o.hn, .string o.hm, .int .i64 o.most, .int .i64 o.str, .bool o.shf, .bool o.bck, .slice a l.length c] 57)).alloc (.cells #[.int .u8 0, .bool false, .bool false, .string ⟨#[]⟩, .string ⟨#[]⟩, .slice none 0 0] 30)) 30 #[.int .u8 7, .bool false, .bool false, .string ⟨#[]⟩, .string ⟨#[]⟩, .slice none 0 0]
  have hA3 := hA2.old hb23
  have hZ3 := hZ2.old hb23
  rw [hs1] at hZ3 hs2 hZ2
  rw [hs2] at hs3 hP3
  obtain ⟨ln, hln⟩ : ∃ ln, l.length = ln := ⟨_, rfl⟩
  have HLN : Hid (l.length = ln) := hln
  have hin0 : FIn w lo n₀ l a := hin
  have HIN : Hid (∀ W, Below w.heap.size w W → FIn W lo n₀ l a) := fun W hW => hin0.keep hW hn₀
  rw [hln] at hll hb1 hs1 hA1 hb2 hs2 hb12 hZ2 hA2 hb3 hs3 hb23 hP3 hA3 hZ3 ⊢
  clear hln hin hin0
  go_enter Tryz.func54, Tryz.ntmps54
  go_upto_region 2 with fail
  generalize (((w.alloc (.cells #[.string o.name, .int .u8 7, .bool o.down, .int .u8 o.nulls, .bool o.bnd, .bool o.ln, .string o.lm, .bool o.hn, .string o.hm, .int .i64 o.most, .int .i64 o.str, .bool o.shf, .bool o.bck, .slice a ln c] 57)).alloc (.cells #[.int .u8 0, .bool false, .bool false, .string ⟨#[]⟩, .string ⟨#[]⟩, .slice none 0 0] 30)).alloc (.cells #[.int .u8 7, .bool false, .bool false, .string ⟨#[]⟩, .string ⟨#[]⟩, .slice none 0 0] 30)) = w3 at *
  clear hb1 hb2 hb12 hb23 hs1 hs2 hA1 hA2 hZ2
  obtain ⟨c0, c1, c2, c3, c4, c5, c6, c7, c8, c9, c10, c11, c12, c13⟩ := hA3.c14
  have HB0 : Hid (Blk w3 w.heap.size 57 #[.string o.name, .int .u8 7, .bool o.down, .int .u8 o.nulls, .bool o.bnd, .bool o.ln, .string o.lm, .bool o.hn, .string o.hm, .int .i64 o.most, .int .i64 o.str, .bool o.shf, .bool o.bck, .slice a ln c]) := hA3
  have HB1 : Hid (Blk w3 (w.heap.size + 1) 30 #[.int .u8 0, .bool false, .bool false, .string ⟨#[]⟩, .string ⟨#[]⟩, .slice none 0 0]) := hZ3
  have HB2 : Hid (Blk w3 (w.heap.size + 1 + 1) 30 #[.int .u8 7, .bool false, .bool false, .string ⟨#[]⟩, .string ⟨#[]⟩, .slice none 0 0]) := hP3
  have HS3 : Hid ((w.heap.size + 1 + 1 + 1) ≤ w3.heap.size) := by show _ ≤ _; omega
  clear hA3 hZ3 hP3
  go_wp2_with fail
  go_loopw [31] (fun iv wr => ∃ (j : Nat) (a6 : Option Addr) (c6 : Nat), j ≤ ln ∧ iv = .int .i64 (j : Int) ∧ PItm (w.heap.size + 1 + 1 + 1) wr (.slice a6 j c6) (lstL (l.take j)) ∧ Hid (Blk wr w.heap.size 57 #[.string o.name, .int .u8 7, .bool o.down, .int .u8 o.nulls, .bool o.bnd, .bool o.ln, .string o.lm, .bool o.hn, .string o.hm, .int .i64 o.most, .int .i64 o.str, .bool o.shf, .bool o.bck, .slice a ln c]) ∧ Hid (Blk wr (w.heap.size + 1) 30 #[.int .u8 0, .bool false, .bool false, .string ⟨#[]⟩, .string ⟨#[]⟩, .slice none 0 0]) ∧ Hid (Blk wr (w.heap.size + 1 + 1) 30 #[.int .u8 7, .bool false, .bool false, .string ⟨#[]⟩, .string ⟨#[]⟩, .slice a6 j c6]) ∧ Below w.heap.size w wr ∧ Hid ((w.heap.size + 1 + 1 + 1) ≤ wr.heap.size)) (fun iv _ => ln - (intOf iv).toNat)
  case atStart => exact ⟨0, none, 0, Nat.zero_le _, rfl, PItm.nil _ _, HB0, HB1, HB2, hb3, HS3⟩
  case round =>
    clear HB0 HB1 HB2 HS3 hb3 c0 c1 c2 c3 c4 c5 c6 c7 c8 c9 c10 c11 c12 c13
    obtain ⟨j, a6, c6, hj, rfl, hit, HB0, HB1, HB2, hb, HLE⟩ := hrel
    have hbsz : w.heap.size ≤ wr.heap.size := hb.size
    by_cases hlt : j < ln
    · have hjl : j < l.length := by rw [HLN.out]; exact hlt
      obtain ⟨bb, off, aj, cj, ha, _, hbn, hrow, hinj, _⟩ := (HIN.out wr hb).atC hjl
      subst ha
      obtain ⟨r0, r1, r2, r3, r4, r5, r6, r7, r8, r9, r10, r11, r12, r13⟩ := hrow
      have hihj := ih l[j] (List.getElem_mem hjl) aj cj lo n₀
      have HTK : Hid (lstL (l.take (j + 1)) = lstL (l.take j) ++ [lst l[j]]) := by show _ = _; rw [List.take_succ_eq_append_getElem hjl, lstL_snoc]
      have HTL : Hid ((lstL (l.take j)).length = j) := by show _ = _; rw [lstL_len, List.length_take]; omega
      generalize l[j] = x at *
      obtain ⟨q, hq⟩ : ∃ q, lst x = q := ⟨_, rfl⟩
      rw [hq] at hihj HTK
      clear hq
      have HAL : Hid ((lstL (l.take j)).length < 1024) := by have := HTL.out; show _ < _; omega
      have HL6 : Hid ((lstL (l.take j) ++ [q]).length = j + 1) := by have := HTL.out; show _ = _; simp; omega
      have hb1 := (Below.refl wr.heap.size wr).alloc (Nat.le_refl _) (.cells #[.string x.own.name, .int .u8 x.own.kind, .bool x.own.down, .int .u8 x.own.nulls, .bool x.own.bnd, .bool x.own.ln, .string x.own.lm, .bool x.own.hn, .string x.own.hm, .int .i64 x.own.most, .int .i64 x.own.str, .bool x.own.shf, .bool x.own.bck, .slice aj x.fields.length cj] 57)
      have hX1 := Blk.new wr 57 #[.string x.own.name, .int .u8 x.own.kind, .bool x.own.down, .int .u8 x.own.nulls, .bool x.own.bnd, .bool x.own.ln, .string x.own.lm, .bool x.own.hn, .string x.own.hm, .int .i64 x.own.most, .int .i64 x.own.str, .bool x.own.shf, .bool x.own.bck, .slice aj x.fields.length cj]
      have HS1 : Hid ((wr.alloc (.cells #[.string x.own.name, .int .u8 x.own.kind, .bool x.own.down, .int .u8 x.own.nulls, .bool x.own.bnd, .bool x.own.ln, .string x.own.lm, .bool x.own.hn, .string x.own.hm, .int .i64 x.own.most, .int .i64 x.own.str, .bool x.own.shf, .bool x.own.bck, .slice aj x.fields.length cj] 57)).heap.size = wr.heap.size + 1) := alloc_size wr (.cells #[.string x.own.name, .int .u8 x.own.kind, .bool x.own.down, .int .u8 x.own.nulls, .bool x.own.bnd, .bool x.own.ln, .string x.own.lm, .bool x.own.hn, .string x.own.hm, .int .i64 x.own.most, .int .i64 x.own.str, .bool x.own.shf, .bool x.own.bck, .slice aj x.fields.length cj] 57)
      have hji : (j : Int) < (ln : Int) := by omega
      have HRL0 : Hid (∀ k, (Value.slice a6 j c6).ownBlock = some k → k < wr.heap.size) := hit.row_lt
      clear ih
      go_upto_region 11 with fail
      generalize wr.alloc (.cells #[.string x.own.name, .int .u8 x.own.kind, .bool x.own.down, .int .u8 x.own.nulls, .bool x.own.bnd, .bool x.own.ln, .string x.own.lm, .bool x.own.hn, .string x.own.hm, .int .i64 x.own.most, .int .i64 x.own.str, .bool x.own.shf, .bool x.own.bck, .slice aj x.fields.length cj] 57) = w1 at *
      have hbw1 : Below w.heap.size w w1 := hb.trans (hb1.mono hbsz)
      have hcall : Calls Tryz.prog 54 #[.agg #[.string x.own.name, .int .u8 x.own.kind, .bool x.own.down, .int .u8 x.own.nulls, .bool x.own.bnd, .bool x.own.ln, .string x.own.lm, .bool x.own.hn, .string x.own.hm, .int .i64 x.own.most, .int .i64 x.own.str, .bool x.own.shf, .bool x.own.bck, .slice aj x.fields.length cj]] w1.drew fun e w' => ∃ ap cp, e = .returned (.agg #[.int .u8 q.kind, .bool q.yes, .bool q.neg, .string q.mag, .string q.raw, .slice ap q.items.length cp]) ∧ PIn w' w1.heap.size w'.heap.size q ap ∧ Below w1.heap.size w1 w' := by
        have hs := hb1.size
        refine (hihj w1.drew (by show n₀ ≤ w1.heap.size; omega) ((hinj.keep hb1 (by omega)).keep ((Below.refl w1.heap.size w1).drew) (by omega))).mono ?_
        rintro e w' ⟨ap, cp, h1, h2, h3⟩
        exact ⟨ap, cp, h1, h2, ((Below.refl w1.heap.size w1).drew).trans h3⟩
      have HI1 : Hid (PItm (w.heap.size + 1 + 1 + 1) w1 (.slice a6 j c6) (lstL (l.take j))) := hit.old hb1
      have HZ1 : Hid (wr.heap.size ≤ w1.heap.size) := hb1.size
      have HRL : Hid (∀ k, (Value.slice a6 j c6).ownBlock = some k → k < w1.heap.size) := fun k hk => Nat.lt_of_lt_of_le (HRL0.out k hk) hb1.size
      have HNE : Hid ((Value.slice a6 j c6).ownBlock ≠ some wr.heap.size) := fun e => by have := HRL0.out _ e; omega
      have HLE1 : Hid ((w.heap.size + 1 + 1 + 1) ≤ w1.heap.size) := Nat.le_trans HLE.out hb1.size
      have HBa : Hid (Blk w1 w.heap.size 57 #[.string o.name, .int .u8 7, .bool o.down, .int .u8 o.nulls, .bool o.bnd, .bool o.ln, .string o.lm, .bool o.hn, .string o.hm, .int .i64 o.most, .int .i64 o.str, .bool o.shf, .bool o.bck, .slice (some ⟨bb, off, none⟩) ln c]) := Blk.old HB0.out hb1
      have HBr : Hid (Blk w1 (w.heap.size + 1) 30 #[.int .u8 0, .bool false, .bool false, .string ⟨#[]⟩, .string ⟨#[]⟩, .slice none 0 0]) := Blk.old HB1.out hb1
      have HBp : Hid (Blk w1 (w.heap.size + 1 + 1) 30 #[.int .u8 7, .bool false, .bool false, .string ⟨#[]⟩, .string ⟨#[]⟩, .slice a6 j c6]) := Blk.old HB2.out hb1
      have q5 : w1.cell? ⟨w.heap.size + 1 + 1, 5, none⟩ = some (.slice a6 j c6) := Blk.cell HBp.out 5
      clear hit hinj HB0 HB1 HB2 hihj r0 r1 r2 r3 r4 r5 r6 r7 r8 r9 r10 r11 r12 r13 hb1
      refine wp_region_held_drew (S := fun zz => Blk zz wr.heap.size 57 #[.string x.own.name, .int .u8 x.own.kind, .bool x.own.down, .int .u8 x.own.nulls, .bool x.own.bnd, .bool x.own.ln, .string x.own.lm, .bool x.own.hn, .string x.own.hm, .int .i64 x.own.most, .int .i64 x.own.str, .bool x.own.shf, .bool x.own.bck, .slice aj x.fields.length cj]) (by kernel_rfl) (hX1) (fun hHeld => ?_)
      refine wpAnyH_takeD (i := 0) (some 35) (v := .pointer (some ⟨w.heap.size + 1 + 1, 5, none⟩)) rfl rfl (by kernel_rfl) (by kernel_rfl) (by kernel_rfl) (fun _ _ _ h => h) (Or.inl ⟨by kernel_rfl, ?hy0⟩) (by assumption) ?rest0
      case hy0 => (intro x hSx; (try dsimp only at hSx); go_simp; first | done | with_reducible rfl)
      try simp only [Act.put, List.setIfInBounds_toArray, List.set_cons_zero, List.set_cons_succ]
      refine wpAnyH_takeD (i := 2) (some 37) (v := .agg #[.string x.own.name, .int .u8 x.own.kind, .bool x.own.down, .int .u8 x.own.nulls, .bool x.own.bnd, .bool x.own.ln, .string x.own.lm, .bool x.own.hn, .string x.own.hm, .int .i64 x.own.most, .int .i64 x.own.str, .bool x.own.shf, .bool x.own.bck, .slice aj x.fields.length cj]) rfl rfl (by kernel_rfl) (by kernel_rfl) (by kernel_rfl) (fun _ _ _ h => h) (Or.inl ⟨by kernel_rfl, ?hy2⟩) (by assumption) ?rest2
      case hy2 => (intro zz hSx; obtain ⟨q0, q1, q2, q3, q4, q5, q6, q7, q8, q9, q10, q11, q12, q13⟩ := Blk.c14 hSx; (try dsimp only at hSx); go_simp; first | done | with_reducible rfl)
      try simp only [Act.put, List.setIfInBounds_toArray, List.set_cons_zero, List.set_cons_succ]
      refine wpAnyH_ready (rs := [1, 3]) (by kernel_rfl) (by simp) ?_
      refine AllReadyH.cons rfl (fun K hK => ?_) (AllReadyH.cons rfl (fun K hK => ?_) AllReadyH.nil)
      · skip
        go_simp
        refine hK.out _ _ hX1 (fun hs1 => ?_)
        clear hK K
        try simp only [Act.put, List.setIfInBounds_toArray, List.set_cons_zero, List.set_cons_succ]
        refine wpAnyH_ready (rs := [3]) (by kernel_rfl) (by simp) ?_
        refine AllReadyH.cons rfl (fun K hK => ?_) AllReadyH.nil
        go_simp
        go_wp2_with (go_at_call 54; refine hcall.mono ?_; rintro _ w4 ⟨ax, cx, rfl, hpx, hb4⟩)
        have hX4 := hX1.old hb4
        have q5b : w4.cell? ⟨w.heap.size + 1 + 1, 5, none⟩ = some (.slice a6 j c6) := (HBp.out.old hb4).cell 5
        refine hK.out _ _ hX4 (fun hs3 => ?_)
        clear hK K
        try simp only [Act.put, List.setIfInBounds_toArray, List.set_cons_zero, List.set_cons_succ]
        have hq5 := (Below.refl w4.heap.size w4).alloc (Nat.le_refl _) (.cells #[.int .u8 q.kind, .bool q.yes, .bool q.neg, .string q.mag, .string q.raw, .slice ax q.items.length cx] 30)
        have hb5 : Below w1.heap.size w1 (w4.alloc (.cells #[.int .u8 q.kind, .bool q.yes, .bool q.neg, .string q.mag, .string q.raw, .slice ax q.items.length cx] 30)) := hb4.trans (hq5.mono hb4.size)
        have hX5 := hX4.old hq5
        refine wpAnyH_ready (rs := [4]) (by kernel_rfl) (by simp) ?_
        refine AllReadyH.cons rfl (fun K hK => ?_) AllReadyH.nil
        go_simp
        refine hK.out _ _ hX5 (fun hs4 => ?_)
        clear hK K
        try simp only [Act.put, List.setIfInBounds_toArray, List.set_cons_zero, List.set_cons_succ]
        have HP4 : Hid (PIn w4 w1.heap.size w4.heap.size q ax) := hpx
        have HI4 : Hid (PItm (w.heap.size + 1 + 1 + 1) w4 (.slice a6 j c6) (lstL (l.take j))) := HI1.out.old hb4
        have HZ4 : Hid (w1.heap.size ≤ w4.heap.size) := hb4.size
        refine wpAnyH_ready (rs := [5]) (by kernel_rfl) (by simp) ?_
        refine AllReadyH.cons rfl (fun K hK => ?_) AllReadyH.nil
        refine PItm.step HI4.out HLE1.out HZ4.out HRL.out HAL.out HP4.out (.tmp 36) (.tmp 39) rfl rfl rfl rfl ?_
        intro v' w6 hit6 hb6 hblk6
        obtain ⟨a7, c7, hv6⟩ := hit6.form
        rw [HL6.out] at hv6
        subst hv6
        have hX6 : Blk w6 wr.heap.size 57 #[.string x.own.name, .int .u8 x.own.kind, .bool x.own.down, .int .u8 x.own.nulls, .bool x.own.bnd, .bool x.own.ln, .string x.own.lm, .bool x.own.hn, .string x.own.hm, .int .i64 x.own.most, .int .i64 x.own.str, .bool x.own.shf, .bool x.own.bck, .slice aj x.fields.length cj] := (hblk6 wr.heap.size hX4.lt (fun e => HNE.out e)).trans hX4
        have hBp6 : Blk w6 (w.heap.size + 1 + 1) 30 #[.int .u8 7, .bool false, .bool false, .string ⟨#[]⟩, .string ⟨#[]⟩, .slice a6 j c6] := (HBp.out.old hb4).below hb6 (Nat.lt_succ_self _)
        have hBr6 : Blk w6 (w.heap.size + 1) 30 #[.int .u8 0, .bool false, .bool false, .string ⟨#[]⟩, .string ⟨#[]⟩, .slice none 0 0] := (HBr.out.old hb4).below hb6 (by omega)
        have hBa6 : Blk w6 w.heap.size 57 #[.string o.name, .int .u8 7, .bool o.down, .int .u8 o.nulls, .bool o.bnd, .bool o.ln, .string o.lm, .bool o.hn, .string o.hm, .int .i64 o.most, .int .i64 o.str, .bool o.shf, .bool o.bck, .slice (some ⟨bb, off, none⟩) ln c] := (HBa.out.old hb4).below hb6 (by omega)
        refine hK.out _ _ hX6 (fun hs5 => ?_)
        clear hK K
        try simp only [Act.put, List.setIfInBounds_toArray]
        refine wpAnyH_takeD (i := 6) (some 41) (v := .pointer (some ⟨w.heap.size + 1 + 1, 5, none⟩)) rfl rfl (by kernel_rfl) (by kernel_rfl) (by kernel_rfl) (fun _ _ _ h => h) (Or.inl ⟨by kernel_rfl, ?hyp6⟩) (by assumption) ?restp6
        case hyp6 => (intro x hSx; (try dsimp only at hSx); go_simp; first | done | with_reducible rfl)
        try simp only [Act.put]
        have z5 : w6.cell? ⟨w.heap.size + 1 + 1, 5, none⟩ = some (.slice a6 j c6) := hBp6.cell 5
        have z6 : w6.frozen? ⟨w.heap.size + 1 + 1, 5, none⟩ = false := hBp6.frozen 5
        have hBp7 : Blk (w6.setCell ⟨w.heap.size + 1 + 1, 5, none⟩ (.slice a7 (j + 1) c7)) (w.heap.size + 1 + 1) 30 #[.int .u8 7, .bool false, .bool false, .string ⟨#[]⟩, .string ⟨#[]⟩, .slice a7 (j + 1) c7] := by
          have := hBp6.set 5 (.slice a7 (j + 1) c7)
          simpa using this
        have hBr7 : Blk (w6.setCell ⟨w.heap.size + 1 + 1, 5, none⟩ (.slice a7 (j + 1) c7)) (w.heap.size + 1) 30 #[.int .u8 0, .bool false, .bool false, .string ⟨#[]⟩, .string ⟨#[]⟩, .slice none 0 0] := hBr6.other (p := ⟨w.heap.size + 1 + 1, 5, none⟩) (by show w.heap.size + 1 ≠ w.heap.size + 1 + 1; omega) _
        have hBa7 : Blk (w6.setCell ⟨w.heap.size + 1 + 1, 5, none⟩ (.slice a7 (j + 1) c7)) w.heap.size 57 #[.string o.name, .int .u8 7, .bool o.down, .int .u8 o.nulls, .bool o.bnd, .bool o.ln, .string o.lm, .bool o.hn, .string o.hm, .int .i64 o.most, .int .i64 o.str, .bool o.shf, .bool o.bck, .slice (some ⟨bb, off, none⟩) ln c] := hBa6.other (p := ⟨w.heap.size + 1 + 1, 5, none⟩) (by show w.heap.size ≠ w.heap.size + 1 + 1; omega) _
        have hX7 : Blk (w6.setCell ⟨w.heap.size + 1 + 1, 5, none⟩ (.slice a7 (j + 1) c7)) wr.heap.size 57 #[.string x.own.name, .int .u8 x.own.kind, .bool x.own.down, .int .u8 x.own.nulls, .bool x.own.bnd, .bool x.own.ln, .string x.own.lm, .bool x.own.hn, .string x.own.hm, .int .i64 x.own.most, .int .i64 x.own.str, .bool x.own.shf, .bool x.own.bck, .slice aj x.fields.length cj] := hX6.other (p := ⟨w.heap.size + 1 + 1, 5, none⟩) (by show wr.heap.size ≠ w.heap.size + 1 + 1; have := HLE.out; omega) _
        have hss : (w6.setCell ⟨w.heap.size + 1 + 1, 5, none⟩ (.slice a7 (j + 1) c7)).heap.size = w6.heap.size := by simp [World.setCell]
        have hit7 : PItm (w.heap.size + 1 + 1 + 1) (w6.setCell ⟨w.heap.size + 1 + 1, 5, none⟩ (.slice a7 (j + 1) c7)) (.slice a7 (j + 1) c7) (lstL (l.take j) ++ [q]) := hit6.keep (fun b q1 q2 => Below.heap_setCell _ _ _ b (by show b ≠ w.heap.size + 1 + 1; omega)) (by rw [hss]; exact Nat.le_refl _)
        have hb7 : Below w.heap.size w (w6.setCell ⟨w.heap.size + 1 + 1, 5, none⟩ (.slice a7 (j + 1) c7)) := ((hbw1.trans (hb4.mono hbw1.size)).trans (hb6.mono (by omega))).setCell (p := ⟨w.heap.size + 1 + 1, 5, none⟩) (by show w.heap.size ≤ w.heap.size + 1 + 1; omega) _
        have HLE7 : Hid ((w.heap.size + 1 + 1 + 1) ≤ (w6.setCell ⟨w.heap.size + 1 + 1, 5, none⟩ (.slice a7 (j + 1) c7)).heap.size) := by
          show _ ≤ _
          rw [hss]
          have := HLE.out
          have := hb6.size
          have := HZ4.out
          have := HZ1.out
          omega
        refine wpAnyH_ready (rs := [7]) (by kernel_rfl) (by simp) ?_
        refine AllReadyH.cons rfl (fun K hK => ?_) AllReadyH.nil
        go_simp
        refine hK.out _ _ hX7 (fun hs6 => ?_)
        clear hK K
        try simp only [Act.put, List.setIfInBounds_toArray, List.set_cons_zero, List.set_cons_succ]
        refine wpAnyH_done (by kernel_rfl) ?_ _
        rw [← HTK.out] at hit7
        have HB0' : Hid _ := hBa7
        have HB1' : Hid _ := hBr7
        have HB2' : Hid _ := hBp7
        generalize (w6.setCell ⟨w.heap.size + 1 + 1, 5, none⟩ (.slice a7 (j + 1) c7)) = w7 at *
        clear HI4 HP4 HZ4 hit6 hb6 hblk6 hX6 hX7 hX4 hX5 hBp6 hBr6 hBa6 hBp7 hBr7 hBa7 z5 z6 hss hpx hq5 hb5 q5b hb4 hcall
        go_wp2_with fail
        go_roundw
        case rel => exact ⟨j + 1, a7, c7, hlt, by simp, hit7, HB0', HB1', HB2', hb7, HLE7⟩
        case measure => simp only [intOf]; omega
      · skip
        go_simp
        go_wp2_with (go_at_call 54; refine hcall.mono ?_; rintro _ w4 ⟨ax, cx, rfl, hpx, hb4⟩)
        have hX4 := hX1.old hb4
        have q5b : w4.cell? ⟨w.heap.size + 1 + 1, 5, none⟩ = some (.slice a6 j c6) := (HBp.out.old hb4).cell 5
        refine hK.out _ _ hX4 (fun hs3 => ?_)
        clear hK K
        try simp only [Act.put, List.setIfInBounds_toArray, List.set_cons_zero, List.set_cons_succ]
        refine wpAnyH_ready (rs := [1, 4]) (by kernel_rfl) (by simp) ?_
        refine AllReadyH.cons rfl (fun K hK => ?_) (AllReadyH.cons rfl (fun K hK => ?_) AllReadyH.nil)
        · skip
          go_simp
          refine hK.out _ _ hX4 (fun hs1 => ?_)
          clear hK K
          try simp only [Act.put, List.setIfInBounds_toArray, List.set_cons_zero, List.set_cons_succ]
          have hq5 := (Below.refl w4.heap.size w4).alloc (Nat.le_refl _) (.cells #[.int .u8 q.kind, .bool q.yes, .bool q.neg, .string q.mag, .string q.raw, .slice ax q.items.length cx] 30)
          have hb5 : Below w1.heap.size w1 (w4.alloc (.cells #[.int .u8 q.kind, .bool q.yes, .bool q.neg, .string q.mag, .string q.raw, .slice ax q.items.length cx] 30)) := hb4.trans (hq5.mono hb4.size)
          have hX5 := hX4.old hq5
          refine wpAnyH_ready (rs := [4]) (by kernel_rfl) (by simp) ?_
          refine AllReadyH.cons rfl (fun K hK => ?_) AllReadyH.nil
          go_simp
          refine hK.out _ _ hX5 (fun hs4 => ?_)
          clear hK K
          try simp only [Act.put, List.setIfInBounds_toArray, List.set_cons_zero, List.set_cons_succ]
          have HP4 : Hid (PIn w4 w1.heap.size w4.heap.size q ax) := hpx
          have HI4 : Hid (PItm (w.heap.size + 1 + 1 + 1) w4 (.slice a6 j c6) (lstL (l.take j))) := HI1.out.old hb4
          have HZ4 : Hid (w1.heap.size ≤ w4.heap.size) := hb4.size
          refine wpAnyH_ready (rs := [5]) (by kernel_rfl) (by simp) ?_
          refine AllReadyH.cons rfl (fun K hK => ?_) AllReadyH.nil
          refine PItm.step HI4.out HLE1.out HZ4.out HRL.out HAL.out HP4.out (.tmp 36) (.tmp 39) rfl rfl rfl rfl ?_
          intro v' w6 hit6 hb6 hblk6
          obtain ⟨a7, c7, hv6⟩ := hit6.form
          rw [HL6.out] at hv6
          subst hv6
          have hX6 : Blk w6 wr.heap.size 57 #[.string x.own.name, .int .u8 x.own.kind, .bool x.own.down, .int .u8 x.own.nulls, .bool x.own.bnd, .bool x.own.ln, .string x.own.lm, .bool x.own.hn, .string x.own.hm, .int .i64 x.own.most, .int .i64 x.own.str, .bool x.own.shf, .bool x.own.bck, .slice aj x.fields.length cj] := (hblk6 wr.heap.size hX4.lt (fun e => HNE.out e)).trans hX4
          have hBp6 : Blk w6 (w.heap.size + 1 + 1) 30 #[.int .u8 7, .bool false, .bool false, .string ⟨#[]⟩, .string ⟨#[]⟩, .slice a6 j c6] := (HBp.out.old hb4).below hb6 (Nat.lt_succ_self _)
          have hBr6 : Blk w6 (w.heap.size + 1) 30 #[.int .u8 0, .bool false, .bool false, .string ⟨#[]⟩, .string ⟨#[]⟩, .slice none 0 0] := (HBr.out.old hb4).below hb6 (by omega)
          have hBa6 : Blk w6 w.heap.size 57 #[.string o.name, .int .u8 7, .bool o.down, .int .u8 o.nulls, .bool o.bnd, .bool o.ln, .string o.lm, .bool o.hn, .string o.hm, .int .i64 o.most, .int .i64 o.str, .bool o.shf, .bool o.bck, .slice (some ⟨bb, off, none⟩) ln c] := (HBa.out.old hb4).below hb6 (by omega)
          refine hK.out _ _ hX6 (fun hs5 => ?_)
          clear hK K
          try simp only [Act.put, List.setIfInBounds_toArray]
          refine wpAnyH_takeD (i := 6) (some 41) (v := .pointer (some ⟨w.heap.size + 1 + 1, 5, none⟩)) rfl rfl (by kernel_rfl) (by kernel_rfl) (by kernel_rfl) (fun _ _ _ h => h) (Or.inl ⟨by kernel_rfl, ?hyq6⟩) (by assumption) ?restq6
          case hyq6 => (intro x hSx; (try dsimp only at hSx); go_simp; first | done | with_reducible rfl)
          try simp only [Act.put]
          have z5 : w6.cell? ⟨w.heap.size + 1 + 1, 5, none⟩ = some (.slice a6 j c6) := hBp6.cell 5
          have z6 : w6.frozen? ⟨w.heap.size + 1 + 1, 5, none⟩ = false := hBp6.frozen 5
          have hBp7 : Blk (w6.setCell ⟨w.heap.size + 1 + 1, 5, none⟩ (.slice a7 (j + 1) c7)) (w.heap.size + 1 + 1) 30 #[.int .u8 7, .bool false, .bool false, .string ⟨#[]⟩, .string ⟨#[]⟩, .slice a7 (j + 1) c7] := by
            have := hBp6.set 5 (.slice a7 (j + 1) c7)
            simpa using this
          have hBr7 : Blk (w6.setCell ⟨w.heap.size + 1 + 1, 5, none⟩ (.slice a7 (j + 1) c7)) (w.heap.size + 1) 30 #[.int .u8 0, .bool false, .bool false, .string ⟨#[]⟩, .string ⟨#[]⟩, .slice none 0 0] := hBr6.other (p := ⟨w.heap.size + 1 + 1, 5, none⟩) (by show w.heap.size + 1 ≠ w.heap.size + 1 + 1; omega) _
          have hBa7 : Blk (w6.setCell ⟨w.heap.size + 1 + 1, 5, none⟩ (.slice a7 (j + 1) c7)) w.heap.size 57 #[.string o.name, .int .u8 7, .bool o.down, .int .u8 o.nulls, .bool o.bnd, .bool o.ln, .string o.lm, .bool o.hn, .string o.hm, .int .i64 o.most, .int .i64 o.str, .bool o.shf, .bool o.bck, .slice (some ⟨bb, off, none⟩) ln c] := hBa6.other (p := ⟨w.heap.size + 1 + 1, 5, none⟩) (by show w.heap.size ≠ w.heap.size + 1 + 1; omega) _
          have hX7 : Blk (w6.setCell ⟨w.heap.size + 1 + 1, 5, none⟩ (.slice a7 (j + 1) c7)) wr.heap.size 57 #[.string x.own.name, .int .u8 x.own.kind, .bool x.own.down, .int .u8 x.own.nulls, .bool x.own.bnd, .bool x.own.ln, .string x.own.lm, .bool x.own.hn, .string x.own.hm, .int .i64 x.own.most, .int .i64 x.own.str, .bool x.own.shf, .bool x.own.bck, .slice aj x.fields.length cj] := hX6.other (p := ⟨w.heap.size + 1 + 1, 5, none⟩) (by show wr.heap.size ≠ w.heap.size + 1 + 1; have := HLE.out; omega) _
          have hss : (w6.setCell ⟨w.heap.size + 1 + 1, 5, none⟩ (.slice a7 (j + 1) c7)).heap.size = w6.heap.size := by simp [World.setCell]
          have hit7 : PItm (w.heap.size + 1 + 1 + 1) (w6.setCell ⟨w.heap.size + 1 + 1, 5, none⟩ (.slice a7 (j + 1) c7)) (.slice a7 (j + 1) c7) (lstL (l.take j) ++ [q]) := hit6.keep (fun b q1 q2 => Below.heap_setCell _ _ _ b (by show b ≠ w.heap.size + 1 + 1; omega)) (by rw [hss]; exact Nat.le_refl _)
          have hb7 : Below w.heap.size w (w6.setCell ⟨w.heap.size + 1 + 1, 5, none⟩ (.slice a7 (j + 1) c7)) := ((hbw1.trans (hb4.mono hbw1.size)).trans (hb6.mono (by omega))).setCell (p := ⟨w.heap.size + 1 + 1, 5, none⟩) (by show w.heap.size ≤ w.heap.size + 1 + 1; omega) _
          have HLE7 : Hid ((w.heap.size + 1 + 1 + 1) ≤ (w6.setCell ⟨w.heap.size + 1 + 1, 5, none⟩ (.slice a7 (j + 1) c7)).heap.size) := by
            show _ ≤ _
            rw [hss]
            have := HLE.out
            have := hb6.size
            have := HZ4.out
            have := HZ1.out
            omega
          refine wpAnyH_ready (rs := [7]) (by kernel_rfl) (by simp) ?_
          refine AllReadyH.cons rfl (fun K hK => ?_) AllReadyH.nil
          go_simp
          refine hK.out _ _ hX7 (fun hs6 => ?_)
          clear hK K
          try simp only [Act.put, List.setIfInBounds_toArray, List.set_cons_zero, List.set_cons_succ]
          refine wpAnyH_done (by kernel_rfl) ?_ _
          rw [← HTK.out] at hit7
          have HB0' : Hid _ := hBa7
          have HB1' : Hid _ := hBr7
          have HB2' : Hid _ := hBp7
          generalize (w6.setCell ⟨w.heap.size + 1 + 1, 5, none⟩ (.slice a7 (j + 1) c7)) = w7 at *
          clear HI4 HP4 HZ4 hit6 hb6 hblk6 hX6 hX7 hX4 hX5 hBp6 hBr6 hBa6 hBp7 hBr7 hBa7 z5 z6 hss hpx hq5 hb5 q5b hb4 hcall
          go_wp2_with fail
          go_roundw
          case rel => exact ⟨j + 1, a7, c7, hlt, by simp, hit7, HB0', HB1', HB2', hb7, HLE7⟩
          case measure => simp only [intOf]; omega
        · skip
          have hq5 := (Below.refl w4.heap.size w4).alloc (Nat.le_refl _) (.cells #[.int .u8 q.kind, .bool q.yes, .bool q.neg, .string q.mag, .string q.raw, .slice ax q.items.length cx] 30)
          have hb5 : Below w1.heap.size w1 (w4.alloc (.cells #[.int .u8 q.kind, .bool q.yes, .bool q.neg, .string q.mag, .string q.raw, .slice ax q.items.length cx] 30)) := hb4.trans (hq5.mono hb4.size)
          have hX5 := hX4.old hq5
          go_simp
          refine hK.out _ _ hX5 (fun hs4 => ?_)
          clear hK K
          try simp only [Act.put, List.setIfInBounds_toArray, List.set_cons_zero, List.set_cons_succ]
          have q5c : (w4.alloc (.cells #[.int .u8 q.kind, .bool q.yes, .bool q.neg, .string q.mag, .string q.raw, .slice ax q.items.length cx] 30)).cell? ⟨w.heap.size + 1 + 1, 5, none⟩ = some (.slice a6 j c6) := ((HBp.out.old hb4).old hq5).cell 5
          refine wpAnyH_ready (rs := [1]) (by kernel_rfl) (by simp) ?_
          refine AllReadyH.cons rfl (fun K hK => ?_) AllReadyH.nil
          go_simp
          refine hK.out _ _ hX5 (fun hs1 => ?_)
          clear hK K q5c
          try simp only [Act.put, List.setIfInBounds_toArray, List.set_cons_zero, List.set_cons_succ]
          have HP4 : Hid (PIn w4 w1.heap.size w4.heap.size q ax) := hpx
          have HI4 : Hid (PItm (w.heap.size + 1 + 1 + 1) w4 (.slice a6 j c6) (lstL (l.take j))) := HI1.out.old hb4
          have HZ4 : Hid (w1.heap.size ≤ w4.heap.size) := hb4.size
          refine wpAnyH_ready (rs := [5]) (by kernel_rfl) (by simp) ?_
          refine AllReadyH.cons rfl (fun K hK => ?_) AllReadyH.nil
          refine PItm.step HI4.out HLE1.out HZ4.out HRL.out HAL.out HP4.out (.tmp 36) (.tmp 39) rfl rfl rfl rfl ?_
          intro v' w6 hit6 hb6 hblk6
          obtain ⟨a7, c7, hv6⟩ := hit6.form
          rw [HL6.out] at hv6
          subst hv6
          have hX6 : Blk w6 wr.heap.size 57 #[.string x.own.name, .int .u8 x.own.kind, .bool x.own.down, .int .u8 x.own.nulls, .bool x.own.bnd, .bool x.own.ln, .string x.own.lm, .bool x.own.hn, .string x.own.hm, .int .i64 x.own.most, .int .i64 x.own.str, .bool x.own.shf, .bool x.own.bck, .slice aj x.fields.length cj] := (hblk6 wr.heap.size hX4.lt (fun e => HNE.out e)).trans hX4
          have hBp6 : Blk w6 (w.heap.size + 1 + 1) 30 #[.int .u8 7, .bool false, .bool false, .string ⟨#[]⟩, .string ⟨#[]⟩, .slice a6 j c6] := (HBp.out.old hb4).below hb6 (Nat.lt_succ_self _)
          have hBr6 : Blk w6 (w.heap.size + 1) 30 #[.int .u8 0, .bool false, .bool false, .string ⟨#[]⟩, .string ⟨#[]⟩, .slice none 0 0] := (HBr.out.old hb4).below hb6 (by omega)
          have hBa6 : Blk w6 w.heap.size 57 #[.string o.name, .int .u8 7, .bool o.down, .int .u8 o.nulls, .bool o.bnd, .bool o.ln, .string o.lm, .bool o.hn, .string o.hm, .int .i64 o.most, .int .i64 o.str, .bool o.shf, .bool o.bck, .slice (some ⟨bb, off, none⟩) ln c] := (HBa.out.old hb4).below hb6 (by omega)
          refine hK.out _ _ hX6 (fun hs5 => ?_)
          clear hK K
          try simp only [Act.put, List.setIfInBounds_toArray]
          refine wpAnyH_takeD (i := 6) (some 41) (v := .pointer (some ⟨w.heap.size + 1 + 1, 5, none⟩)) rfl rfl (by kernel_rfl) (by kernel_rfl) (by kernel_rfl) (fun _ _ _ h => h) (Or.inl ⟨by kernel_rfl, ?hyr6⟩) (by assumption) ?restr6
          case hyr6 => (intro x hSx; (try dsimp only at hSx); go_simp; first | done | with_reducible rfl)
          try simp only [Act.put]
          have z5 : w6.cell? ⟨w.heap.size + 1 + 1, 5, none⟩ = some (.slice a6 j c6) := hBp6.cell 5
          have z6 : w6.frozen? ⟨w.heap.size + 1 + 1, 5, none⟩ = false := hBp6.frozen 5
          have hBp7 : Blk (w6.setCell ⟨w.heap.size + 1 + 1, 5, none⟩ (.slice a7 (j + 1) c7)) (w.heap.size + 1 + 1) 30 #[.int .u8 7, .bool false, .bool false, .string ⟨#[]⟩, .string ⟨#[]⟩, .slice a7 (j + 1) c7] := by
            have := hBp6.set 5 (.slice a7 (j + 1) c7)
            simpa using this
          have hBr7 : Blk (w6.setCell ⟨w.heap.size + 1 + 1, 5, none⟩ (.slice a7 (j + 1) c7)) (w.heap.size + 1) 30 #[.int .u8 0, .bool false, .bool false, .string ⟨#[]⟩, .string ⟨#[]⟩, .slice none 0 0] := hBr6.other (p := ⟨w.heap.size + 1 + 1, 5, none⟩) (by show w.heap.size + 1 ≠ w.heap.size + 1 + 1; omega) _
          have hBa7 : Blk (w6.setCell ⟨w.heap.size + 1 + 1, 5, none⟩ (.slice a7 (j + 1) c7)) w.heap.size 57 #[.string o.name, .int .u8 7, .bool o.down, .int .u8 o.nulls, .bool o.bnd, .bool o.ln, .string o.lm, .bool o.hn, .string o.hm, .int .i64 o.most, .int .i64 o.str, .bool o.shf, .bool o.bck, .slice (some ⟨bb, off, none⟩) ln c] := hBa6.other (p := ⟨w.heap.size + 1 + 1, 5, none⟩) (by show w.heap.size ≠ w.heap.size + 1 + 1; omega) _
          have hX7 : Blk (w6.setCell ⟨w.heap.size + 1 + 1, 5, none⟩ (.slice a7 (j + 1) c7)) wr.heap.size 57 #[.string x.own.name, .int .u8 x.own.kind, .bool x.own.down, .int .u8 x.own.nulls, .bool x.own.bnd, .bool x.own.ln, .string x.own.lm, .bool x.own.hn, .string x.own.hm, .int .i64 x.own.most, .int .i64 x.own.str, .bool x.own.shf, .bool x.own.bck, .slice aj x.fields.length cj] := hX6.other (p := ⟨w.heap.size + 1 + 1, 5, none⟩) (by show wr.heap.size ≠ w.heap.size + 1 + 1; have := HLE.out; omega) _
          have hss : (w6.setCell ⟨w.heap.size + 1 + 1, 5, none⟩ (.slice a7 (j + 1) c7)).heap.size = w6.heap.size := by simp [World.setCell]
          have hit7 : PItm (w.heap.size + 1 + 1 + 1) (w6.setCell ⟨w.heap.size + 1 + 1, 5, none⟩ (.slice a7 (j + 1) c7)) (.slice a7 (j + 1) c7) (lstL (l.take j) ++ [q]) := hit6.keep (fun b q1 q2 => Below.heap_setCell _ _ _ b (by show b ≠ w.heap.size + 1 + 1; omega)) (by rw [hss]; exact Nat.le_refl _)
          have hb7 : Below w.heap.size w (w6.setCell ⟨w.heap.size + 1 + 1, 5, none⟩ (.slice a7 (j + 1) c7)) := ((hbw1.trans (hb4.mono hbw1.size)).trans (hb6.mono (by omega))).setCell (p := ⟨w.heap.size + 1 + 1, 5, none⟩) (by show w.heap.size ≤ w.heap.size + 1 + 1; omega) _
          have HLE7 : Hid ((w.heap.size + 1 + 1 + 1) ≤ (w6.setCell ⟨w.heap.size + 1 + 1, 5, none⟩ (.slice a7 (j + 1) c7)).heap.size) := by
            show _ ≤ _
            rw [hss]
            have := HLE.out
            have := hb6.size
            have := HZ4.out
            have := HZ1.out
            omega
          refine wpAnyH_ready (rs := [7]) (by kernel_rfl) (by simp) ?_
          refine AllReadyH.cons rfl (fun K hK => ?_) AllReadyH.nil
          go_simp
          refine hK.out _ _ hX7 (fun hs6 => ?_)
          clear hK K
          try simp only [Act.put, List.setIfInBounds_toArray, List.set_cons_zero, List.set_cons_succ]
          refine wpAnyH_done (by kernel_rfl) ?_ _
          rw [← HTK.out] at hit7
          have HB0' : Hid _ := hBa7
          have HB1' : Hid _ := hBr7
          have HB2' : Hid _ := hBp7
          generalize (w6.setCell ⟨w.heap.size + 1 + 1, 5, none⟩ (.slice a7 (j + 1) c7)) = w7 at *
          clear HI4 HP4 HZ4 hit6 hb6 hblk6 hX6 hX7 hX4 hX5 hBp6 hBr6 hBa6 hBp7 hBr7 hBa7 z5 z6 hss hpx hq5 hb5 q5b hb4 hcall
          go_wp2_with fail
          go_roundw
          case rel => exact ⟨j + 1, a7, c7, hlt, by simp, hit7, HB0', HB1', HB2', hb7, HLE7⟩
          case measure => simp only [intOf]; omega
    · have hjn : j = ln := by omega
      have HIT : Hid (PItm (w.heap.size + 1 + 1 + 1) wr (.slice a6 j c6) (lstL l)) := by
        have e : l.take j = l := List.take_of_length_le (by rw [HLN.out]; omega)
        rw [e] at hit; exact hit
      have hBq := HB2.out
      have hBr := HB1.out
      obtain ⟨d0, d1, d2, d3, d4, d5⟩ := Blk.c6 hBq
      obtain ⟨e0, e1, e2, e3, e4, e5⟩ := Blk.c6 hBr
      have f0 := Blk.frozen hBr 0
      have f1 := Blk.frozen hBr 1
      have f2 := Blk.frozen hBr 2
      have f3 := Blk.frozen hBr 3
      have f4 := Blk.frozen hBr 4
      have f5 := Blk.frozen hBr 5
      have hfin := Blk.set6 hBr (.int .u8 7) (.bool false) (.bool false) (.string ⟨#[]⟩) (.string ⟨#[]⟩) (.slice a6 j c6)
      have hbw := set6_below hb (show w.heap.size ≤ w.heap.size + 1 by omega) 0 (.int .u8 7) (.bool false) (.bool false) (.string ⟨#[]⟩) (.string ⟨#[]⟩) (.slice a6 j c6)
      have hPin : PIn (set6 wr (w.heap.size + 1) 0 (.int .u8 7) (.bool false) (.bool false) (.string ⟨#[]⟩) (.string ⟨#[]⟩) (.slice a6 j c6)) w.heap.size (set6 wr (w.heap.size + 1) 0 (.int .u8 7) (.bool false) (.bool false) (.string ⟨#[]⟩) (.string ⟨#[]⟩) (.slice a6 j c6)).heap.size (tupP (lstL l)) a6 := by
        rw [set6_size]
        exact (HIT.out.pin.keep' (fun b h1 h2 => set6_other (by omega))).mono (Nat.le_refl _) (by omega)
      have HPin : Hid _ := hPin
      have HLL : Hid (j = (lstL l).length) := by show _ = _; rw [lstL_len, HLN.out]; exact hjn
      clear hit HIT HB0 HB1 HB2 hBq hBr ih hPin hjn
      go_wp2_with fail
      refine bodyPost_ret (res54_run (b := w.heap.size + 1) hfin rfl) rfl ?_
      refine ⟨a6, c6, ?_, HPin.out, hbw⟩
      rw [HLL.out]
      rfl
end Go.Proofs.YtkjoomdglealmaaGreatDoor
