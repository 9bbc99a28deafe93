/- What order.Field does at two numbers, and at null and a number (contracts; nothing is claimed here). -/
import Derived.Test.YtkjoomdglealmaaGreatDoorJ20
import Derived.Test.YtkjoomdglealmaaGreatDoorJ15
import Derived.BigQuiet
namespace Go.Proofs.YtkjoomdglealmaaGreatDoor
open Go.RowKit Go.Vf

theorem taNumF (b : Bool) (m : ByteArray) (w : World) : (Instr.typeAssert (.iface 130 (.agg #[.bool b, .string m])) 37 203 false).run Tryz.prog w = .ok (.iface 130 (.agg #[.bool b, .string m])) w := by kernel_rfl
set_option maxHeartbeats 2000000 in
theorem numbersStand_any (ba : Bool) (ma : ByteArray) (bb : Bool) (mb : ByteArray) (ha : ma.size ≤ 17179869184) (hb : mb.size ≤ 17179869184) (h1 : chk ba ma.data.toList = 0) (h2 : chk bb mb.data.toList = 0) (w : World) :
    Calls Tryz.prog 132 #[.agg #[.bool ba, .string ma], .agg #[.bool bb, .string mb]] w fun e w' => e = .returned (.int .i64 (cmpN ba ma.data.toList bb mb.data.toList)) ∧ Below w.heap.size w w' := by
  have hb1 := (Below.refl w.heap.size w).alloc (Nat.le_refl _) (.cells #[.bool ba, .string ma] 27)
  have hA1 := Blk.new w 27 #[.bool ba, .string ma]
  have hs1 := alloc_size w (.cells #[.bool ba, .string ma] 27)
  have hb12 := (Below.refl _ (w.alloc (.cells #[.bool ba, .string ma] 27))).alloc (Nat.le_refl _) (.cells #[.bool bb, .string mb] 27)
  have hB2 := Blk.new (w.alloc (.cells #[.bool ba, .string ma] 27)) 27 #[.bool bb, .string mb]
  rw [hs1] at hB2
  have hA2 := hA1.old hb12
  have hb2 := hb1.trans (hb12.mono hb1.size)
  have hcc : ∀ W : World, Calls Tryz.prog 146 #[.agg #[.bool ba, .string ma], .agg #[.bool bb, .string mb]] W fun e w' => e = .returned (.tuple #[.int .i64 (cmpN ba ma.data.toList bb mb.data.toList), .int .i64 0]) ∧ Below W.heap.size W w' := fun W => by
    have hc := compare_any ba ma bb mb ha hb W
    unfold compE numV at hc
    rw [if_neg (by simp [h1]), if_neg (by simp [h2])] at hc
    exact hc
  generalize cmpN ba ma.data.toList bb mb.data.toList = z at hcc ⊢
  go_enter Tryz.func132, Tryz.ntmps132
  go_upto_region 1 with fail
  generalize (w.alloc (.cells #[.bool ba, .string ma] 27)).alloc (.cells #[.bool bb, .string mb] 27) = w2 at *
  have hc := hcc w2
  clear hcc
  have a0 : w2.cell? ⟨w.heap.size, 0, none⟩ = some (.bool ba) := hA2.cell 0
  have a1 : w2.cell? ⟨w.heap.size, 1, none⟩ = some (.string ma) := hA2.cell 1
  have b0 : w2.cell? ⟨w.heap.size + 1, 0, none⟩ = some (.bool bb) := hB2.cell 0
  have b1 : w2.cell? ⟨w.heap.size + 1, 1, none⟩ = some (.string mb) := hB2.cell 1
  clear hb1 hA1 hs1 hb12 hA2 hB2 h1 h2
  go_wp2_with fail
  refine hc.mono ?_
  rintro _ w3 ⟨rfl, hb3⟩
  have hb03 := hb2.trans (hb3.mono hb2.size)
  clear hc
  go_wp2_with fail
  go_ret
  exact ⟨rfl, hb03⟩
set_option maxHeartbeats 4000000 in
set_option maxRecDepth 20000 in
theorem kindStands_num (tb : Value) (ob : Go.Vf.Own) (a : Option Addr) (n c : Nat) (ba : Bool) (ma : ByteArray) (bb : Bool) (mb : ByteArray) (ha : ma.size ≤ 17179869184) (hb : mb.size ≤ 17179869184) (h1 : chk ba ma.data.toList = 0) (h2 : chk bb mb.data.toList = 0) (w : World) :
    Calls Tryz.prog 95 #[tb, .agg #[.string ob.name, .int .u8 ob.kind, .bool ob.down, .int .u8 ob.nulls, .bool ob.bnd, .bool ob.ln, .string ob.lm, .bool ob.hn, .string ob.hm, .int .i64 ob.most, .int .i64 ob.str, .bool ob.shf, .bool ob.bck, .slice a n c], .iface 130 (.agg #[.bool ba, .string ma]), .iface 130 (.agg #[.bool bb, .string mb])] w fun e w' => e = .returned (.int .i64 (cmpN ba ma.data.toList bb mb.data.toList)) ∧ Below w.heap.size w w' := by
  have hb1 := (Below.refl w.heap.size w).alloc (Nat.le_refl _) (.cells #[.string ob.name, .int .u8 ob.kind, .bool ob.down, .int .u8 ob.nulls, .bool ob.bnd, .bool ob.ln, .string ob.lm, .bool ob.hn, .string ob.hm, .int .i64 ob.most, .int .i64 ob.str, .bool ob.shf, .bool ob.bck, .slice a n c] 57)
  have hta := taNumN ba ma
  have htf := taNumF bb mb
  have hmn := mNumN ba ma
  have hmm := mNumN bb mb
  have hns := fun W => numbersStand_any ba ma bb mb ha hb h1 h2 W
  generalize cmpN ba ma.data.toList bb mb.data.toList = z at hns ⊢
  clear h1 h2
  go_enter Tryz.func95, Tryz.ntmps95
  go_upto_region 4 with fail
  generalize w.alloc (.cells #[.string ob.name, .int .u8 ob.kind, .bool ob.down, .int .u8 ob.nulls, .bool ob.bnd, .bool ob.ln, .string ob.lm, .bool ob.hn, .string ob.hm, .int .i64 ob.most, .int .i64 ob.str, .bool ob.shf, .bool ob.bck, .slice a n c] 57) = w1 at hb1 ⊢
  have HKeep : Hid (∀ x y, Below w1.heap.size w1 x → Below x.heap.size x y → Below w1.heap.size w1 y) := fun x y h1 h2 => h1.trans (h2.mono h1.size)
  refine wp_region_held_drew (S := fun x => Below w1.heap.size w1 x) (by kernel_rfl) ((Below.refl _ _).drew) (fun hHeld => ?_)
  refine wpAnyH_takeD (i := 0) (some 16) (v := .iface 130 (.agg #[.bool ba, .string ma])) rfl rfl (by kernel_rfl) (by kernel_rfl) (by kernel_rfl) (fun _ _ _ h => h) (Or.inl ⟨by kernel_rfl, ?hya0⟩) (by assumption) ?resta0
  case hya0 => (intro zz hSx; (try dsimp only at hSx); go_simp; first | done | with_reducible rfl)
  try simp only [Act.put, List.setIfInBounds_toArray, List.set_cons_zero, List.set_cons_succ]
  refine wpAnyH_takeD (i := 2) (some 18) (v := .iface 130 (.agg #[.bool bb, .string mb])) rfl rfl (by kernel_rfl) (by kernel_rfl) (by kernel_rfl) (fun _ _ _ h => h) (Or.inl ⟨by kernel_rfl, ?hya2⟩) (by assumption) ?resta2
  case hya2 => (intro zz hSx; (try dsimp only at hSx); go_simp; first | done | with_reducible rfl)
  try simp only [Act.put, List.setIfInBounds_toArray, List.set_cons_zero, List.set_cons_succ]
  refine wpAnyH_takeD (i := 3) (some 19) (v := .iface 130 (.agg #[.bool bb, .string mb])) rfl rfl (by kernel_rfl) (by kernel_rfl) (by kernel_rfl) (fun _ _ _ h => h) (Or.inl ⟨by kernel_rfl, ?hya3⟩) (by assumption) ?resta3
  case hya3 => (intro zz hSx; (try dsimp only at hSx); go_simp; first | done | with_reducible rfl)
  try simp only [Act.put, List.setIfInBounds_toArray, List.set_cons_zero, List.set_cons_succ]
  refine wpAnyH_ready (rs := [1]) (by kernel_rfl) (by simp) ?_
  refine AllReadyH.cons rfl (fun K hK => ?_) AllReadyH.nil
  go_simp
  go_wp2_with (go_at_call 342; refine (numNum ba ma _).mono ?_; rintro e y1 ⟨rfl, hy1⟩)
  refine hK.out _ _ (HKeep.out _ _ hHeld hy1) (fun hHeld1 => ?_)
  clear hK K
  try simp only [Act.put, List.setIfInBounds_toArray, List.set_cons_zero, List.set_cons_succ]
  refine wpAnyH_ready (rs := [4]) (by kernel_rfl) (by simp) ?_
  refine AllReadyH.cons rfl (fun K hK => ?_) AllReadyH.nil
  go_simp
  go_wp2_with (go_at_call 342; refine (numNum bb mb _).mono ?_; rintro e y4 ⟨rfl, hy4⟩)
  refine hK.out _ _ (HKeep.out _ _ hHeld1 hy4) (fun hHeld4 => ?_)
  clear hK K
  try simp only [Act.put, List.setIfInBounds_toArray, List.set_cons_zero, List.set_cons_succ]
  refine wpAnyH_ready (rs := [5]) (by kernel_rfl) (by simp) ?_
  refine AllReadyH.cons rfl (fun K hK => ?_) AllReadyH.nil
  go_simp
  go_wp2_with (go_at_call 132; refine (hns _).mono ?_; rintro e y5 ⟨rfl, hy5⟩)
  refine hK.out _ _ (HKeep.out _ _ hHeld4 hy5) (fun hHeld5 => ?_)
  clear hK K
  try simp only [Act.put, List.setIfInBounds_toArray, List.set_cons_zero, List.set_cons_succ]
  refine wpAnyH_takeD (i := 6) (some 8) (v := .int .i64 z) rfl rfl (by kernel_rfl) (by kernel_rfl) (by kernel_rfl) (fun _ _ _ h => h) (Or.inl ⟨by kernel_rfl, ?hyb6⟩) (by assumption) ?restb6
  case hyb6 => (intro zz hSx; (try dsimp only at hSx); go_simp; first | done | with_reducible rfl)
  try simp only [Act.put, List.setIfInBounds_toArray, List.set_cons_zero, List.set_cons_succ]
  refine wpAnyH_done (by kernel_rfl) ?_ _
  have hfin := hb1.trans (hHeld5.mono hb1.size)
  clear hHeld hHeld1 hHeld4 hy1 hy4 hy5 HKeep hns
  go_wp2_with fail
  go_ret
  exact ⟨rfl, hfin⟩
set_option maxHeartbeats 2000000 in
set_option maxRecDepth 20000 in
theorem stand_num (tb : Value) (ob : Go.Vf.Own) (a : Option Addr) (n c : Nat) (ba : Bool) (ma : ByteArray) (bb : Bool) (mb : ByteArray) (z : Int) (hz1 : -1 ≤ z) (hz2 : z ≤ 1) (w : World)
    (hk : ∀ W, Calls Tryz.prog 95 #[tb, .agg #[.string ob.name, .int .u8 ob.kind, .bool ob.down, .int .u8 ob.nulls, .bool ob.bnd, .bool ob.ln, .string ob.lm, .bool ob.hn, .string ob.hm, .int .i64 ob.most, .int .i64 ob.str, .bool ob.shf, .bool ob.bck, .slice a n c], .iface 130 (.agg #[.bool ba, .string ma]), .iface 130 (.agg #[.bool bb, .string mb])] W fun e w' => e = .returned (.int .i64 z) ∧ Below W.heap.size W w') :
    Calls Tryz.prog 63 #[tb, .agg #[.string ob.name, .int .u8 ob.kind, .bool ob.down, .int .u8 ob.nulls, .bool ob.bnd, .bool ob.ln, .string ob.lm, .bool ob.hn, .string ob.hm, .int .i64 ob.most, .int .i64 ob.str, .bool ob.shf, .bool ob.bck, .slice a n c], .iface 130 (.agg #[.bool ba, .string ma]), .iface 130 (.agg #[.bool bb, .string mb])] w fun e w' => e = .returned (.int .i64 (if ob.down then -z else z)) ∧ Below w.heap.size w w' := by
  have hb1 := (Below.refl w.heap.size w).alloc (Nat.le_refl _) (.cells #[.string ob.name, .int .u8 ob.kind, .bool ob.down, .int .u8 ob.nulls, .bool ob.bnd, .bool ob.ln, .string ob.lm, .bool ob.hn, .string ob.hm, .int .i64 ob.most, .int .i64 ob.str, .bool ob.shf, .bool ob.bck, .slice a n c] 57)
  have hN1 := Blk.new w 57 #[.string ob.name, .int .u8 ob.kind, .bool ob.down, .int .u8 ob.nulls, .bool ob.bnd, .bool ob.ln, .string ob.lm, .bool ob.hn, .string ob.hm, .int .i64 ob.most, .int .i64 ob.str, .bool ob.shf, .bool ob.bck, .slice a n c]
  obtain ⟨R, hR⟩ : ∃ R, (if ob.down then -z else z) = R := ⟨_, rfl⟩
  rw [hR]
  have HR : Hid ((if ob.down then -z else z) = R) := hR
  clear hR
  go_enter Tryz.func63, Tryz.ntmps63
  go_upto_region 3 with fail
  generalize w.alloc (.cells #[.string ob.name, .int .u8 ob.kind, .bool ob.down, .int .u8 ob.nulls, .bool ob.bnd, .bool ob.ln, .string ob.lm, .bool ob.hn, .string ob.hm, .int .i64 ob.most, .int .i64 ob.str, .bool ob.shf, .bool ob.bck, .slice a n c] 57) = w1 at *
  obtain ⟨c0, c1, c2, c3, c4, c5, c6, c7, c8, c9, c10, c11, c12, c13⟩ := hN1.c14
  have hk1 := hk w1
  clear hk
  go_wp2_with fail
  refine hk1.mono ?_
  rintro _ w2 ⟨rfl, hb2⟩
  have hb02 := hb1.trans (hb2.mono hb1.size)
  have e2 : w2.cell? ⟨w.heap.size, 2, none⟩ = some (.bool ob.down) := (hN1.old hb2).cell 2
  clear hk1 c0 c1 c2 c3 c4 c5 c6 c7 c8 c9 c10 c11 c12 c13 hN1 hb1 hb2
  cases hd : ob.down with
  | true =>
    rw [hd] at e2
    have hRR : R = -z := by rw [← HR.out, if_pos hd]
    clear HR hd
    go_wp2_with fail
    go_ret
    exact ⟨by rw [hRR]; rfl, hb02⟩
  | false =>
    rw [hd] at e2
    have hRR : R = z := by rw [← HR.out, if_neg (by simp [hd])]
    clear HR hd
    go_wp2_with fail
    go_ret
    exact ⟨by rw [hRR]; rfl, hb02⟩
set_option maxHeartbeats 1000000 in
theorem nullsStand_first (w : World) : Calls Tryz.prog 94 #[.int .u8 1, .bool true, .bool false] w fun e w' => e = .returned (.int .i64 (-1)) ∧ w' = w := by
  go_enter Tryz.func94, Tryz.ntmps94
  go_wp2_with fail
  go_ret
  exact ⟨rfl, rfl⟩
set_option maxHeartbeats 2000000 in
set_option maxRecDepth 20000 in
theorem stand_null (tb : Value) (ob : Go.Vf.Own) (hn : ob.nulls = 1) (a : Option Addr) (n c : Nat) (bb : Bool) (mb : ByteArray) (w : World) :
    Calls Tryz.prog 63 #[tb, .agg #[.string ob.name, .int .u8 ob.kind, .bool ob.down, .int .u8 ob.nulls, .bool ob.bnd, .bool ob.ln, .string ob.lm, .bool ob.hn, .string ob.hm, .int .i64 ob.most, .int .i64 ob.str, .bool ob.shf, .bool ob.bck, .slice a n c], .nilIface, .iface 130 (.agg #[.bool bb, .string mb])] w fun e w' => e = .returned (.int .i64 (-1)) ∧ Below w.heap.size w w' := by
  have hb1 := (Below.refl w.heap.size w).alloc (Nat.le_refl _) (.cells #[.string ob.name, .int .u8 ob.kind, .bool ob.down, .int .u8 ob.nulls, .bool ob.bnd, .bool ob.ln, .string ob.lm, .bool ob.hn, .string ob.hm, .int .i64 ob.most, .int .i64 ob.str, .bool ob.shf, .bool ob.bck, .slice a n c] 57)
  have hN1 := Blk.new w 57 #[.string ob.name, .int .u8 ob.kind, .bool ob.down, .int .u8 ob.nulls, .bool ob.bnd, .bool ob.ln, .string ob.lm, .bool ob.hn, .string ob.hm, .int .i64 ob.most, .int .i64 ob.str, .bool ob.shf, .bool ob.bck, .slice a n c]
  rw [hn] at hb1 hN1 ⊢
  go_enter Tryz.func63, Tryz.ntmps63
  go_upto_region 2 with fail
  generalize w.alloc (.cells #[.string ob.name, .int .u8 ob.kind, .bool ob.down, .int .u8 1, .bool ob.bnd, .bool ob.ln, .string ob.lm, .bool ob.hn, .string ob.hm, .int .i64 ob.most, .int .i64 ob.str, .bool ob.shf, .bool ob.bck, .slice a n c] 57) = w1 at *
  have e3 : w1.cell? ⟨w.heap.size, 3, none⟩ = some (.int .u8 1) := hN1.cell 3
  clear hN1
  go_quiet (first | (go_at_call 94; exact Calls.quiet_of_same (nullsStand_first _)))
  go_wp2_with fail
  go_ret
  exact ⟨rfl, ⟨hb1.os, hb1.tape, hb1.output, hb1.size, hb1.block⟩⟩
theorem res37_run {tmps : Array Value} {w : World} {v2 v3 : Value} (t2 : tmps[8]?.getD undef = v2) (t3 : tmps[9]?.getD undef = v3) : (results Tryz.f37 tmps).run Tryz.prog w = .ok (.tuple #[v2, v3]) w := by
  simp [results, Tryz.results37, go_sem, t2, t3]
set_option maxHeartbeats 2000000 in
set_option maxRecDepth 20000 in
theorem orderField_of (tb : Nat) (ob : Go.Vf.Own) (a : Option Addr) (n c : Nat) (va vb : Value) (z : Int) (w : World)
    (h1 : ∀ W, Below w.heap.size w W → Calls Tryz.prog 20 #[.agg #[.string ob.name, .int .u8 ob.kind, .bool ob.down, .int .u8 ob.nulls, .bool ob.bnd, .bool ob.ln, .string ob.lm, .bool ob.hn, .string ob.hm, .int .i64 ob.most, .int .i64 ob.str, .bool ob.shf, .bool ob.bck, .slice a n c], va] W fun e w' => e = .returned .nilIface ∧ Below W.heap.size W w') (h2 : ∀ W, Below w.heap.size w W → Calls Tryz.prog 20 #[.agg #[.string ob.name, .int .u8 ob.kind, .bool ob.down, .int .u8 ob.nulls, .bool ob.bnd, .bool ob.ln, .string ob.lm, .bool ob.hn, .string ob.hm, .int .i64 ob.most, .int .i64 ob.str, .bool ob.shf, .bool ob.bck, .slice a n c], vb] W fun e w' => e = .returned .nilIface ∧ Below W.heap.size W w')
    (hk : ∀ W, Calls Tryz.prog 63 #[.pointer (some ⟨tb, 0, none⟩), .agg #[.string ob.name, .int .u8 ob.kind, .bool ob.down, .int .u8 ob.nulls, .bool ob.bnd, .bool ob.ln, .string ob.lm, .bool ob.hn, .string ob.hm, .int .i64 ob.most, .int .i64 ob.str, .bool ob.shf, .bool ob.bck, .slice a n c], va, vb] W fun e w' => e = .returned (.int .i64 z) ∧ Below W.heap.size W w') :
    Calls Tryz.prog 37 #[.pointer (some ⟨tb, 0, none⟩), .agg #[.string ob.name, .int .u8 ob.kind, .bool ob.down, .int .u8 ob.nulls, .bool ob.bnd, .bool ob.ln, .string ob.lm, .bool ob.hn, .string ob.hm, .int .i64 ob.most, .int .i64 ob.str, .bool ob.shf, .bool ob.bck, .slice a n c], va, vb] w fun e w' => e = .returned (.tuple #[.int .i64 z, .nilIface]) ∧ Below w.heap.size w w' := by
  have hb1 := (Below.refl w.heap.size w).alloc (Nat.le_refl _) (.cells #[.string ob.name, .int .u8 ob.kind, .bool ob.down, .int .u8 ob.nulls, .bool ob.bnd, .bool ob.ln, .string ob.lm, .bool ob.hn, .string ob.hm, .int .i64 ob.most, .int .i64 ob.str, .bool ob.shf, .bool ob.bck, .slice a n c] 57)
  have hN1 := Blk.new w 57 #[.string ob.name, .int .u8 ob.kind, .bool ob.down, .int .u8 ob.nulls, .bool ob.bnd, .bool ob.ln, .string ob.lm, .bool ob.hn, .string ob.hm, .int .i64 ob.most, .int .i64 ob.str, .bool ob.shf, .bool ob.bck, .slice a n c]
  go_enter Tryz.func37, Tryz.ntmps37
  go_upto_region 3 with fail
  generalize w.alloc (.cells #[.string ob.name, .int .u8 ob.kind, .bool ob.down, .int .u8 ob.nulls, .bool ob.bnd, .bool ob.ln, .string ob.lm, .bool ob.hn, .string ob.hm, .int .i64 ob.most, .int .i64 ob.str, .bool ob.shf, .bool ob.bck, .slice a n c] 57) = w1 at *
  have g1 := h1 w1 hb1
  obtain ⟨c0, c1, c2, c3, c4, c5, c6, c7, c8, c9, c10, c11, c12, c13⟩ := hN1.c14
  go_wp2_with fail
  refine g1.mono ?_
  rintro _ w2 ⟨rfl, hb2⟩
  have hb02 := hb1.trans (hb2.mono hb1.size)
  have hN2 := hN1.old hb2
  have g2 := h2 w2 hb02
  clear g1 c0 c1 c2 c3 c4 c5 c6 c7 c8 c9 c10 c11 c12 c13 hN1 h1 h2
  obtain ⟨c0, c1, c2, c3, c4, c5, c6, c7, c8, c9, c10, c11, c12, c13⟩ := hN2.c14
  go_wp2_with fail
  refine g2.mono ?_
  rintro _ w3 ⟨rfl, hb3⟩
  have hb03 := hb02.trans (hb3.mono hb02.size)
  have hN3 := hN2.old hb3
  have g3 := hk w3
  clear g2 c0 c1 c2 c3 c4 c5 c6 c7 c8 c9 c10 c11 c12 c13 hN2 hk
  obtain ⟨c0, c1, c2, c3, c4, c5, c6, c7, c8, c9, c10, c11, c12, c13⟩ := hN3.c14
  go_wp2_with fail
  refine g3.mono ?_
  rintro _ w4 ⟨rfl, hb4⟩
  have hb04 := hb03.trans (hb4.mono hb03.size)
  clear g3 c0 c1 c2 c3 c4 c5 c6 c7 c8 c9 c10 c11 c12 c13 hN3
  go_wp2_with fail
  exact bodyPost_ret (res37_run rfl rfl) rfl ⟨rfl, hb04⟩
end Go.Proofs.YtkjoomdglealmaaGreatDoor
