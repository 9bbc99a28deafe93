/- What the document's inner of layer 12 does with numbers and bytes (contracts; nothing is claimed here). -/
import Derived.Test.YtkjoomdglealmaaGreatDoorJ28
import Derived.Test.YtkjoomdglealmaaGreatDoorJ20
import Derived.Test.YtkjoomdglealmaaGreatDoorJ16
namespace Go.Proofs.YtkjoomdglealmaaGreatDoor
open Go.RowKit Go.Vf

theorem rutf_any (r : ByteArray) (hr : r.size ≤ 4294967296) (w : World) : Calls Tryz.prog 77 #[.string r] w fun e w' => e = .returned (.int .i64 (utfAt r)) ∧ w = w' := by
  obtain ⟨h1, h2, h3⟩ := (split_bytes r.data.toList).choose_spec.choose_spec
  exact refCheck_any r hr _ _ h1 h2 h3 w

set_option maxHeartbeats 4000000 in
set_option maxRecDepth 20000 in
theorem inn_2n (o : Go.Vf.Own) (l : List Fld) (a pa : Option Addr) (c pc : Nat) (y b : Bool) (m r : ByteArray) (t : List Prt) (w : World) (hb : o.bnd = false) : Calls Tryz.prog 49 #[.agg #[.string o.name, .int .u8 2, .bool o.down, .int .u8 o.nulls, .bool o.bnd, .bool o.ln, .string o.lm, .bool o.hn, .string o.hm, .int .i64 o.most, .int .i64 o.str, .bool o.shf, .bool o.bck, .slice a l.length c], .agg #[.int .u8 2, .bool y, .bool b, .string m, .string r, .slice pa t.length pc]] w (InnPost none w) := by
  have HBD : Hid (o.bnd = false) := hb
  clear hb
  have hb1 := (Below.refl w.heap.size w).alloc (Nat.le_refl _) (.cells #[.string o.name, .int .u8 2, .bool o.down, .int .u8 o.nulls, .bool o.bnd, .bool o.ln, .string o.lm, .bool o.hn, .string o.hm, .int .i64 o.most, .int .i64 o.str, .bool o.shf, .bool o.bck, .slice a l.length c] 57)
  have hs1 := alloc_size w (.cells #[.string o.name, .int .u8 2, .bool o.down, .int .u8 o.nulls, .bool o.bnd, .bool o.ln, .string o.lm, .bool o.hn, .string o.hm, .int .i64 o.most, .int .i64 o.str, .bool o.shf, .bool o.bck, .slice a l.length c] 57)
  have hA1 := Blk.new w 57 #[.string o.name, .int .u8 2, .bool o.down, .int .u8 o.nulls, .bool o.bnd, .bool o.ln, .string o.lm, .bool o.hn, .string o.hm, .int .i64 o.most, .int .i64 o.str, .bool o.shf, .bool o.bck, .slice a l.length c]
  have hb12 := (Below.refl _ (w.alloc (.cells #[.string o.name, .int .u8 2, .bool o.down, .int .u8 o.nulls, .bool o.bnd, .bool o.ln, .string o.lm, .bool o.hn, .string o.hm, .int .i64 o.most, .int .i64 o.str, .bool o.shf, .bool o.bck, .slice a l.length c] 57))).alloc (Nat.le_refl _) (.cells #[.int .u8 2, .bool y, .bool b, .string m, .string r, .slice pa t.length pc] 30)
  have hs2 := alloc_size (w.alloc (.cells #[.string o.name, .int .u8 2, .bool o.down, .int .u8 o.nulls, .bool o.bnd, .bool o.ln, .string o.lm, .bool o.hn, .string o.hm, .int .i64 o.most, .int .i64 o.str, .bool o.shf, .bool o.bck, .slice a l.length c] 57)) (.cells #[.int .u8 2, .bool y, .bool b, .string m, .string r, .slice pa t.length pc] 30)
  have hP2 := Blk.new (w.alloc (.cells #[.string o.name, .int .u8 2, .bool o.down, .int .u8 o.nulls, .bool o.bnd, .bool o.ln, .string o.lm, .bool o.hn, .string o.hm, .int .i64 o.most, .int .i64 o.str, .bool o.shf, .bool o.bck, .slice a l.length c] 57)) 30 #[.int .u8 2, .bool y, .bool b, .string m, .string r, .slice pa t.length pc]
  have hb23 := (Below.refl _ ((w.alloc (.cells #[.string o.name, .int .u8 2, .bool o.down, .int .u8 o.nulls, .bool o.bnd, .bool o.ln, .string o.lm, .bool o.hn, .string o.hm, .int .i64 o.most, .int .i64 o.str, .bool o.shf, .bool o.bck, .slice a l.length c] 57)).alloc (.cells #[.int .u8 2, .bool y, .bool b, .string m, .string r, .slice pa t.length pc] 30))).alloc (Nat.le_refl _) (.cells #[.int .i64 0, .int .i64 0, .slice none 0 0] 47)
  have hR3 := Blk.new ((w.alloc (.cells #[.string o.name, .int .u8 2, .bool o.down, .int .u8 o.nulls, .bool o.bnd, .bool o.ln, .string o.lm, .bool o.hn, .string o.hm, .int .i64 o.most, .int .i64 o.str, .bool o.shf, .bool o.bck, .slice a l.length c] 57)).alloc (.cells #[.int .u8 2, .bool y, .bool b, .string m, .string r, .slice pa t.length pc] 30)) 47 #[.int .i64 0, .int .i64 0, .slice none 0 0]
  have hA3 := (hA1.old hb12).old hb23
  have hP3 := hP2.old hb23
  have hb3 := hb1.trans ((hb12.trans (hb23.mono hb12.size)).mono hb1.size)
  rw [hs1] at hP3 hs2
  rw [hs2] at hR3
  go_enter Tryz.func49, Tryz.ntmps49
  go_upto_region 1 with fail
  generalize (((w.alloc (.cells #[.string o.name, .int .u8 2, .bool o.down, .int .u8 o.nulls, .bool o.bnd, .bool o.ln, .string o.lm, .bool o.hn, .string o.hm, .int .i64 o.most, .int .i64 o.str, .bool o.shf, .bool o.bck, .slice a l.length c] 57)).alloc (.cells #[.int .u8 2, .bool y, .bool b, .string m, .string r, .slice pa t.length pc] 30)).alloc (.cells #[.int .i64 0, .int .i64 0, .slice none 0 0] 47)) = w3 at *
  clear hb1 hb12 hb23 hs1 hs2 hA1 hP2
  obtain ⟨c0, c1, c2, c3, c4, c5, c6, c7, c8, c9, c10, c11, c12, c13⟩ := hA3.c14
  obtain ⟨p0, p1, p2, p3, p4, p5⟩ := hP3.c6
  rw [HBD.out] at c4
  have z0 : w3.cell? ⟨w.heap.size + 1 + 1, 0, none⟩ = some (.int .i64 0) := hR3.cell 0
  have z1 : w3.cell? ⟨w.heap.size + 1 + 1, 1, none⟩ = some (.int .i64 0) := hR3.cell 1
  have z2 : w3.cell? ⟨w.heap.size + 1 + 1, 2, none⟩ = some (.slice none 0 0) := hR3.cell 2
  have f0 := hR3.frozen 0
  have f1 := hR3.frozen 1
  have f2 := hR3.frozen 2
  have hfin := hR3.set3 (.int .i64 0) (.int .i64 0) (.slice none 0 0)
  have hbw := ((hb3.setCell (p := ⟨w.heap.size + 1 + 1, 0, none⟩) (by show w.heap.size ≤ w.heap.size + 1 + 1; omega) (.int .i64 0)).setCell (p := ⟨w.heap.size + 1 + 1, 1, none⟩) (by show w.heap.size ≤ w.heap.size + 1 + 1; omega) (.int .i64 0)).setCell (p := ⟨w.heap.size + 1 + 1, 2, none⟩) (by show w.heap.size ≤ w.heap.size + 1 + 1; omega) (.slice none 0 0)
  clear hA3 hP3 hR3
  clear HBD
  go_wp2_with fail
  refine bodyPost_ret (res49_run (b := w.heap.size + 1 + 1) (v5 := .int .i64 0) hfin rfl rfl) rfl ?_
  exact ⟨hbw, rfl⟩

set_option maxHeartbeats 4000000 in
set_option maxRecDepth 20000 in
theorem inn_2b (o : Go.Vf.Own) (l : List Fld) (a pa : Option Addr) (c pc : Nat) (y b : Bool) (m r : ByteArray) (t : List Prt) (w : World) (hb : o.bnd = true) (hm : m.size ≤ 17179869184) (hl1 : o.lm.size ≤ 17179869184) (hl2 : o.hm.size ≤ 17179869184) (k0 : chk b m.data.toList = 0) (k1 : chk o.ln o.lm.data.toList = 0) (k2 : chk o.hn o.hm.data.toList = 0) : Calls Tryz.prog 49 #[.agg #[.string o.name, .int .u8 2, .bool o.down, .int .u8 o.nulls, .bool o.bnd, .bool o.ln, .string o.lm, .bool o.hn, .string o.hm, .int .i64 o.most, .int .i64 o.str, .bool o.shf, .bool o.bck, .slice a l.length c], .agg #[.int .u8 2, .bool y, .bool b, .string m, .string r, .slice pa t.length pc]] w (InnPost (if oobR o b m then some (123, 0, [], 0) else none) w) := by
  have HBD : Hid (o.bnd = true) := hb
  obtain ⟨L, hL⟩ : ∃ L, cmpN b m.data.toList o.ln o.lm.data.toList = L := ⟨_, rfl⟩
  obtain ⟨G, hG⟩ : ∃ G, cmpN b m.data.toList o.hn o.hm.data.toList = G := ⟨_, rfl⟩
  have hoob : oobR o b m = (decide (L < 0) || decide (0 < G)) := by
    unfold oobR
    rw [hb, cmpN_neg b m.data.toList o.ln o.lm.data.toList, hL, hG, Bool.true_and]
    congr 1
    rw [decide_eq_decide]; omega
  rw [hoob]
  obtain ⟨R, hR⟩ : ∃ R : Bad, (if (decide (L < 0) || decide (0 < G)) = true then some (123, 0, [], 0) else none) = R := ⟨_, rfl⟩
  rw [hR]
  have HR : Hid ((if (decide (L < 0) || decide (0 < G)) = true then some (123, 0, [], 0) else none) = R) := hR
  clear hR
  have hc1 : ∀ W, Calls Tryz.prog 76 #[.agg #[.bool b, .string m], .agg #[.bool o.ln, .string o.lm]] W fun e w' => e = .returned (.tuple #[.int .i64 L, .int .i64 0]) ∧ Below W.heap.size W w' := fun W => by
    have := rcompare_any b m o.ln o.lm hm hl1 W
    rw [compE_0 k0 k1, hL] at this
    exact this
  have hc2 : ∀ W, Calls Tryz.prog 76 #[.agg #[.bool b, .string m], .agg #[.bool o.hn, .string o.hm]] W fun e w' => e = .returned (.tuple #[.int .i64 G, .int .i64 0]) ∧ Below W.heap.size W w' := fun W => by
    have := rcompare_any b m o.hn o.hm hm hl2 W
    rw [compE_0 k0 k2, hG] at this
    exact this
  clear hb hL hG k0 k1 k2 hoob hm hl1 hl2
  have hb1 := (Below.refl w.heap.size w).alloc (Nat.le_refl _) (.cells #[.string o.name, .int .u8 2, .bool o.down, .int .u8 o.nulls, .bool o.bnd, .bool o.ln, .string o.lm, .bool o.hn, .string o.hm, .int .i64 o.most, .int .i64 o.str, .bool o.shf, .bool o.bck, .slice a l.length c] 57)
  have hs1 := alloc_size w (.cells #[.string o.name, .int .u8 2, .bool o.down, .int .u8 o.nulls, .bool o.bnd, .bool o.ln, .string o.lm, .bool o.hn, .string o.hm, .int .i64 o.most, .int .i64 o.str, .bool o.shf, .bool o.bck, .slice a l.length c] 57)
  have hA1 := Blk.new w 57 #[.string o.name, .int .u8 2, .bool o.down, .int .u8 o.nulls, .bool o.bnd, .bool o.ln, .string o.lm, .bool o.hn, .string o.hm, .int .i64 o.most, .int .i64 o.str, .bool o.shf, .bool o.bck, .slice a l.length c]
  have hb12 := (Below.refl _ (w.alloc (.cells #[.string o.name, .int .u8 2, .bool o.down, .int .u8 o.nulls, .bool o.bnd, .bool o.ln, .string o.lm, .bool o.hn, .string o.hm, .int .i64 o.most, .int .i64 o.str, .bool o.shf, .bool o.bck, .slice a l.length c] 57))).alloc (Nat.le_refl _) (.cells #[.int .u8 2, .bool y, .bool b, .string m, .string r, .slice pa t.length pc] 30)
  have hs2 := alloc_size (w.alloc (.cells #[.string o.name, .int .u8 2, .bool o.down, .int .u8 o.nulls, .bool o.bnd, .bool o.ln, .string o.lm, .bool o.hn, .string o.hm, .int .i64 o.most, .int .i64 o.str, .bool o.shf, .bool o.bck, .slice a l.length c] 57)) (.cells #[.int .u8 2, .bool y, .bool b, .string m, .string r, .slice pa t.length pc] 30)
  have hP2 := Blk.new (w.alloc (.cells #[.string o.name, .int .u8 2, .bool o.down, .int .u8 o.nulls, .bool o.bnd, .bool o.ln, .string o.lm, .bool o.hn, .string o.hm, .int .i64 o.most, .int .i64 o.str, .bool o.shf, .bool o.bck, .slice a l.length c] 57)) 30 #[.int .u8 2, .bool y, .bool b, .string m, .string r, .slice pa t.length pc]
  have hb23 := (Below.refl _ ((w.alloc (.cells #[.string o.name, .int .u8 2, .bool o.down, .int .u8 o.nulls, .bool o.bnd, .bool o.ln, .string o.lm, .bool o.hn, .string o.hm, .int .i64 o.most, .int .i64 o.str, .bool o.shf, .bool o.bck, .slice a l.length c] 57)).alloc (.cells #[.int .u8 2, .bool y, .bool b, .string m, .string r, .slice pa t.length pc] 30))).alloc (Nat.le_refl _) (.cells #[.int .i64 0, .int .i64 0, .slice none 0 0] 47)
  have hR3 := Blk.new ((w.alloc (.cells #[.string o.name, .int .u8 2, .bool o.down, .int .u8 o.nulls, .bool o.bnd, .bool o.ln, .string o.lm, .bool o.hn, .string o.hm, .int .i64 o.most, .int .i64 o.str, .bool o.shf, .bool o.bck, .slice a l.length c] 57)).alloc (.cells #[.int .u8 2, .bool y, .bool b, .string m, .string r, .slice pa t.length pc] 30)) 47 #[.int .i64 0, .int .i64 0, .slice none 0 0]
  have hA3 := (hA1.old hb12).old hb23
  have hP3 := hP2.old hb23
  have hb3 := hb1.trans ((hb12.trans (hb23.mono hb12.size)).mono hb1.size)
  rw [hs1] at hP3 hs2
  rw [hs2] at hR3
  go_enter Tryz.func49, Tryz.ntmps49
  go_upto_region 1 with fail
  generalize (((w.alloc (.cells #[.string o.name, .int .u8 2, .bool o.down, .int .u8 o.nulls, .bool o.bnd, .bool o.ln, .string o.lm, .bool o.hn, .string o.hm, .int .i64 o.most, .int .i64 o.str, .bool o.shf, .bool o.bck, .slice a l.length c] 57)).alloc (.cells #[.int .u8 2, .bool y, .bool b, .string m, .string r, .slice pa t.length pc] 30)).alloc (.cells #[.int .i64 0, .int .i64 0, .slice none 0 0] 47)) = w3 at *
  clear hb1 hb12 hb23 hs1 hs2 hA1 hP2
  obtain ⟨c0, c1, c2, c3, c4, c5, c6, c7, c8, c9, c10, c11, c12, c13⟩ := hA3.c14
  obtain ⟨p0, p1, p2, p3, p4, p5⟩ := hP3.c6
  rw [HBD.out] at c4
  clear HBD
  have hd1 := hc1 w3
  clear hc1
  go_wp2_with fail
  refine hd1.mono ?_
  rintro _ w4 ⟨rfl, hb4⟩
  have hb04 := hb3.trans (hb4.mono hb3.size)
  have hA4 := hA3.old hb4
  have hP4 := hP3.old hb4
  have hR4 := hR3.old hb4
  clear c0 c1 c2 c3 c4 c5 c6 c7 c8 c9 c10 c11 c12 c13 p0 p1 p2 p3 p4 p5 hd1 hA3 hP3 hR3 hb4
  obtain ⟨c0, c1, c2, c3, c4, c5, c6, c7, c8, c9, c10, c11, c12, c13⟩ := hA4.c14
  obtain ⟨p0, p1, p2, p3, p4, p5⟩ := hP4.c6
  have hd2 := hc2 w4
  clear hc2
  go_wp2_with fail
  refine hd2.mono ?_
  rintro _ w5 ⟨rfl, hb5⟩
  have hb05 := hb04.trans (hb5.mono hb04.size)
  have hA5 := hA4.old hb5
  have hR5 := hR4.old hb5
  clear c0 c1 c2 c3 c4 c5 c6 c7 c8 c9 c10 c11 c12 c13 p0 p1 p2 p3 p4 p5 hd2 hA4 hP4 hR4 hb5
  obtain ⟨c0, c1, c2, c3, c4, c5, c6, c7, c8, c9, c10, c11, c12, c13⟩ := hA5.c14
  have z0 : w5.cell? ⟨w.heap.size + 1 + 1, 0, none⟩ = some (.int .i64 0) := hR5.cell 0
  have z1 : w5.cell? ⟨w.heap.size + 1 + 1, 1, none⟩ = some (.int .i64 0) := hR5.cell 1
  have z2 : w5.cell? ⟨w.heap.size + 1 + 1, 2, none⟩ = some (.slice none 0 0) := hR5.cell 2
  have f0 := hR5.frozen 0
  have f1 := hR5.frozen 1
  have f2 := hR5.frozen 2
  by_cases h1 : L < 0
  · have t1 : decide (L < 0) = true := decide_eq_true h1
    have hRq : R = some (123, 0, [], 0) := by rw [← HR.out, t1]; rfl
    have hfin := hR5.set3 (.int .i64 123) (.int .i64 0) (.slice none 0 0)
    have hbw := ((hb05.setCell (p := ⟨w.heap.size + 1 + 1, 0, none⟩) (by show w.heap.size ≤ w.heap.size + 1 + 1; omega) (.int .i64 123)).setCell (p := ⟨w.heap.size + 1 + 1, 1, none⟩) (by show w.heap.size ≤ w.heap.size + 1 + 1; omega) (.int .i64 0)).setCell (p := ⟨w.heap.size + 1 + 1, 2, none⟩) (by show w.heap.size ≤ w.heap.size + 1 + 1; omega) (.slice none 0 0)
    clear hA5 hR5 h1 HR
    go_wp2_with fail
    refine bodyPost_ret (res49_run (b := w.heap.size + 1 + 1) (v5 := .int .i64 0) hfin rfl rfl) rfl ?_
    rw [hRq]
    exact ⟨hbw, _, rfl, IOwn.nil _ _⟩

  · have t1 : decide (L < 0) = false := decide_eq_false h1
    by_cases h2 : 0 < G
    · have t2 : decide (0 < G) = true := decide_eq_true h2
      have hRq : R = some (123, 0, [], 0) := by rw [← HR.out, t1, t2]; rfl
      have hfin := hR5.set3 (.int .i64 123) (.int .i64 0) (.slice none 0 0)
      have hbw := ((hb05.setCell (p := ⟨w.heap.size + 1 + 1, 0, none⟩) (by show w.heap.size ≤ w.heap.size + 1 + 1; omega) (.int .i64 123)).setCell (p := ⟨w.heap.size + 1 + 1, 1, none⟩) (by show w.heap.size ≤ w.heap.size + 1 + 1; omega) (.int .i64 0)).setCell (p := ⟨w.heap.size + 1 + 1, 2, none⟩) (by show w.heap.size ≤ w.heap.size + 1 + 1; omega) (.slice none 0 0)
      clear hA5 hR5 h1 h2 HR
      go_wp2_with fail
      refine bodyPost_ret (res49_run (b := w.heap.size + 1 + 1) (v5 := .int .i64 0) hfin rfl rfl) rfl ?_
      rw [hRq]
      exact ⟨hbw, _, rfl, IOwn.nil _ _⟩

    · have t2 : decide (0 < G) = false := decide_eq_false h2
      have hRq : R = none := by rw [← HR.out, t1, t2]; rfl
      have hfin := hR5.set3 (.int .i64 0) (.int .i64 0) (.slice none 0 0)
      have hbw := ((hb05.setCell (p := ⟨w.heap.size + 1 + 1, 0, none⟩) (by show w.heap.size ≤ w.heap.size + 1 + 1; omega) (.int .i64 0)).setCell (p := ⟨w.heap.size + 1 + 1, 1, none⟩) (by show w.heap.size ≤ w.heap.size + 1 + 1; omega) (.int .i64 0)).setCell (p := ⟨w.heap.size + 1 + 1, 2, none⟩) (by show w.heap.size ≤ w.heap.size + 1 + 1; omega) (.slice none 0 0)
      clear hA5 hR5 h1 h2 HR
      go_wp2_with fail
      refine bodyPost_ret (res49_run (b := w.heap.size + 1 + 1) (v5 := .int .i64 0) hfin rfl rfl) rfl ?_
      rw [hRq]
      exact ⟨hbw, rfl⟩


set_option maxHeartbeats 4000000 in
set_option maxRecDepth 20000 in
theorem inn_3 (o : Go.Vf.Own) (l : List Fld) (a pa : Option Addr) (c pc : Nat) (y b : Bool) (m r : ByteArray) (t : List Prt) (w : World) (_hr : r.size ≤ 4294967296) : Calls Tryz.prog 49 #[.agg #[.string o.name, .int .u8 3, .bool o.down, .int .u8 o.nulls, .bool o.bnd, .bool o.ln, .string o.lm, .bool o.hn, .string o.hm, .int .i64 o.most, .int .i64 o.str, .bool o.shf, .bool o.bck, .slice a l.length c], .agg #[.int .u8 3, .bool y, .bool b, .string m, .string r, .slice pa t.length pc]] w (InnPost (bytE (bytR { o with kind := 3 } r.size (utfAt r)) (utfAt r)) w) := by
  obtain ⟨n, hn⟩ : ∃ n, r.size = n := ⟨_, rfl⟩
  obtain ⟨u, hu⟩ : ∃ u, utfAt r = u := ⟨_, rfl⟩
  rw [hu, hn]
  clear hu _hr
  by_cases hq : o.most < (n : Int)
  · have hR : bytR { o with kind := 3 } n u = 124 := by unfold bytR; simp [hq]
    rw [hR, show bytE 124 u = some (124, 0, [], 0) from rfl]
    have t1 : decide (o.most < (n : Int)) = true := decide_eq_true hq
    clear hR hq
    have hb1 := (Below.refl w.heap.size w).alloc (Nat.le_refl _) (.cells #[.string o.name, .int .u8 3, .bool o.down, .int .u8 o.nulls, .bool o.bnd, .bool o.ln, .string o.lm, .bool o.hn, .string o.hm, .int .i64 o.most, .int .i64 o.str, .bool o.shf, .bool o.bck, .slice a l.length c] 57)
    have hs1 := alloc_size w (.cells #[.string o.name, .int .u8 3, .bool o.down, .int .u8 o.nulls, .bool o.bnd, .bool o.ln, .string o.lm, .bool o.hn, .string o.hm, .int .i64 o.most, .int .i64 o.str, .bool o.shf, .bool o.bck, .slice a l.length c] 57)
    have hA1 := Blk.new w 57 #[.string o.name, .int .u8 3, .bool o.down, .int .u8 o.nulls, .bool o.bnd, .bool o.ln, .string o.lm, .bool o.hn, .string o.hm, .int .i64 o.most, .int .i64 o.str, .bool o.shf, .bool o.bck, .slice a l.length c]
    have hb12 := (Below.refl _ (w.alloc (.cells #[.string o.name, .int .u8 3, .bool o.down, .int .u8 o.nulls, .bool o.bnd, .bool o.ln, .string o.lm, .bool o.hn, .string o.hm, .int .i64 o.most, .int .i64 o.str, .bool o.shf, .bool o.bck, .slice a l.length c] 57))).alloc (Nat.le_refl _) (.cells #[.int .u8 3, .bool y, .bool b, .string m, .string r, .slice pa t.length pc] 30)
    have hs2 := alloc_size (w.alloc (.cells #[.string o.name, .int .u8 3, .bool o.down, .int .u8 o.nulls, .bool o.bnd, .bool o.ln, .string o.lm, .bool o.hn, .string o.hm, .int .i64 o.most, .int .i64 o.str, .bool o.shf, .bool o.bck, .slice a l.length c] 57)) (.cells #[.int .u8 3, .bool y, .bool b, .string m, .string r, .slice pa t.length pc] 30)
    have hP2 := Blk.new (w.alloc (.cells #[.string o.name, .int .u8 3, .bool o.down, .int .u8 o.nulls, .bool o.bnd, .bool o.ln, .string o.lm, .bool o.hn, .string o.hm, .int .i64 o.most, .int .i64 o.str, .bool o.shf, .bool o.bck, .slice a l.length c] 57)) 30 #[.int .u8 3, .bool y, .bool b, .string m, .string r, .slice pa t.length pc]
    have hb23 := (Below.refl _ ((w.alloc (.cells #[.string o.name, .int .u8 3, .bool o.down, .int .u8 o.nulls, .bool o.bnd, .bool o.ln, .string o.lm, .bool o.hn, .string o.hm, .int .i64 o.most, .int .i64 o.str, .bool o.shf, .bool o.bck, .slice a l.length c] 57)).alloc (.cells #[.int .u8 3, .bool y, .bool b, .string m, .string r, .slice pa t.length pc] 30))).alloc (Nat.le_refl _) (.cells #[.int .i64 0, .int .i64 0, .slice none 0 0] 47)
    have hR3 := Blk.new ((w.alloc (.cells #[.string o.name, .int .u8 3, .bool o.down, .int .u8 o.nulls, .bool o.bnd, .bool o.ln, .string o.lm, .bool o.hn, .string o.hm, .int .i64 o.most, .int .i64 o.str, .bool o.shf, .bool o.bck, .slice a l.length c] 57)).alloc (.cells #[.int .u8 3, .bool y, .bool b, .string m, .string r, .slice pa t.length pc] 30)) 47 #[.int .i64 0, .int .i64 0, .slice none 0 0]
    have hA3 := (hA1.old hb12).old hb23
    have hP3 := hP2.old hb23
    have hb3 := hb1.trans ((hb12.trans (hb23.mono hb12.size)).mono hb1.size)
    rw [hs1] at hP3 hs2
    rw [hs2] at hR3
    go_enter Tryz.func49, Tryz.ntmps49
    go_upto_region 1 with fail
    generalize (((w.alloc (.cells #[.string o.name, .int .u8 3, .bool o.down, .int .u8 o.nulls, .bool o.bnd, .bool o.ln, .string o.lm, .bool o.hn, .string o.hm, .int .i64 o.most, .int .i64 o.str, .bool o.shf, .bool o.bck, .slice a l.length c] 57)).alloc (.cells #[.int .u8 3, .bool y, .bool b, .string m, .string r, .slice pa t.length pc] 30)).alloc (.cells #[.int .i64 0, .int .i64 0, .slice none 0 0] 47)) = w3 at *
    clear hb1 hb12 hb23 hs1 hs2 hA1 hP2
    obtain ⟨c0, c1, c2, c3, c4, c5, c6, c7, c8, c9, c10, c11, c12, c13⟩ := hA3.c14
    obtain ⟨p0, p1, p2, p3, p4, p5⟩ := hP3.c6
    have hsz := hn
    have z0 : w3.cell? ⟨w.heap.size + 1 + 1, 0, none⟩ = some (.int .i64 0) := hR3.cell 0
    have z1 : w3.cell? ⟨w.heap.size + 1 + 1, 1, none⟩ = some (.int .i64 0) := hR3.cell 1
    have z2 : w3.cell? ⟨w.heap.size + 1 + 1, 2, none⟩ = some (.slice none 0 0) := hR3.cell 2
    have f0 := hR3.frozen 0
    have f1 := hR3.frozen 1
    have f2 := hR3.frozen 2
    have hfin := hR3.set3 (.int .i64 124) (.int .i64 0) (.slice none 0 0)
    have hbw := ((hb3.setCell (p := ⟨w.heap.size + 1 + 1, 0, none⟩) (by show w.heap.size ≤ w.heap.size + 1 + 1; omega) (.int .i64 124)).setCell (p := ⟨w.heap.size + 1 + 1, 1, none⟩) (by show w.heap.size ≤ w.heap.size + 1 + 1; omega) (.int .i64 0)).setCell (p := ⟨w.heap.size + 1 + 1, 2, none⟩) (by show w.heap.size ≤ w.heap.size + 1 + 1; omega) (.slice none 0 0)
    clear hA3 hP3 hR3
    go_wp2_with fail
    refine bodyPost_ret (res49_run (b := w.heap.size + 1 + 1) (v5 := .int .i64 0) hfin rfl rfl) rfl ?_
    exact ⟨hbw, _, rfl, IOwn.nil _ _⟩

  have t1 : decide (o.most < (n : Int)) = false := decide_eq_false hq
  have hR : bytR { o with kind := 3 } n u = 0 := by unfold bytR; simp [hq]
  rw [hR, show bytE 0 u = none from rfl]
  clear hR hq
  have hb1 := (Below.refl w.heap.size w).alloc (Nat.le_refl _) (.cells #[.string o.name, .int .u8 3, .bool o.down, .int .u8 o.nulls, .bool o.bnd, .bool o.ln, .string o.lm, .bool o.hn, .string o.hm, .int .i64 o.most, .int .i64 o.str, .bool o.shf, .bool o.bck, .slice a l.length c] 57)
  have hs1 := alloc_size w (.cells #[.string o.name, .int .u8 3, .bool o.down, .int .u8 o.nulls, .bool o.bnd, .bool o.ln, .string o.lm, .bool o.hn, .string o.hm, .int .i64 o.most, .int .i64 o.str, .bool o.shf, .bool o.bck, .slice a l.length c] 57)
  have hA1 := Blk.new w 57 #[.string o.name, .int .u8 3, .bool o.down, .int .u8 o.nulls, .bool o.bnd, .bool o.ln, .string o.lm, .bool o.hn, .string o.hm, .int .i64 o.most, .int .i64 o.str, .bool o.shf, .bool o.bck, .slice a l.length c]
  have hb12 := (Below.refl _ (w.alloc (.cells #[.string o.name, .int .u8 3, .bool o.down, .int .u8 o.nulls, .bool o.bnd, .bool o.ln, .string o.lm, .bool o.hn, .string o.hm, .int .i64 o.most, .int .i64 o.str, .bool o.shf, .bool o.bck, .slice a l.length c] 57))).alloc (Nat.le_refl _) (.cells #[.int .u8 3, .bool y, .bool b, .string m, .string r, .slice pa t.length pc] 30)
  have hs2 := alloc_size (w.alloc (.cells #[.string o.name, .int .u8 3, .bool o.down, .int .u8 o.nulls, .bool o.bnd, .bool o.ln, .string o.lm, .bool o.hn, .string o.hm, .int .i64 o.most, .int .i64 o.str, .bool o.shf, .bool o.bck, .slice a l.length c] 57)) (.cells #[.int .u8 3, .bool y, .bool b, .string m, .string r, .slice pa t.length pc] 30)
  have hP2 := Blk.new (w.alloc (.cells #[.string o.name, .int .u8 3, .bool o.down, .int .u8 o.nulls, .bool o.bnd, .bool o.ln, .string o.lm, .bool o.hn, .string o.hm, .int .i64 o.most, .int .i64 o.str, .bool o.shf, .bool o.bck, .slice a l.length c] 57)) 30 #[.int .u8 3, .bool y, .bool b, .string m, .string r, .slice pa t.length pc]
  have hb23 := (Below.refl _ ((w.alloc (.cells #[.string o.name, .int .u8 3, .bool o.down, .int .u8 o.nulls, .bool o.bnd, .bool o.ln, .string o.lm, .bool o.hn, .string o.hm, .int .i64 o.most, .int .i64 o.str, .bool o.shf, .bool o.bck, .slice a l.length c] 57)).alloc (.cells #[.int .u8 3, .bool y, .bool b, .string m, .string r, .slice pa t.length pc] 30))).alloc (Nat.le_refl _) (.cells #[.int .i64 0, .int .i64 0, .slice none 0 0] 47)
  have hR3 := Blk.new ((w.alloc (.cells #[.string o.name, .int .u8 3, .bool o.down, .int .u8 o.nulls, .bool o.bnd, .bool o.ln, .string o.lm, .bool o.hn, .string o.hm, .int .i64 o.most, .int .i64 o.str, .bool o.shf, .bool o.bck, .slice a l.length c] 57)).alloc (.cells #[.int .u8 3, .bool y, .bool b, .string m, .string r, .slice pa t.length pc] 30)) 47 #[.int .i64 0, .int .i64 0, .slice none 0 0]
  have hA3 := (hA1.old hb12).old hb23
  have hP3 := hP2.old hb23
  have hb3 := hb1.trans ((hb12.trans (hb23.mono hb12.size)).mono hb1.size)
  rw [hs1] at hP3 hs2
  rw [hs2] at hR3
  go_enter Tryz.func49, Tryz.ntmps49
  go_upto_region 1 with fail
  generalize (((w.alloc (.cells #[.string o.name, .int .u8 3, .bool o.down, .int .u8 o.nulls, .bool o.bnd, .bool o.ln, .string o.lm, .bool o.hn, .string o.hm, .int .i64 o.most, .int .i64 o.str, .bool o.shf, .bool o.bck, .slice a l.length c] 57)).alloc (.cells #[.int .u8 3, .bool y, .bool b, .string m, .string r, .slice pa t.length pc] 30)).alloc (.cells #[.int .i64 0, .int .i64 0, .slice none 0 0] 47)) = w3 at *
  clear hb1 hb12 hb23 hs1 hs2 hA1 hP2
  obtain ⟨c0, c1, c2, c3, c4, c5, c6, c7, c8, c9, c10, c11, c12, c13⟩ := hA3.c14
  obtain ⟨p0, p1, p2, p3, p4, p5⟩ := hP3.c6
  have hsz := hn
  have z0 : w3.cell? ⟨w.heap.size + 1 + 1, 0, none⟩ = some (.int .i64 0) := hR3.cell 0
  have z1 : w3.cell? ⟨w.heap.size + 1 + 1, 1, none⟩ = some (.int .i64 0) := hR3.cell 1
  have z2 : w3.cell? ⟨w.heap.size + 1 + 1, 2, none⟩ = some (.slice none 0 0) := hR3.cell 2
  have f0 := hR3.frozen 0
  have f1 := hR3.frozen 1
  have f2 := hR3.frozen 2
  have hfin := hR3.set3 (.int .i64 0) (.int .i64 0) (.slice none 0 0)
  have hbw := ((hb3.setCell (p := ⟨w.heap.size + 1 + 1, 0, none⟩) (by show w.heap.size ≤ w.heap.size + 1 + 1; omega) (.int .i64 0)).setCell (p := ⟨w.heap.size + 1 + 1, 1, none⟩) (by show w.heap.size ≤ w.heap.size + 1 + 1; omega) (.int .i64 0)).setCell (p := ⟨w.heap.size + 1 + 1, 2, none⟩) (by show w.heap.size ≤ w.heap.size + 1 + 1; omega) (.slice none 0 0)
  clear hA3 hP3 hR3
  go_wp2_with fail
  refine bodyPost_ret (res49_run (b := w.heap.size + 1 + 1) (v5 := .int .i64 0) hfin rfl rfl) rfl ?_
  exact ⟨hbw, rfl⟩

set_option maxHeartbeats 4000000 in
set_option maxRecDepth 20000 in
theorem inn_5 (o : Go.Vf.Own) (l : List Fld) (a pa : Option Addr) (c pc : Nat) (y b : Bool) (m r : ByteArray) (t : List Prt) (w : World) (hr : r.size ≤ 4294967296) : Calls Tryz.prog 49 #[.agg #[.string o.name, .int .u8 5, .bool o.down, .int .u8 o.nulls, .bool o.bnd, .bool o.ln, .string o.lm, .bool o.hn, .string o.hm, .int .i64 o.most, .int .i64 o.str, .bool o.shf, .bool o.bck, .slice a l.length c], .agg #[.int .u8 5, .bool y, .bool b, .string m, .string r, .slice pa t.length pc]] w (InnPost (bytE (bytR { o with kind := 5 } r.size (utfAt r)) (utfAt r)) w) := by
  obtain ⟨n, hn⟩ : ∃ n, r.size = n := ⟨_, rfl⟩
  obtain ⟨u, hu⟩ : ∃ u, utfAt r = u := ⟨_, rfl⟩
  have hut := fun W => rutf_any r hr W
  rw [hu] at hut
  rw [hu, hn]
  clear hu hr
  by_cases hq : o.most < (n : Int)
  · have hR : bytR { o with kind := 5 } n u = 124 := by unfold bytR; simp [hq]
    rw [hR, show bytE 124 u = some (124, 0, [], 0) from rfl]
    have t1 : decide (o.most < (n : Int)) = true := decide_eq_true hq
    clear hR hq
    clear hut
    have hb1 := (Below.refl w.heap.size w).alloc (Nat.le_refl _) (.cells #[.string o.name, .int .u8 5, .bool o.down, .int .u8 o.nulls, .bool o.bnd, .bool o.ln, .string o.lm, .bool o.hn, .string o.hm, .int .i64 o.most, .int .i64 o.str, .bool o.shf, .bool o.bck, .slice a l.length c] 57)
    have hs1 := alloc_size w (.cells #[.string o.name, .int .u8 5, .bool o.down, .int .u8 o.nulls, .bool o.bnd, .bool o.ln, .string o.lm, .bool o.hn, .string o.hm, .int .i64 o.most, .int .i64 o.str, .bool o.shf, .bool o.bck, .slice a l.length c] 57)
    have hA1 := Blk.new w 57 #[.string o.name, .int .u8 5, .bool o.down, .int .u8 o.nulls, .bool o.bnd, .bool o.ln, .string o.lm, .bool o.hn, .string o.hm, .int .i64 o.most, .int .i64 o.str, .bool o.shf, .bool o.bck, .slice a l.length c]
    have hb12 := (Below.refl _ (w.alloc (.cells #[.string o.name, .int .u8 5, .bool o.down, .int .u8 o.nulls, .bool o.bnd, .bool o.ln, .string o.lm, .bool o.hn, .string o.hm, .int .i64 o.most, .int .i64 o.str, .bool o.shf, .bool o.bck, .slice a l.length c] 57))).alloc (Nat.le_refl _) (.cells #[.int .u8 5, .bool y, .bool b, .string m, .string r, .slice pa t.length pc] 30)
    have hs2 := alloc_size (w.alloc (.cells #[.string o.name, .int .u8 5, .bool o.down, .int .u8 o.nulls, .bool o.bnd, .bool o.ln, .string o.lm, .bool o.hn, .string o.hm, .int .i64 o.most, .int .i64 o.str, .bool o.shf, .bool o.bck, .slice a l.length c] 57)) (.cells #[.int .u8 5, .bool y, .bool b, .string m, .string r, .slice pa t.length pc] 30)
    have hP2 := Blk.new (w.alloc (.cells #[.string o.name, .int .u8 5, .bool o.down, .int .u8 o.nulls, .bool o.bnd, .bool o.ln, .string o.lm, .bool o.hn, .string o.hm, .int .i64 o.most, .int .i64 o.str, .bool o.shf, .bool o.bck, .slice a l.length c] 57)) 30 #[.int .u8 5, .bool y, .bool b, .string m, .string r, .slice pa t.length pc]
    have hb23 := (Below.refl _ ((w.alloc (.cells #[.string o.name, .int .u8 5, .bool o.down, .int .u8 o.nulls, .bool o.bnd, .bool o.ln, .string o.lm, .bool o.hn, .string o.hm, .int .i64 o.most, .int .i64 o.str, .bool o.shf, .bool o.bck, .slice a l.length c] 57)).alloc (.cells #[.int .u8 5, .bool y, .bool b, .string m, .string r, .slice pa t.length pc] 30))).alloc (Nat.le_refl _) (.cells #[.int .i64 0, .int .i64 0, .slice none 0 0] 47)
    have hR3 := Blk.new ((w.alloc (.cells #[.string o.name, .int .u8 5, .bool o.down, .int .u8 o.nulls, .bool o.bnd, .bool o.ln, .string o.lm, .bool o.hn, .string o.hm, .int .i64 o.most, .int .i64 o.str, .bool o.shf, .bool o.bck, .slice a l.length c] 57)).alloc (.cells #[.int .u8 5, .bool y, .bool b, .string m, .string r, .slice pa t.length pc] 30)) 47 #[.int .i64 0, .int .i64 0, .slice none 0 0]
    have hA3 := (hA1.old hb12).old hb23
    have hP3 := hP2.old hb23
    have hb3 := hb1.trans ((hb12.trans (hb23.mono hb12.size)).mono hb1.size)
    rw [hs1] at hP3 hs2
    rw [hs2] at hR3
    go_enter Tryz.func49, Tryz.ntmps49
    go_upto_region 1 with fail
    generalize (((w.alloc (.cells #[.string o.name, .int .u8 5, .bool o.down, .int .u8 o.nulls, .bool o.bnd, .bool o.ln, .string o.lm, .bool o.hn, .string o.hm, .int .i64 o.most, .int .i64 o.str, .bool o.shf, .bool o.bck, .slice a l.length c] 57)).alloc (.cells #[.int .u8 5, .bool y, .bool b, .string m, .string r, .slice pa t.length pc] 30)).alloc (.cells #[.int .i64 0, .int .i64 0, .slice none 0 0] 47)) = w3 at *
    clear hb1 hb12 hb23 hs1 hs2 hA1 hP2
    obtain ⟨c0, c1, c2, c3, c4, c5, c6, c7, c8, c9, c10, c11, c12, c13⟩ := hA3.c14
    obtain ⟨p0, p1, p2, p3, p4, p5⟩ := hP3.c6
    have hsz := hn
    have z0 : w3.cell? ⟨w.heap.size + 1 + 1, 0, none⟩ = some (.int .i64 0) := hR3.cell 0
    have z1 : w3.cell? ⟨w.heap.size + 1 + 1, 1, none⟩ = some (.int .i64 0) := hR3.cell 1
    have z2 : w3.cell? ⟨w.heap.size + 1 + 1, 2, none⟩ = some (.slice none 0 0) := hR3.cell 2
    have f0 := hR3.frozen 0
    have f1 := hR3.frozen 1
    have f2 := hR3.frozen 2
    have hfin := hR3.set3 (.int .i64 124) (.int .i64 0) (.slice none 0 0)
    have hbw := ((hb3.setCell (p := ⟨w.heap.size + 1 + 1, 0, none⟩) (by show w.heap.size ≤ w.heap.size + 1 + 1; omega) (.int .i64 124)).setCell (p := ⟨w.heap.size + 1 + 1, 1, none⟩) (by show w.heap.size ≤ w.heap.size + 1 + 1; omega) (.int .i64 0)).setCell (p := ⟨w.heap.size + 1 + 1, 2, none⟩) (by show w.heap.size ≤ w.heap.size + 1 + 1; omega) (.slice none 0 0)
    clear hA3 hP3 hR3
    go_wp2_with fail
    refine bodyPost_ret (res49_run (b := w.heap.size + 1 + 1) (v5 := .int .i64 0) hfin rfl rfl) rfl ?_
    exact ⟨hbw, _, rfl, IOwn.nil _ _⟩

  have t1 : decide (o.most < (n : Int)) = false := decide_eq_false hq
  by_cases hv : 0 ≤ u
  · have hR : bytR { o with kind := 5 } n u = 125 := by unfold bytR; simp [hv, hq]
    rw [hR, show bytE 125 u = some (125, u, [], 30) from rfl]
    have t2 : decide (0 ≤ u) = true := decide_eq_true hv
    clear hR hq hv
    have hb1 := (Below.refl w.heap.size w).alloc (Nat.le_refl _) (.cells #[.string o.name, .int .u8 5, .bool o.down, .int .u8 o.nulls, .bool o.bnd, .bool o.ln, .string o.lm, .bool o.hn, .string o.hm, .int .i64 o.most, .int .i64 o.str, .bool o.shf, .bool o.bck, .slice a l.length c] 57)
    have hs1 := alloc_size w (.cells #[.string o.name, .int .u8 5, .bool o.down, .int .u8 o.nulls, .bool o.bnd, .bool o.ln, .string o.lm, .bool o.hn, .string o.hm, .int .i64 o.most, .int .i64 o.str, .bool o.shf, .bool o.bck, .slice a l.length c] 57)
    have hA1 := Blk.new w 57 #[.string o.name, .int .u8 5, .bool o.down, .int .u8 o.nulls, .bool o.bnd, .bool o.ln, .string o.lm, .bool o.hn, .string o.hm, .int .i64 o.most, .int .i64 o.str, .bool o.shf, .bool o.bck, .slice a l.length c]
    have hb12 := (Below.refl _ (w.alloc (.cells #[.string o.name, .int .u8 5, .bool o.down, .int .u8 o.nulls, .bool o.bnd, .bool o.ln, .string o.lm, .bool o.hn, .string o.hm, .int .i64 o.most, .int .i64 o.str, .bool o.shf, .bool o.bck, .slice a l.length c] 57))).alloc (Nat.le_refl _) (.cells #[.int .u8 5, .bool y, .bool b, .string m, .string r, .slice pa t.length pc] 30)
    have hs2 := alloc_size (w.alloc (.cells #[.string o.name, .int .u8 5, .bool o.down, .int .u8 o.nulls, .bool o.bnd, .bool o.ln, .string o.lm, .bool o.hn, .string o.hm, .int .i64 o.most, .int .i64 o.str, .bool o.shf, .bool o.bck, .slice a l.length c] 57)) (.cells #[.int .u8 5, .bool y, .bool b, .string m, .string r, .slice pa t.length pc] 30)
    have hP2 := Blk.new (w.alloc (.cells #[.string o.name, .int .u8 5, .bool o.down, .int .u8 o.nulls, .bool o.bnd, .bool o.ln, .string o.lm, .bool o.hn, .string o.hm, .int .i64 o.most, .int .i64 o.str, .bool o.shf, .bool o.bck, .slice a l.length c] 57)) 30 #[.int .u8 5, .bool y, .bool b, .string m, .string r, .slice pa t.length pc]
    have hb23 := (Below.refl _ ((w.alloc (.cells #[.string o.name, .int .u8 5, .bool o.down, .int .u8 o.nulls, .bool o.bnd, .bool o.ln, .string o.lm, .bool o.hn, .string o.hm, .int .i64 o.most, .int .i64 o.str, .bool o.shf, .bool o.bck, .slice a l.length c] 57)).alloc (.cells #[.int .u8 5, .bool y, .bool b, .string m, .string r, .slice pa t.length pc] 30))).alloc (Nat.le_refl _) (.cells #[.int .i64 0, .int .i64 0, .slice none 0 0] 47)
    have hR3 := Blk.new ((w.alloc (.cells #[.string o.name, .int .u8 5, .bool o.down, .int .u8 o.nulls, .bool o.bnd, .bool o.ln, .string o.lm, .bool o.hn, .string o.hm, .int .i64 o.most, .int .i64 o.str, .bool o.shf, .bool o.bck, .slice a l.length c] 57)).alloc (.cells #[.int .u8 5, .bool y, .bool b, .string m, .string r, .slice pa t.length pc] 30)) 47 #[.int .i64 0, .int .i64 0, .slice none 0 0]
    have hA3 := (hA1.old hb12).old hb23
    have hP3 := hP2.old hb23
    have hb3 := hb1.trans ((hb12.trans (hb23.mono hb12.size)).mono hb1.size)
    rw [hs1] at hP3 hs2
    rw [hs2] at hR3
    go_enter Tryz.func49, Tryz.ntmps49
    go_upto_region 1 with fail
    generalize (((w.alloc (.cells #[.string o.name, .int .u8 5, .bool o.down, .int .u8 o.nulls, .bool o.bnd, .bool o.ln, .string o.lm, .bool o.hn, .string o.hm, .int .i64 o.most, .int .i64 o.str, .bool o.shf, .bool o.bck, .slice a l.length c] 57)).alloc (.cells #[.int .u8 5, .bool y, .bool b, .string m, .string r, .slice pa t.length pc] 30)).alloc (.cells #[.int .i64 0, .int .i64 0, .slice none 0 0] 47)) = w3 at *
    clear hb1 hb12 hb23 hs1 hs2 hA1 hP2
    obtain ⟨c0, c1, c2, c3, c4, c5, c6, c7, c8, c9, c10, c11, c12, c13⟩ := hA3.c14
    obtain ⟨p0, p1, p2, p3, p4, p5⟩ := hP3.c6
    have hsz := hn
    have z0 : w3.cell? ⟨w.heap.size + 1 + 1, 0, none⟩ = some (.int .i64 0) := hR3.cell 0
    have z1 : w3.cell? ⟨w.heap.size + 1 + 1, 1, none⟩ = some (.int .i64 0) := hR3.cell 1
    have z2 : w3.cell? ⟨w.heap.size + 1 + 1, 2, none⟩ = some (.slice none 0 0) := hR3.cell 2
    have f0 := hR3.frozen 0
    have f1 := hR3.frozen 1
    have f2 := hR3.frozen 2
    have hd1 := hut w3
    go_wp2_with fail
    refine hd1.mono ?_
    rintro _ w4 ⟨rfl, hw4⟩
    rw [← hw4]
    clear hd1 hut hw4
    have hfin := hR3.set3 (.int .i64 125) (.int .i64 u) (.slice none 0 0)
    have hbw := ((hb3.setCell (p := ⟨w.heap.size + 1 + 1, 0, none⟩) (by show w.heap.size ≤ w.heap.size + 1 + 1; omega) (.int .i64 125)).setCell (p := ⟨w.heap.size + 1 + 1, 1, none⟩) (by show w.heap.size ≤ w.heap.size + 1 + 1; omega) (.int .i64 u)).setCell (p := ⟨w.heap.size + 1 + 1, 2, none⟩) (by show w.heap.size ≤ w.heap.size + 1 + 1; omega) (.slice none 0 0)
    clear hA3 hP3 hR3
    go_wp2_with fail
    refine bodyPost_ret (res49_run (b := w.heap.size + 1 + 1) (v5 := .int .i64 30) hfin rfl rfl) rfl ?_
    exact ⟨hbw, _, rfl, IOwn.nil _ _⟩

  have t2 : decide (0 ≤ u) = false := decide_eq_false hv
  have hR : bytR { o with kind := 5 } n u = 0 := by unfold bytR; simp [hq, hv]
  rw [hR, show bytE 0 u = none from rfl]
  clear hR hq hv
  have hb1 := (Below.refl w.heap.size w).alloc (Nat.le_refl _) (.cells #[.string o.name, .int .u8 5, .bool o.down, .int .u8 o.nulls, .bool o.bnd, .bool o.ln, .string o.lm, .bool o.hn, .string o.hm, .int .i64 o.most, .int .i64 o.str, .bool o.shf, .bool o.bck, .slice a l.length c] 57)
  have hs1 := alloc_size w (.cells #[.string o.name, .int .u8 5, .bool o.down, .int .u8 o.nulls, .bool o.bnd, .bool o.ln, .string o.lm, .bool o.hn, .string o.hm, .int .i64 o.most, .int .i64 o.str, .bool o.shf, .bool o.bck, .slice a l.length c] 57)
  have hA1 := Blk.new w 57 #[.string o.name, .int .u8 5, .bool o.down, .int .u8 o.nulls, .bool o.bnd, .bool o.ln, .string o.lm, .bool o.hn, .string o.hm, .int .i64 o.most, .int .i64 o.str, .bool o.shf, .bool o.bck, .slice a l.length c]
  have hb12 := (Below.refl _ (w.alloc (.cells #[.string o.name, .int .u8 5, .bool o.down, .int .u8 o.nulls, .bool o.bnd, .bool o.ln, .string o.lm, .bool o.hn, .string o.hm, .int .i64 o.most, .int .i64 o.str, .bool o.shf, .bool o.bck, .slice a l.length c] 57))).alloc (Nat.le_refl _) (.cells #[.int .u8 5, .bool y, .bool b, .string m, .string r, .slice pa t.length pc] 30)
  have hs2 := alloc_size (w.alloc (.cells #[.string o.name, .int .u8 5, .bool o.down, .int .u8 o.nulls, .bool o.bnd, .bool o.ln, .string o.lm, .bool o.hn, .string o.hm, .int .i64 o.most, .int .i64 o.str, .bool o.shf, .bool o.bck, .slice a l.length c] 57)) (.cells #[.int .u8 5, .bool y, .bool b, .string m, .string r, .slice pa t.length pc] 30)
  have hP2 := Blk.new (w.alloc (.cells #[.string o.name, .int .u8 5, .bool o.down, .int .u8 o.nulls, .bool o.bnd, .bool o.ln, .string o.lm, .bool o.hn, .string o.hm, .int .i64 o.most, .int .i64 o.str, .bool o.shf, .bool o.bck, .slice a l.length c] 57)) 30 #[.int .u8 5, .bool y, .bool b, .string m, .string r, .slice pa t.length pc]
  have hb23 := (Below.refl _ ((w.alloc (.cells #[.string o.name, .int .u8 5, .bool o.down, .int .u8 o.nulls, .bool o.bnd, .bool o.ln, .string o.lm, .bool o.hn, .string o.hm, .int .i64 o.most, .int .i64 o.str, .bool o.shf, .bool o.bck, .slice a l.length c] 57)).alloc (.cells #[.int .u8 5, .bool y, .bool b, .string m, .string r, .slice pa t.length pc] 30))).alloc (Nat.le_refl _) (.cells #[.int .i64 0, .int .i64 0, .slice none 0 0] 47)
  have hR3 := Blk.new ((w.alloc (.cells #[.string o.name, .int .u8 5, .bool o.down, .int .u8 o.nulls, .bool o.bnd, .bool o.ln, .string o.lm, .bool o.hn, .string o.hm, .int .i64 o.most, .int .i64 o.str, .bool o.shf, .bool o.bck, .slice a l.length c] 57)).alloc (.cells #[.int .u8 5, .bool y, .bool b, .string m, .string r, .slice pa t.length pc] 30)) 47 #[.int .i64 0, .int .i64 0, .slice none 0 0]
  have hA3 := (hA1.old hb12).old hb23
  have hP3 := hP2.old hb23
  have hb3 := hb1.trans ((hb12.trans (hb23.mono hb12.size)).mono hb1.size)
  rw [hs1] at hP3 hs2
  rw [hs2] at hR3
  go_enter Tryz.func49, Tryz.ntmps49
  go_upto_region 1 with fail
  generalize (((w.alloc (.cells #[.string o.name, .int .u8 5, .bool o.down, .int .u8 o.nulls, .bool o.bnd, .bool o.ln, .string o.lm, .bool o.hn, .string o.hm, .int .i64 o.most, .int .i64 o.str, .bool o.shf, .bool o.bck, .slice a l.length c] 57)).alloc (.cells #[.int .u8 5, .bool y, .bool b, .string m, .string r, .slice pa t.length pc] 30)).alloc (.cells #[.int .i64 0, .int .i64 0, .slice none 0 0] 47)) = w3 at *
  clear hb1 hb12 hb23 hs1 hs2 hA1 hP2
  obtain ⟨c0, c1, c2, c3, c4, c5, c6, c7, c8, c9, c10, c11, c12, c13⟩ := hA3.c14
  obtain ⟨p0, p1, p2, p3, p4, p5⟩ := hP3.c6
  have hsz := hn
  have z0 : w3.cell? ⟨w.heap.size + 1 + 1, 0, none⟩ = some (.int .i64 0) := hR3.cell 0
  have z1 : w3.cell? ⟨w.heap.size + 1 + 1, 1, none⟩ = some (.int .i64 0) := hR3.cell 1
  have z2 : w3.cell? ⟨w.heap.size + 1 + 1, 2, none⟩ = some (.slice none 0 0) := hR3.cell 2
  have f0 := hR3.frozen 0
  have f1 := hR3.frozen 1
  have f2 := hR3.frozen 2
  have hd1 := hut w3
  go_wp2_with fail
  refine hd1.mono ?_
  rintro _ w4 ⟨rfl, hw4⟩
  rw [← hw4]
  clear hd1 hut hw4
  have hfin := hR3.set3 (.int .i64 0) (.int .i64 0) (.slice none 0 0)
  have hbw := ((hb3.setCell (p := ⟨w.heap.size + 1 + 1, 0, none⟩) (by show w.heap.size ≤ w.heap.size + 1 + 1; omega) (.int .i64 0)).setCell (p := ⟨w.heap.size + 1 + 1, 1, none⟩) (by show w.heap.size ≤ w.heap.size + 1 + 1; omega) (.int .i64 0)).setCell (p := ⟨w.heap.size + 1 + 1, 2, none⟩) (by show w.heap.size ≤ w.heap.size + 1 + 1; omega) (.slice none 0 0)
  clear hA3 hP3 hR3
  go_wp2_with fail
  refine bodyPost_ret (res49_run (b := w.heap.size + 1 + 1) (v5 := .int .i64 0) hfin rfl rfl) rfl ?_
  exact ⟨hbw, rfl⟩

set_option maxHeartbeats 4000000 in
set_option maxRecDepth 20000 in
theorem inn_6 (o : Go.Vf.Own) (l : List Fld) (a pa : Option Addr) (c pc : Nat) (y b : Bool) (m r : ByteArray) (t : List Prt) (w : World) (hr : r.size ≤ 4294967296) : Calls Tryz.prog 49 #[.agg #[.string o.name, .int .u8 6, .bool o.down, .int .u8 o.nulls, .bool o.bnd, .bool o.ln, .string o.lm, .bool o.hn, .string o.hm, .int .i64 o.most, .int .i64 o.str, .bool o.shf, .bool o.bck, .slice a l.length c], .agg #[.int .u8 6, .bool y, .bool b, .string m, .string r, .slice pa t.length pc]] w (InnPost (bytE (bytR { o with kind := 6 } r.size (utfAt r)) (utfAt r)) w) := by
  obtain ⟨n, hn⟩ : ∃ n, r.size = n := ⟨_, rfl⟩
  obtain ⟨u, hu⟩ : ∃ u, utfAt r = u := ⟨_, rfl⟩
  have hut := fun W => rutf_any r hr W
  rw [hu] at hut
  rw [hu, hn]
  clear hu hr
  by_cases hv : 0 ≤ u
  · have hR : bytR { o with kind := 6 } n u = 125 := by unfold bytR; simp [hv]
    rw [hR, show bytE 125 u = some (125, u, [], 30) from rfl]
    have t2 : decide (0 ≤ u) = true := decide_eq_true hv
    clear hR hv
    have hb1 := (Below.refl w.heap.size w).alloc (Nat.le_refl _) (.cells #[.string o.name, .int .u8 6, .bool o.down, .int .u8 o.nulls, .bool o.bnd, .bool o.ln, .string o.lm, .bool o.hn, .string o.hm, .int .i64 o.most, .int .i64 o.str, .bool o.shf, .bool o.bck, .slice a l.length c] 57)
    have hs1 := alloc_size w (.cells #[.string o.name, .int .u8 6, .bool o.down, .int .u8 o.nulls, .bool o.bnd, .bool o.ln, .string o.lm, .bool o.hn, .string o.hm, .int .i64 o.most, .int .i64 o.str, .bool o.shf, .bool o.bck, .slice a l.length c] 57)
    have hA1 := Blk.new w 57 #[.string o.name, .int .u8 6, .bool o.down, .int .u8 o.nulls, .bool o.bnd, .bool o.ln, .string o.lm, .bool o.hn, .string o.hm, .int .i64 o.most, .int .i64 o.str, .bool o.shf, .bool o.bck, .slice a l.length c]
    have hb12 := (Below.refl _ (w.alloc (.cells #[.string o.name, .int .u8 6, .bool o.down, .int .u8 o.nulls, .bool o.bnd, .bool o.ln, .string o.lm, .bool o.hn, .string o.hm, .int .i64 o.most, .int .i64 o.str, .bool o.shf, .bool o.bck, .slice a l.length c] 57))).alloc (Nat.le_refl _) (.cells #[.int .u8 6, .bool y, .bool b, .string m, .string r, .slice pa t.length pc] 30)
    have hs2 := alloc_size (w.alloc (.cells #[.string o.name, .int .u8 6, .bool o.down, .int .u8 o.nulls, .bool o.bnd, .bool o.ln, .string o.lm, .bool o.hn, .string o.hm, .int .i64 o.most, .int .i64 o.str, .bool o.shf, .bool o.bck, .slice a l.length c] 57)) (.cells #[.int .u8 6, .bool y, .bool b, .string m, .string r, .slice pa t.length pc] 30)
    have hP2 := Blk.new (w.alloc (.cells #[.string o.name, .int .u8 6, .bool o.down, .int .u8 o.nulls, .bool o.bnd, .bool o.ln, .string o.lm, .bool o.hn, .string o.hm, .int .i64 o.most, .int .i64 o.str, .bool o.shf, .bool o.bck, .slice a l.length c] 57)) 30 #[.int .u8 6, .bool y, .bool b, .string m, .string r, .slice pa t.length pc]
    have hb23 := (Below.refl _ ((w.alloc (.cells #[.string o.name, .int .u8 6, .bool o.down, .int .u8 o.nulls, .bool o.bnd, .bool o.ln, .string o.lm, .bool o.hn, .string o.hm, .int .i64 o.most, .int .i64 o.str, .bool o.shf, .bool o.bck, .slice a l.length c] 57)).alloc (.cells #[.int .u8 6, .bool y, .bool b, .string m, .string r, .slice pa t.length pc] 30))).alloc (Nat.le_refl _) (.cells #[.int .i64 0, .int .i64 0, .slice none 0 0] 47)
    have hR3 := Blk.new ((w.alloc (.cells #[.string o.name, .int .u8 6, .bool o.down, .int .u8 o.nulls, .bool o.bnd, .bool o.ln, .string o.lm, .bool o.hn, .string o.hm, .int .i64 o.most, .int .i64 o.str, .bool o.shf, .bool o.bck, .slice a l.length c] 57)).alloc (.cells #[.int .u8 6, .bool y, .bool b, .string m, .string r, .slice pa t.length pc] 30)) 47 #[.int .i64 0, .int .i64 0, .slice none 0 0]
    have hA3 := (hA1.old hb12).old hb23
    have hP3 := hP2.old hb23
    have hb3 := hb1.trans ((hb12.trans (hb23.mono hb12.size)).mono hb1.size)
    rw [hs1] at hP3 hs2
    rw [hs2] at hR3
    go_enter Tryz.func49, Tryz.ntmps49
    go_upto_region 1 with fail
    generalize (((w.alloc (.cells #[.string o.name, .int .u8 6, .bool o.down, .int .u8 o.nulls, .bool o.bnd, .bool o.ln, .string o.lm, .bool o.hn, .string o.hm, .int .i64 o.most, .int .i64 o.str, .bool o.shf, .bool o.bck, .slice a l.length c] 57)).alloc (.cells #[.int .u8 6, .bool y, .bool b, .string m, .string r, .slice pa t.length pc] 30)).alloc (.cells #[.int .i64 0, .int .i64 0, .slice none 0 0] 47)) = w3 at *
    clear hb1 hb12 hb23 hs1 hs2 hA1 hP2
    obtain ⟨c0, c1, c2, c3, c4, c5, c6, c7, c8, c9, c10, c11, c12, c13⟩ := hA3.c14
    obtain ⟨p0, p1, p2, p3, p4, p5⟩ := hP3.c6
    have hsz := hn
    have z0 : w3.cell? ⟨w.heap.size + 1 + 1, 0, none⟩ = some (.int .i64 0) := hR3.cell 0
    have z1 : w3.cell? ⟨w.heap.size + 1 + 1, 1, none⟩ = some (.int .i64 0) := hR3.cell 1
    have z2 : w3.cell? ⟨w.heap.size + 1 + 1, 2, none⟩ = some (.slice none 0 0) := hR3.cell 2
    have f0 := hR3.frozen 0
    have f1 := hR3.frozen 1
    have f2 := hR3.frozen 2
    have hd1 := hut w3
    go_wp2_with fail
    refine hd1.mono ?_
    rintro _ w4 ⟨rfl, hw4⟩
    rw [← hw4]
    clear hd1 hut hw4
    have hfin := hR3.set3 (.int .i64 125) (.int .i64 u) (.slice none 0 0)
    have hbw := ((hb3.setCell (p := ⟨w.heap.size + 1 + 1, 0, none⟩) (by show w.heap.size ≤ w.heap.size + 1 + 1; omega) (.int .i64 125)).setCell (p := ⟨w.heap.size + 1 + 1, 1, none⟩) (by show w.heap.size ≤ w.heap.size + 1 + 1; omega) (.int .i64 u)).setCell (p := ⟨w.heap.size + 1 + 1, 2, none⟩) (by show w.heap.size ≤ w.heap.size + 1 + 1; omega) (.slice none 0 0)
    clear hA3 hP3 hR3
    go_wp2_with fail
    refine bodyPost_ret (res49_run (b := w.heap.size + 1 + 1) (v5 := .int .i64 30) hfin rfl rfl) rfl ?_
    exact ⟨hbw, _, rfl, IOwn.nil _ _⟩

  have t2 : decide (0 ≤ u) = false := decide_eq_false hv
  have hR : bytR { o with kind := 6 } n u = 0 := by unfold bytR; simp [hv]
  rw [hR, show bytE 0 u = none from rfl]
  clear hR hv
  have hb1 := (Below.refl w.heap.size w).alloc (Nat.le_refl _) (.cells #[.string o.name, .int .u8 6, .bool o.down, .int .u8 o.nulls, .bool o.bnd, .bool o.ln, .string o.lm, .bool o.hn, .string o.hm, .int .i64 o.most, .int .i64 o.str, .bool o.shf, .bool o.bck, .slice a l.length c] 57)
  have hs1 := alloc_size w (.cells #[.string o.name, .int .u8 6, .bool o.down, .int .u8 o.nulls, .bool o.bnd, .bool o.ln, .string o.lm, .bool o.hn, .string o.hm, .int .i64 o.most, .int .i64 o.str, .bool o.shf, .bool o.bck, .slice a l.length c] 57)
  have hA1 := Blk.new w 57 #[.string o.name, .int .u8 6, .bool o.down, .int .u8 o.nulls, .bool o.bnd, .bool o.ln, .string o.lm, .bool o.hn, .string o.hm, .int .i64 o.most, .int .i64 o.str, .bool o.shf, .bool o.bck, .slice a l.length c]
  have hb12 := (Below.refl _ (w.alloc (.cells #[.string o.name, .int .u8 6, .bool o.down, .int .u8 o.nulls, .bool o.bnd, .bool o.ln, .string o.lm, .bool o.hn, .string o.hm, .int .i64 o.most, .int .i64 o.str, .bool o.shf, .bool o.bck, .slice a l.length c] 57))).alloc (Nat.le_refl _) (.cells #[.int .u8 6, .bool y, .bool b, .string m, .string r, .slice pa t.length pc] 30)
  have hs2 := alloc_size (w.alloc (.cells #[.string o.name, .int .u8 6, .bool o.down, .int .u8 o.nulls, .bool o.bnd, .bool o.ln, .string o.lm, .bool o.hn, .string o.hm, .int .i64 o.most, .int .i64 o.str, .bool o.shf, .bool o.bck, .slice a l.length c] 57)) (.cells #[.int .u8 6, .bool y, .bool b, .string m, .string r, .slice pa t.length pc] 30)
  have hP2 := Blk.new (w.alloc (.cells #[.string o.name, .int .u8 6, .bool o.down, .int .u8 o.nulls, .bool o.bnd, .bool o.ln, .string o.lm, .bool o.hn, .string o.hm, .int .i64 o.most, .int .i64 o.str, .bool o.shf, .bool o.bck, .slice a l.length c] 57)) 30 #[.int .u8 6, .bool y, .bool b, .string m, .string r, .slice pa t.length pc]
  have hb23 := (Below.refl _ ((w.alloc (.cells #[.string o.name, .int .u8 6, .bool o.down, .int .u8 o.nulls, .bool o.bnd, .bool o.ln, .string o.lm, .bool o.hn, .string o.hm, .int .i64 o.most, .int .i64 o.str, .bool o.shf, .bool o.bck, .slice a l.length c] 57)).alloc (.cells #[.int .u8 6, .bool y, .bool b, .string m, .string r, .slice pa t.length pc] 30))).alloc (Nat.le_refl _) (.cells #[.int .i64 0, .int .i64 0, .slice none 0 0] 47)
  have hR3 := Blk.new ((w.alloc (.cells #[.string o.name, .int .u8 6, .bool o.down, .int .u8 o.nulls, .bool o.bnd, .bool o.ln, .string o.lm, .bool o.hn, .string o.hm, .int .i64 o.most, .int .i64 o.str, .bool o.shf, .bool o.bck, .slice a l.length c] 57)).alloc (.cells #[.int .u8 6, .bool y, .bool b, .string m, .string r, .slice pa t.length pc] 30)) 47 #[.int .i64 0, .int .i64 0, .slice none 0 0]
  have hA3 := (hA1.old hb12).old hb23
  have hP3 := hP2.old hb23
  have hb3 := hb1.trans ((hb12.trans (hb23.mono hb12.size)).mono hb1.size)
  rw [hs1] at hP3 hs2
  rw [hs2] at hR3
  go_enter Tryz.func49, Tryz.ntmps49
  go_upto_region 1 with fail
  generalize (((w.alloc (.cells #[.string o.name, .int .u8 6, .bool o.down, .int .u8 o.nulls, .bool o.bnd, .bool o.ln, .string o.lm, .bool o.hn, .string o.hm, .int .i64 o.most, .int .i64 o.str, .bool o.shf, .bool o.bck, .slice a l.length c] 57)).alloc (.cells #[.int .u8 6, .bool y, .bool b, .string m, .string r, .slice pa t.length pc] 30)).alloc (.cells #[.int .i64 0, .int .i64 0, .slice none 0 0] 47)) = w3 at *
  clear hb1 hb12 hb23 hs1 hs2 hA1 hP2
  obtain ⟨c0, c1, c2, c3, c4, c5, c6, c7, c8, c9, c10, c11, c12, c13⟩ := hA3.c14
  obtain ⟨p0, p1, p2, p3, p4, p5⟩ := hP3.c6
  have hsz := hn
  have z0 : w3.cell? ⟨w.heap.size + 1 + 1, 0, none⟩ = some (.int .i64 0) := hR3.cell 0
  have z1 : w3.cell? ⟨w.heap.size + 1 + 1, 1, none⟩ = some (.int .i64 0) := hR3.cell 1
  have z2 : w3.cell? ⟨w.heap.size + 1 + 1, 2, none⟩ = some (.slice none 0 0) := hR3.cell 2
  have f0 := hR3.frozen 0
  have f1 := hR3.frozen 1
  have f2 := hR3.frozen 2
  have hd1 := hut w3
  go_wp2_with fail
  refine hd1.mono ?_
  rintro _ w4 ⟨rfl, hw4⟩
  rw [← hw4]
  clear hd1 hut hw4
  have hfin := hR3.set3 (.int .i64 0) (.int .i64 0) (.slice none 0 0)
  have hbw := ((hb3.setCell (p := ⟨w.heap.size + 1 + 1, 0, none⟩) (by show w.heap.size ≤ w.heap.size + 1 + 1; omega) (.int .i64 0)).setCell (p := ⟨w.heap.size + 1 + 1, 1, none⟩) (by show w.heap.size ≤ w.heap.size + 1 + 1; omega) (.int .i64 0)).setCell (p := ⟨w.heap.size + 1 + 1, 2, none⟩) (by show w.heap.size ≤ w.heap.size + 1 + 1; omega) (.slice none 0 0)
  clear hA3 hP3 hR3
  go_wp2_with fail
  refine bodyPost_ret (res49_run (b := w.heap.size + 1 + 1) (v5 := .int .i64 0) hfin rfl rfl) rfl ?_
  exact ⟨hbw, rfl⟩
end Go.Proofs.YtkjoomdglealmaaGreatDoor
