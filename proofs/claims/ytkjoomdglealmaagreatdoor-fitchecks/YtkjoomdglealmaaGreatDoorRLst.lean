/- What the document's least of layer 12 does (contracts; nothing is claimed here). -/
import Derived.Test.YtkjoomdglealmaaGreatDoorJ24
namespace Go.Proofs.YtkjoomdglealmaaGreatDoor
open Go.RowKit Go.Vf

theorem res55_run {tmps : Array Value} {w : World} {b : Nat} {a0 a1 a2 a3 a4 a5 : Value} (h : Blk w b 30 #[a0, a1, a2, a3, a4, a5]) (t2 : tmps[2]?.getD undef = .pointer (some ⟨b, 0, none⟩)) :
    (results Tryz.f55 tmps).run Tryz.prog w = .ok (.agg #[a0, a1, a2, a3, a4, a5]) w := by
  obtain ⟨c0, c1, c2, c3, c4, c5⟩ := h.c6
  simp [results, Tryz.results55, go_sem, t2, c0, c1, c2, c3, c4, c5]
def RLeastOk (f : Fld) : Prop := ∀ (a : Option Addr) (c lo n₀ : Nat) (w : World), n₀ ≤ w.heap.size → FIn w lo n₀ f.fields a →
  Calls Tryz.prog 55 #[fV f.own a f.fields.length c] w fun e w' => ∃ ap cp, e = .returned (pV (lst f) ap cp) ∧ PIn w' w.heap.size w'.heap.size (lst f) ap ∧ Below w.heap.size w w'

set_option maxHeartbeats 4000000 in
set_option maxRecDepth 20000 in
theorem rleast_o (o : Go.Vf.Own) (l : List Fld) (h2 : o.kind ≠ 2) (h4 : o.kind ≠ 4) (h7 : o.kind ≠ 7) : RLeastOk (.mk o l) := by
  intro a c lo n₀ w hn₀ hin
  rw [lst_o h2 h4 h7]
  simp only [Fld.own, Fld.fields]
  clear hin
  have hb1 := (Below.refl w.heap.size w).alloc (Nat.le_refl _) (.cells #[.string o.name, .int .u8 o.kind, .bool o.down, .int .u8 o.nulls, .bool o.bnd, .bool o.ln, .string o.lm, .bool o.hn, .string o.hm, .int .i64 o.most, .int .i64 o.str, .bool o.shf, .bool o.bck, .slice a l.length c] 57)
  have hs1 := alloc_size w (.cells #[.string o.name, .int .u8 o.kind, .bool o.down, .int .u8 o.nulls, .bool o.bnd, .bool o.ln, .string o.lm, .bool o.hn, .string o.hm, .int .i64 o.most, .int .i64 o.str, .bool o.shf, .bool o.bck, .slice a l.length c] 57)
  have hA1 := Blk.new w 57 #[.string o.name, .int .u8 o.kind, .bool o.down, .int .u8 o.nulls, .bool o.bnd, .bool o.ln, .string o.lm, .bool o.hn, .string o.hm, .int .i64 o.most, .int .i64 o.str, .bool o.shf, .bool o.bck, .slice a l.length c]
  have hb2 := hb1.alloc hb1.size (.cells #[.int .u8 0, .bool false, .bool false, .string ⟨#[]⟩, .string ⟨#[]⟩, .slice none 0 0] 30)
  have hs2 := alloc_size (w.alloc (.cells #[.string o.name, .int .u8 o.kind, .bool o.down, .int .u8 o.nulls, .bool o.bnd, .bool o.ln, .string o.lm, .bool o.hn, .string o.hm, .int .i64 o.most, .int .i64 o.str, .bool o.shf, .bool o.bck, .slice a l.length c] 57)) (.cells #[.int .u8 0, .bool false, .bool false, .string ⟨#[]⟩, .string ⟨#[]⟩, .slice none 0 0] 30)
  have hb12 := (Below.refl _ (w.alloc (.cells #[.string o.name, .int .u8 o.kind, .bool o.down, .int .u8 o.nulls, .bool o.bnd, .bool o.ln, .string o.lm, .bool o.hn, .string o.hm, .int .i64 o.most, .int .i64 o.str, .bool o.shf, .bool o.bck, .slice a l.length c] 57))).alloc (Nat.le_refl _) (.cells #[.int .u8 0, .bool false, .bool false, .string ⟨#[]⟩, .string ⟨#[]⟩, .slice none 0 0] 30)
  have hZ2 := Blk.new (w.alloc (.cells #[.string o.name, .int .u8 o.kind, .bool o.down, .int .u8 o.nulls, .bool o.bnd, .bool o.ln, .string o.lm, .bool o.hn, .string o.hm, .int .i64 o.most, .int .i64 o.str, .bool o.shf, .bool o.bck, .slice a l.length c] 57)) 30 #[.int .u8 0, .bool false, .bool false, .string ⟨#[]⟩, .string ⟨#[]⟩, .slice none 0 0]
  have hA2 := hA1.old hb12
  have hb3 := hb2.alloc hb2.size (.cells #[.int .u8 o.kind, .bool false, .bool false, .string ⟨#[]⟩, .string ⟨#[]⟩, .slice none 0 0] 30)
  have hs3 := alloc_size ((w.alloc (.cells #[.string o.name, .int .u8 o.kind, .bool o.down, .int .u8 o.nulls, .bool o.bnd, .bool o.ln, .string o.lm, .bool o.hn, .string o.hm, .int .i64 o.most, .int .i64 o.str, .bool o.shf, .bool o.bck, .slice a l.length c] 57)).alloc (.cells #[.int .u8 0, .bool false, .bool false, .string ⟨#[]⟩, .string ⟨#[]⟩, .slice none 0 0] 30)) (.cells #[.int .u8 o.kind, .bool false, .bool false, .string ⟨#[]⟩, .string ⟨#[]⟩, .slice none 0 0] 30)
  have hb23 := (Below.refl _ ((w.alloc (.cells #[.string o.name, .int .u8 o.kind, .bool o.down, .int .u8 o.nulls, .bool o.bnd, .bool o.ln, .string o.lm, .bool o.hn, .string o.hm, .int .i64 o.most, .int .i64 o.str, .bool o.shf, .bool o.bck, .slice a l.length c] 57)).alloc (.cells #[.int .u8 0, .bool false, .bool false, .string ⟨#[]⟩, .string ⟨#[]⟩, .slice none 0 0] 30))).alloc (Nat.le_refl _) (.cells #[.int .u8 o.kind, .bool false, .bool false, .string ⟨#[]⟩, .string ⟨#[]⟩, .slice none 0 0] 30)
  have hP3 := Blk.new ((w.alloc (.cells #[.string o.name, .int .u8 o.kind, .bool o.down, .int .u8 o.nulls, .bool o.bnd, .bool o.ln, .string o.lm, .bool o.hn, .string o.hm, .int .i64 o.most, .int .i64 o.str, .bool o.shf, .bool o.bck, .slice a l.length c] 57)).alloc (.cells #[.int .u8 0, .bool false, .bool false, .string ⟨#[]⟩, .string ⟨#[]⟩, .slice none 0 0] 30)) 30 #[.int .u8 o.kind, .bool false, .bool false, .string ⟨#[]⟩, .string ⟨#[]⟩, .slice none 0 0]
  have hA3 := hA2.old hb23
  have hZ3 := hZ2.old hb23
  rw [hs1] at hZ3 hs2 hZ2
  rw [hs2] at hs3 hP3
  have t1 : decide (o.kind = 2) = false := decide_eq_false h2
  have t2 : decide (o.kind = 4) = false := decide_eq_false h4
  have t3 : decide (o.kind = 7) = false := decide_eq_false h7
  have u1 : (o.kind == 2) = false := by simpa using h2
  have u2 : (o.kind == 4) = false := by simpa using h4
  have u3 : (o.kind == 7) = false := by simpa using h7
  unfold fV
  go_enter Tryz.func55, Tryz.ntmps55
  go_upto_region 2 with fail
  generalize (((w.alloc (.cells #[.string o.name, .int .u8 o.kind, .bool o.down, .int .u8 o.nulls, .bool o.bnd, .bool o.ln, .string o.lm, .bool o.hn, .string o.hm, .int .i64 o.most, .int .i64 o.str, .bool o.shf, .bool o.bck, .slice a l.length c] 57)).alloc (.cells #[.int .u8 0, .bool false, .bool false, .string ⟨#[]⟩, .string ⟨#[]⟩, .slice none 0 0] 30)).alloc (.cells #[.int .u8 o.kind, .bool false, .bool false, .string ⟨#[]⟩, .string ⟨#[]⟩, .slice none 0 0] 30)) = w3 at *
  clear hb1 hb2 hb12 hb23 hs1 hs2 hA1 hA2 hZ2
  obtain ⟨c0, c1, c2, c3, c4, c5, c6, c7, c8, c9, c10, c11, c12, c13⟩ := hA3.c14
  obtain ⟨p0, p1, p2, p3, p4, p5⟩ := hP3.c6
  obtain ⟨z0, z1, z2, z3, z4, z5⟩ := hZ3.c6
  have f0 := hZ3.frozen 0
  have f1 := hZ3.frozen 1
  have f2 := hZ3.frozen 2
  have f3 := hZ3.frozen 3
  have f4 := hZ3.frozen 4
  have f5 := hZ3.frozen 5
  have hZ9 := hZ3
  have hfin := hZ9.set6 (.int .u8 o.kind) (.bool false) (.bool false) (.string ⟨#[]⟩) (.string ⟨#[]⟩) (.slice none 0 0)
  have hbw := set6_below hb3 (show w.heap.size ≤ w.heap.size + 1 by omega) 0 (.int .u8 o.kind) (.bool false) (.bool false) (.string ⟨#[]⟩) (.string ⟨#[]⟩) (.slice none 0 0)
  clear hP3 hZ3 hZ9 hA3 h2 h4 h7
  go_wp2_with fail
  refine wp_loop_rounds 1 ?_
  rw [rounds_succ]
  go_wp2_with fail
  refine bodyPost_ret (res55_run (b := w.heap.size + 1) hfin rfl) rfl ?_
  exact ⟨none, 0, by rw [pV_of], .nil rfl, hbw⟩

set_option maxHeartbeats 4000000 in
set_option maxRecDepth 20000 in
theorem rleast_2n (o : Go.Vf.Own) (l : List Fld) (h2 : o.kind = 2) (hb : o.bnd = false) (hln : o.ln = false) (hlm : o.lm = ⟨#[]⟩) : RLeastOk (.mk o l) := by
  intro a c lo n₀ w hn₀ hin
  rw [lst_2 h2, hln, hlm]
  have HBD : Hid (o.bnd = false) := hb
  clear hln hlm hb
  simp only [Fld.own, Fld.fields]
  clear hin
  unfold fV
  rw [h2]
  have hb1 := (Below.refl w.heap.size w).alloc (Nat.le_refl _) (.cells #[.string o.name, .int .u8 2, .bool o.down, .int .u8 o.nulls, .bool o.bnd, .bool o.ln, .string o.lm, .bool o.hn, .string o.hm, .int .i64 o.most, .int .i64 o.str, .bool o.shf, .bool o.bck, .slice a l.length c] 57)
  have hs1 := alloc_size w (.cells #[.string o.name, .int .u8 2, .bool o.down, .int .u8 o.nulls, .bool o.bnd, .bool o.ln, .string o.lm, .bool o.hn, .string o.hm, .int .i64 o.most, .int .i64 o.str, .bool o.shf, .bool o.bck, .slice a l.length c] 57)
  have hA1 := Blk.new w 57 #[.string o.name, .int .u8 2, .bool o.down, .int .u8 o.nulls, .bool o.bnd, .bool o.ln, .string o.lm, .bool o.hn, .string o.hm, .int .i64 o.most, .int .i64 o.str, .bool o.shf, .bool o.bck, .slice a l.length c]
  have hb2 := hb1.alloc hb1.size (.cells #[.int .u8 0, .bool false, .bool false, .string ⟨#[]⟩, .string ⟨#[]⟩, .slice none 0 0] 30)
  have hs2 := alloc_size (w.alloc (.cells #[.string o.name, .int .u8 2, .bool o.down, .int .u8 o.nulls, .bool o.bnd, .bool o.ln, .string o.lm, .bool o.hn, .string o.hm, .int .i64 o.most, .int .i64 o.str, .bool o.shf, .bool o.bck, .slice a l.length c] 57)) (.cells #[.int .u8 0, .bool false, .bool false, .string ⟨#[]⟩, .string ⟨#[]⟩, .slice none 0 0] 30)
  have hb12 := (Below.refl _ (w.alloc (.cells #[.string o.name, .int .u8 2, .bool o.down, .int .u8 o.nulls, .bool o.bnd, .bool o.ln, .string o.lm, .bool o.hn, .string o.hm, .int .i64 o.most, .int .i64 o.str, .bool o.shf, .bool o.bck, .slice a l.length c] 57))).alloc (Nat.le_refl _) (.cells #[.int .u8 0, .bool false, .bool false, .string ⟨#[]⟩, .string ⟨#[]⟩, .slice none 0 0] 30)
  have hZ2 := Blk.new (w.alloc (.cells #[.string o.name, .int .u8 2, .bool o.down, .int .u8 o.nulls, .bool o.bnd, .bool o.ln, .string o.lm, .bool o.hn, .string o.hm, .int .i64 o.most, .int .i64 o.str, .bool o.shf, .bool o.bck, .slice a l.length c] 57)) 30 #[.int .u8 0, .bool false, .bool false, .string ⟨#[]⟩, .string ⟨#[]⟩, .slice none 0 0]
  have hA2 := hA1.old hb12
  have hb3 := hb2.alloc hb2.size (.cells #[.int .u8 2, .bool false, .bool false, .string ⟨#[]⟩, .string ⟨#[]⟩, .slice none 0 0] 30)
  have hs3 := alloc_size ((w.alloc (.cells #[.string o.name, .int .u8 2, .bool o.down, .int .u8 o.nulls, .bool o.bnd, .bool o.ln, .string o.lm, .bool o.hn, .string o.hm, .int .i64 o.most, .int .i64 o.str, .bool o.shf, .bool o.bck, .slice a l.length c] 57)).alloc (.cells #[.int .u8 0, .bool false, .bool false, .string ⟨#[]⟩, .string ⟨#[]⟩, .slice none 0 0] 30)) (.cells #[.int .u8 2, .bool false, .bool false, .string ⟨#[]⟩, .string ⟨#[]⟩, .slice none 0 0] 30)
  have hb23 := (Below.refl _ ((w.alloc (.cells #[.string o.name, .int .u8 2, .bool o.down, .int .u8 o.nulls, .bool o.bnd, .bool o.ln, .string o.lm, .bool o.hn, .string o.hm, .int .i64 o.most, .int .i64 o.str, .bool o.shf, .bool o.bck, .slice a l.length c] 57)).alloc (.cells #[.int .u8 0, .bool false, .bool false, .string ⟨#[]⟩, .string ⟨#[]⟩, .slice none 0 0] 30))).alloc (Nat.le_refl _) (.cells #[.int .u8 2, .bool false, .bool false, .string ⟨#[]⟩, .string ⟨#[]⟩, .slice none 0 0] 30)
  have hP3 := Blk.new ((w.alloc (.cells #[.string o.name, .int .u8 2, .bool o.down, .int .u8 o.nulls, .bool o.bnd, .bool o.ln, .string o.lm, .bool o.hn, .string o.hm, .int .i64 o.most, .int .i64 o.str, .bool o.shf, .bool o.bck, .slice a l.length c] 57)).alloc (.cells #[.int .u8 0, .bool false, .bool false, .string ⟨#[]⟩, .string ⟨#[]⟩, .slice none 0 0] 30)) 30 #[.int .u8 2, .bool false, .bool false, .string ⟨#[]⟩, .string ⟨#[]⟩, .slice none 0 0]
  have hA3 := hA2.old hb23
  have hZ3 := hZ2.old hb23
  rw [hs1] at hZ3 hs2 hZ2
  rw [hs2] at hs3 hP3
  go_enter Tryz.func55, Tryz.ntmps55
  go_upto_region 2 with fail
  generalize (((w.alloc (.cells #[.string o.name, .int .u8 2, .bool o.down, .int .u8 o.nulls, .bool o.bnd, .bool o.ln, .string o.lm, .bool o.hn, .string o.hm, .int .i64 o.most, .int .i64 o.str, .bool o.shf, .bool o.bck, .slice a l.length c] 57)).alloc (.cells #[.int .u8 0, .bool false, .bool false, .string ⟨#[]⟩, .string ⟨#[]⟩, .slice none 0 0] 30)).alloc (.cells #[.int .u8 2, .bool false, .bool false, .string ⟨#[]⟩, .string ⟨#[]⟩, .slice none 0 0] 30)) = w3 at *
  clear hb1 hb2 hb12 hb23 hs1 hs2 hA1 hA2 hZ2
  obtain ⟨c0, c1, c2, c3, c4, c5, c6, c7, c8, c9, c10, c11, c12, c13⟩ := hA3.c14
  obtain ⟨p0, p1, p2, p3, p4, p5⟩ := hP3.c6
  obtain ⟨z0, z1, z2, z3, z4, z5⟩ := hZ3.c6
  have f0 := hZ3.frozen 0
  have f1 := hZ3.frozen 1
  have f2 := hZ3.frozen 2
  have f3 := hZ3.frozen 3
  have f4 := hZ3.frozen 4
  have f5 := hZ3.frozen 5
  have hZ9 := hZ3
  have hfin := hZ9.set6 (.int .u8 2) (.bool false) (.bool false) (.string ⟨#[]⟩) (.string ⟨#[]⟩) (.slice none 0 0)
  have hbw := set6_below hb3 (show w.heap.size ≤ w.heap.size + 1 by omega) 0 (.int .u8 2) (.bool false) (.bool false) (.string ⟨#[]⟩) (.string ⟨#[]⟩) (.slice none 0 0)
  rw [HBD.out] at c4
  clear hP3 hZ3 hZ9 hA3 h2 HBD
  go_wp2_with fail
  refine wp_loop_rounds 1 ?_
  rw [rounds_succ]
  go_wp2_with fail
  refine bodyPost_ret (res55_run (b := w.heap.size + 1) hfin rfl) rfl ?_
  exact ⟨none, 0, by rw [pV_of], .nil rfl, hbw⟩

set_option maxHeartbeats 4000000 in
set_option maxRecDepth 20000 in
theorem rleast_2b (o : Go.Vf.Own) (l : List Fld) (h2 : o.kind = 2) (hb : o.bnd = true) : RLeastOk (.mk o l) := by
  intro a c lo n₀ w hn₀ hin
  rw [lst_2 h2]
  have HBD : Hid (o.bnd = true) := hb
  clear hb
  simp only [Fld.own, Fld.fields]
  clear hin
  unfold fV
  rw [h2]
  have hb1 := (Below.refl w.heap.size w).alloc (Nat.le_refl _) (.cells #[.string o.name, .int .u8 2, .bool o.down, .int .u8 o.nulls, .bool o.bnd, .bool o.ln, .string o.lm, .bool o.hn, .string o.hm, .int .i64 o.most, .int .i64 o.str, .bool o.shf, .bool o.bck, .slice a l.length c] 57)
  have hs1 := alloc_size w (.cells #[.string o.name, .int .u8 2, .bool o.down, .int .u8 o.nulls, .bool o.bnd, .bool o.ln, .string o.lm, .bool o.hn, .string o.hm, .int .i64 o.most, .int .i64 o.str, .bool o.shf, .bool o.bck, .slice a l.length c] 57)
  have hA1 := Blk.new w 57 #[.string o.name, .int .u8 2, .bool o.down, .int .u8 o.nulls, .bool o.bnd, .bool o.ln, .string o.lm, .bool o.hn, .string o.hm, .int .i64 o.most, .int .i64 o.str, .bool o.shf, .bool o.bck, .slice a l.length c]
  have hb2 := hb1.alloc hb1.size (.cells #[.int .u8 0, .bool false, .bool false, .string ⟨#[]⟩, .string ⟨#[]⟩, .slice none 0 0] 30)
  have hs2 := alloc_size (w.alloc (.cells #[.string o.name, .int .u8 2, .bool o.down, .int .u8 o.nulls, .bool o.bnd, .bool o.ln, .string o.lm, .bool o.hn, .string o.hm, .int .i64 o.most, .int .i64 o.str, .bool o.shf, .bool o.bck, .slice a l.length c] 57)) (.cells #[.int .u8 0, .bool false, .bool false, .string ⟨#[]⟩, .string ⟨#[]⟩, .slice none 0 0] 30)
  have hb12 := (Below.refl _ (w.alloc (.cells #[.string o.name, .int .u8 2, .bool o.down, .int .u8 o.nulls, .bool o.bnd, .bool o.ln, .string o.lm, .bool o.hn, .string o.hm, .int .i64 o.most, .int .i64 o.str, .bool o.shf, .bool o.bck, .slice a l.length c] 57))).alloc (Nat.le_refl _) (.cells #[.int .u8 0, .bool false, .bool false, .string ⟨#[]⟩, .string ⟨#[]⟩, .slice none 0 0] 30)
  have hZ2 := Blk.new (w.alloc (.cells #[.string o.name, .int .u8 2, .bool o.down, .int .u8 o.nulls, .bool o.bnd, .bool o.ln, .string o.lm, .bool o.hn, .string o.hm, .int .i64 o.most, .int .i64 o.str, .bool o.shf, .bool o.bck, .slice a l.length c] 57)) 30 #[.int .u8 0, .bool false, .bool false, .string ⟨#[]⟩, .string ⟨#[]⟩, .slice none 0 0]
  have hA2 := hA1.old hb12
  have hb3 := hb2.alloc hb2.size (.cells #[.int .u8 2, .bool false, .bool false, .string ⟨#[]⟩, .string ⟨#[]⟩, .slice none 0 0] 30)
  have hs3 := alloc_size ((w.alloc (.cells #[.string o.name, .int .u8 2, .bool o.down, .int .u8 o.nulls, .bool o.bnd, .bool o.ln, .string o.lm, .bool o.hn, .string o.hm, .int .i64 o.most, .int .i64 o.str, .bool o.shf, .bool o.bck, .slice a l.length c] 57)).alloc (.cells #[.int .u8 0, .bool false, .bool false, .string ⟨#[]⟩, .string ⟨#[]⟩, .slice none 0 0] 30)) (.cells #[.int .u8 2, .bool false, .bool false, .string ⟨#[]⟩, .string ⟨#[]⟩, .slice none 0 0] 30)
  have hb23 := (Below.refl _ ((w.alloc (.cells #[.string o.name, .int .u8 2, .bool o.down, .int .u8 o.nulls, .bool o.bnd, .bool o.ln, .string o.lm, .bool o.hn, .string o.hm, .int .i64 o.most, .int .i64 o.str, .bool o.shf, .bool o.bck, .slice a l.length c] 57)).alloc (.cells #[.int .u8 0, .bool false, .bool false, .string ⟨#[]⟩, .string ⟨#[]⟩, .slice none 0 0] 30))).alloc (Nat.le_refl _) (.cells #[.int .u8 2, .bool false, .bool false, .string ⟨#[]⟩, .string ⟨#[]⟩, .slice none 0 0] 30)
  have hP3 := Blk.new ((w.alloc (.cells #[.string o.name, .int .u8 2, .bool o.down, .int .u8 o.nulls, .bool o.bnd, .bool o.ln, .string o.lm, .bool o.hn, .string o.hm, .int .i64 o.most, .int .i64 o.str, .bool o.shf, .bool o.bck, .slice a l.length c] 57)).alloc (.cells #[.int .u8 0, .bool false, .bool false, .string ⟨#[]⟩, .string ⟨#[]⟩, .slice none 0 0] 30)) 30 #[.int .u8 2, .bool false, .bool false, .string ⟨#[]⟩, .string ⟨#[]⟩, .slice none 0 0]
  have hA3 := hA2.old hb23
  have hZ3 := hZ2.old hb23
  rw [hs1] at hZ3 hs2 hZ2
  rw [hs2] at hs3 hP3
  go_enter Tryz.func55, Tryz.ntmps55
  go_upto_region 2 with fail
  generalize (((w.alloc (.cells #[.string o.name, .int .u8 2, .bool o.down, .int .u8 o.nulls, .bool o.bnd, .bool o.ln, .string o.lm, .bool o.hn, .string o.hm, .int .i64 o.most, .int .i64 o.str, .bool o.shf, .bool o.bck, .slice a l.length c] 57)).alloc (.cells #[.int .u8 0, .bool false, .bool false, .string ⟨#[]⟩, .string ⟨#[]⟩, .slice none 0 0] 30)).alloc (.cells #[.int .u8 2, .bool false, .bool false, .string ⟨#[]⟩, .string ⟨#[]⟩, .slice none 0 0] 30)) = w3 at *
  clear hb1 hb2 hb12 hb23 hs1 hs2 hA1 hA2 hZ2
  obtain ⟨c0, c1, c2, c3, c4, c5, c6, c7, c8, c9, c10, c11, c12, c13⟩ := hA3.c14
  rw [HBD.out] at c4
  clear HBD
  have g2 : w3.cell? ⟨w.heap.size + 1 + 1, 2, none⟩ = some (.bool false) := hP3.cell 2
  have g3 : w3.cell? ⟨w.heap.size + 1 + 1, 3, none⟩ = some (.string ⟨#[]⟩) := hP3.cell 3
  have g4 : w3.frozen? ⟨w.heap.size + 1 + 1, 2, none⟩ = false := hP3.frozen 2
  have g5 : w3.frozen? ⟨w.heap.size + 1 + 1, 3, none⟩ = false := hP3.frozen 3
  have hA5 : Blk ((w3.setCell ⟨w.heap.size + 1 + 1, 2, none⟩ (.bool o.ln)).setCell ⟨w.heap.size + 1 + 1, 3, none⟩ (.string o.lm)) w.heap.size 57 #[.string o.name, .int .u8 2, .bool o.down, .int .u8 o.nulls, .bool o.bnd, .bool o.ln, .string o.lm, .bool o.hn, .string o.hm, .int .i64 o.most, .int .i64 o.str, .bool o.shf, .bool o.bck, .slice a l.length c] := (hA3.other (p := ⟨w.heap.size + 1 + 1, 2, none⟩) (by show w.heap.size ≠ w.heap.size + 1 + 1; omega) _).other (p := ⟨w.heap.size + 1 + 1, 3, none⟩) (by show w.heap.size ≠ w.heap.size + 1 + 1; omega) _
  have hZ5 : Blk ((w3.setCell ⟨w.heap.size + 1 + 1, 2, none⟩ (.bool o.ln)).setCell ⟨w.heap.size + 1 + 1, 3, none⟩ (.string o.lm)) (w.heap.size + 1) 30 #[.int .u8 0, .bool false, .bool false, .string ⟨#[]⟩, .string ⟨#[]⟩, .slice none 0 0] := (hZ3.other (p := ⟨w.heap.size + 1 + 1, 2, none⟩) (by show w.heap.size + 1 ≠ w.heap.size + 1 + 1; omega) _).other (p := ⟨w.heap.size + 1 + 1, 3, none⟩) (by show w.heap.size + 1 ≠ w.heap.size + 1 + 1; omega) _
  have hP5 : Blk ((w3.setCell ⟨w.heap.size + 1 + 1, 2, none⟩ (.bool o.ln)).setCell ⟨w.heap.size + 1 + 1, 3, none⟩ (.string o.lm)) (w.heap.size + 1 + 1) 30 #[.int .u8 2, .bool false, .bool o.ln, .string o.lm, .string ⟨#[]⟩, .slice none 0 0] := by
    have := (hP3.set 2 (.bool o.ln)).set 3 (.string o.lm)
    simpa using this
  have hb5 : Below w.heap.size w ((w3.setCell ⟨w.heap.size + 1 + 1, 2, none⟩ (.bool o.ln)).setCell ⟨w.heap.size + 1 + 1, 3, none⟩ (.string o.lm)) := (hb3.setCell (p := ⟨w.heap.size + 1 + 1, 2, none⟩) (by show w.heap.size ≤ w.heap.size + 1 + 1; omega) _).setCell (p := ⟨w.heap.size + 1 + 1, 3, none⟩) (by show w.heap.size ≤ w.heap.size + 1 + 1; omega) _
  go_upto_region 4 with fail
  generalize ((w3.setCell ⟨w.heap.size + 1 + 1, 2, none⟩ (.bool o.ln)).setCell ⟨w.heap.size + 1 + 1, 3, none⟩ (.string o.lm)) = w5 at *
  clear c0 c1 c2 c3 c4 c5 c6 c7 c8 c9 c10 c11 c12 c13 g2 g3 g4 g5
  obtain ⟨c0, c1, c2, c3, c4, c5, c6, c7, c8, c9, c10, c11, c12, c13⟩ := hA5.c14
  obtain ⟨p0, p1, p2, p3, p4, p5⟩ := hP5.c6
  obtain ⟨z0, z1, z2, z3, z4, z5⟩ := hZ5.c6
  have f0 := hZ5.frozen 0
  have f1 := hZ5.frozen 1
  have f2 := hZ5.frozen 2
  have f3 := hZ5.frozen 3
  have f4 := hZ5.frozen 4
  have f5 := hZ5.frozen 5
  have hZ9 := hZ5
  have hfin := hZ9.set6 (.int .u8 2) (.bool false) (.bool o.ln) (.string o.lm) (.string ⟨#[]⟩) (.slice none 0 0)
  have hbw := set6_below hb5 (show w.heap.size ≤ w.heap.size + 1 by omega) 0 (.int .u8 2) (.bool false) (.bool o.ln) (.string o.lm) (.string ⟨#[]⟩) (.slice none 0 0)
  clear hP3 hZ3 hZ9 hA3 h2 hP5 hZ5 hA5
  go_wp2_with fail
  refine wp_loop_rounds 1 ?_
  rw [rounds_succ]
  go_wp2_with fail
  refine bodyPost_ret (res55_run (b := w.heap.size + 1) hfin rfl) rfl ?_
  exact ⟨none, 0, by rw [pV_of], .nil rfl, hbw⟩

set_option maxHeartbeats 4000000 in
set_option maxRecDepth 20000 in
theorem rleast_4 (o : Go.Vf.Own) (l : List Fld) (h4 : o.kind = 4) : RLeastOk (.mk o l) := by
  intro a c lo n₀ w hn₀ hin
  rw [lst_4 h4]
  simp only [Fld.own, Fld.fields]
  clear hin
  unfold fV
  rw [h4]
  have hb1 := (Below.refl w.heap.size w).alloc (Nat.le_refl _) (.cells #[.string o.name, .int .u8 4, .bool o.down, .int .u8 o.nulls, .bool o.bnd, .bool o.ln, .string o.lm, .bool o.hn, .string o.hm, .int .i64 o.most, .int .i64 o.str, .bool o.shf, .bool o.bck, .slice a l.length c] 57)
  have hs1 := alloc_size w (.cells #[.string o.name, .int .u8 4, .bool o.down, .int .u8 o.nulls, .bool o.bnd, .bool o.ln, .string o.lm, .bool o.hn, .string o.hm, .int .i64 o.most, .int .i64 o.str, .bool o.shf, .bool o.bck, .slice a l.length c] 57)
  have hA1 := Blk.new w 57 #[.string o.name, .int .u8 4, .bool o.down, .int .u8 o.nulls, .bool o.bnd, .bool o.ln, .string o.lm, .bool o.hn, .string o.hm, .int .i64 o.most, .int .i64 o.str, .bool o.shf, .bool o.bck, .slice a l.length c]
  have hb2 := hb1.alloc hb1.size (.cells #[.int .u8 0, .bool false, .bool false, .string ⟨#[]⟩, .string ⟨#[]⟩, .slice none 0 0] 30)
  have hs2 := alloc_size (w.alloc (.cells #[.string o.name, .int .u8 4, .bool o.down, .int .u8 o.nulls, .bool o.bnd, .bool o.ln, .string o.lm, .bool o.hn, .string o.hm, .int .i64 o.most, .int .i64 o.str, .bool o.shf, .bool o.bck, .slice a l.length c] 57)) (.cells #[.int .u8 0, .bool false, .bool false, .string ⟨#[]⟩, .string ⟨#[]⟩, .slice none 0 0] 30)
  have hb12 := (Below.refl _ (w.alloc (.cells #[.string o.name, .int .u8 4, .bool o.down, .int .u8 o.nulls, .bool o.bnd, .bool o.ln, .string o.lm, .bool o.hn, .string o.hm, .int .i64 o.most, .int .i64 o.str, .bool o.shf, .bool o.bck, .slice a l.length c] 57))).alloc (Nat.le_refl _) (.cells #[.int .u8 0, .bool false, .bool false, .string ⟨#[]⟩, .string ⟨#[]⟩, .slice none 0 0] 30)
  have hZ2 := Blk.new (w.alloc (.cells #[.string o.name, .int .u8 4, .bool o.down, .int .u8 o.nulls, .bool o.bnd, .bool o.ln, .string o.lm, .bool o.hn, .string o.hm, .int .i64 o.most, .int .i64 o.str, .bool o.shf, .bool o.bck, .slice a l.length c] 57)) 30 #[.int .u8 0, .bool false, .bool false, .string ⟨#[]⟩, .string ⟨#[]⟩, .slice none 0 0]
  have hA2 := hA1.old hb12
  have hb3 := hb2.alloc hb2.size (.cells #[.int .u8 4, .bool false, .bool false, .string ⟨#[]⟩, .string ⟨#[]⟩, .slice none 0 0] 30)
  have hs3 := alloc_size ((w.alloc (.cells #[.string o.name, .int .u8 4, .bool o.down, .int .u8 o.nulls, .bool o.bnd, .bool o.ln, .string o.lm, .bool o.hn, .string o.hm, .int .i64 o.most, .int .i64 o.str, .bool o.shf, .bool o.bck, .slice a l.length c] 57)).alloc (.cells #[.int .u8 0, .bool false, .bool false, .string ⟨#[]⟩, .string ⟨#[]⟩, .slice none 0 0] 30)) (.cells #[.int .u8 4, .bool false, .bool false, .string ⟨#[]⟩, .string ⟨#[]⟩, .slice none 0 0] 30)
  have hb23 := (Below.refl _ ((w.alloc (.cells #[.string o.name, .int .u8 4, .bool o.down, .int .u8 o.nulls, .bool o.bnd, .bool o.ln, .string o.lm, .bool o.hn, .string o.hm, .int .i64 o.most, .int .i64 o.str, .bool o.shf, .bool o.bck, .slice a l.length c] 57)).alloc (.cells #[.int .u8 0, .bool false, .bool false, .string ⟨#[]⟩, .string ⟨#[]⟩, .slice none 0 0] 30))).alloc (Nat.le_refl _) (.cells #[.int .u8 4, .bool false, .bool false, .string ⟨#[]⟩, .string ⟨#[]⟩, .slice none 0 0] 30)
  have hP3 := Blk.new ((w.alloc (.cells #[.string o.name, .int .u8 4, .bool o.down, .int .u8 o.nulls, .bool o.bnd, .bool o.ln, .string o.lm, .bool o.hn, .string o.hm, .int .i64 o.most, .int .i64 o.str, .bool o.shf, .bool o.bck, .slice a l.length c] 57)).alloc (.cells #[.int .u8 0, .bool false, .bool false, .string ⟨#[]⟩, .string ⟨#[]⟩, .slice none 0 0] 30)) 30 #[.int .u8 4, .bool false, .bool false, .string ⟨#[]⟩, .string ⟨#[]⟩, .slice none 0 0]
  have hA3 := hA2.old hb23
  have hZ3 := hZ2.old hb23
  rw [hs1] at hZ3 hs2 hZ2
  rw [hs2] at hs3 hP3
  go_enter Tryz.func55, Tryz.ntmps55
  go_upto_region 2 with fail
  generalize (((w.alloc (.cells #[.string o.name, .int .u8 4, .bool o.down, .int .u8 o.nulls, .bool o.bnd, .bool o.ln, .string o.lm, .bool o.hn, .string o.hm, .int .i64 o.most, .int .i64 o.str, .bool o.shf, .bool o.bck, .slice a l.length c] 57)).alloc (.cells #[.int .u8 0, .bool false, .bool false, .string ⟨#[]⟩, .string ⟨#[]⟩, .slice none 0 0] 30)).alloc (.cells #[.int .u8 4, .bool false, .bool false, .string ⟨#[]⟩, .string ⟨#[]⟩, .slice none 0 0] 30)) = w3 at *
  clear hb1 hb2 hb12 hb23 hs1 hs2 hA1 hA2 hZ2
  obtain ⟨c0, c1, c2, c3, c4, c5, c6, c7, c8, c9, c10, c11, c12, c13⟩ := hA3.c14
  have g5 : w3.cell? ⟨w.heap.size + 1 + 1, 4, none⟩ = some (.string ⟨#[]⟩) := hP3.cell 4
  have g6 : w3.frozen? ⟨w.heap.size + 1 + 1, 4, none⟩ = false := hP3.frozen 4
  have hP5 : Blk (w3.setCell ⟨w.heap.size + 1 + 1, 4, none⟩ (.string zer16)) (w.heap.size + 1 + 1) 30 #[.int .u8 4, .bool false, .bool false, .string ⟨#[]⟩, .string zer16, .slice none 0 0] := by
    have := hP3.set 4 (.string zer16)
    simpa using this
  have hZ5 := hZ3.other (p := ⟨w.heap.size + 1 + 1, 4, none⟩) (by show w.heap.size + 1 ≠ w.heap.size + 1 + 1; omega) (.string zer16)
  have hA5 := hA3.other (p := ⟨w.heap.size + 1 + 1, 4, none⟩) (by show w.heap.size ≠ w.heap.size + 1 + 1; omega) (.string zer16)
  have hb5 := hb3.setCell (p := ⟨w.heap.size + 1 + 1, 4, none⟩) (by show w.heap.size ≤ w.heap.size + 1 + 1; omega) (.string zer16)
  unfold zer16 at hP5 hZ5 hA5 hb5
  go_upto_region 6 with fail
  generalize w3.setCell ⟨w.heap.size + 1 + 1, 4, none⟩ (.string ⟨#[0, 0, 0, 0, 0, 0, 0, 0, 0, 0, 0, 0, 0, 0, 0, 0]⟩) = w5 at *
  clear c0 c1 c2 c3 c4 c5 c6 c7 c8 c9 c10 c11 c12 c13 g5 g6
  obtain ⟨c0, c1, c2, c3, c4, c5, c6, c7, c8, c9, c10, c11, c12, c13⟩ := hA5.c14
  obtain ⟨p0, p1, p2, p3, p4, p5⟩ := hP5.c6
  obtain ⟨z0, z1, z2, z3, z4, z5⟩ := hZ5.c6
  have f0 := hZ5.frozen 0
  have f1 := hZ5.frozen 1
  have f2 := hZ5.frozen 2
  have f3 := hZ5.frozen 3
  have f4 := hZ5.frozen 4
  have f5 := hZ5.frozen 5
  have hZ9 := hZ5
  have hfin := hZ9.set6 (.int .u8 4) (.bool false) (.bool false) (.string ⟨#[]⟩) (.string ⟨#[0, 0, 0, 0, 0, 0, 0, 0, 0, 0, 0, 0, 0, 0, 0, 0]⟩) (.slice none 0 0)
  have hbw := set6_below hb5 (show w.heap.size ≤ w.heap.size + 1 by omega) 0 (.int .u8 4) (.bool false) (.bool false) (.string ⟨#[]⟩) (.string ⟨#[0, 0, 0, 0, 0, 0, 0, 0, 0, 0, 0, 0, 0, 0, 0, 0]⟩) (.slice none 0 0)
  clear hP3 hZ3 hZ9 hA3 h4 hP5 hZ5 hA5
  go_wp2_with fail
  refine wp_loop_rounds 1 ?_
  rw [rounds_succ]
  go_wp2_with fail
  refine bodyPost_ret (res55_run (b := w.heap.size + 1) hfin rfl) rfl ?_
  exact ⟨none, 0, rfl, .nil rfl, hbw⟩

set_option maxHeartbeats 4000000 in
set_option maxRecDepth 20000 in
theorem rleast_7 (o : Go.Vf.Own) (l : List Fld) (h7 : o.kind = 7) (hll : l.length ≤ 64) (ih : ∀ x ∈ l, RLeastOk x) : RLeastOk (.mk o l) := by
  intro a c lo n₀ w hn₀ hin
  rw [lst_7 h7]
  simp only [Fld.own, Fld.fields]
  unfold fV
  rw [h7]
  have hb1 := (Below.refl w.heap.size w).alloc (Nat.le_refl _) (.cells #[.string o.name, .int .u8 7, .bool o.down, .int .u8 o.nulls, .bool o.bnd, .bool o.ln, .string o.lm, .bool o.hn, .string o.hm, .int .i64 o.most, .int .i64 o.str, .bool o.shf, .bool o.bck, .slice a l.length c] 57)
  have hs1 := alloc_size w (.cells #[.string o.name, .int .u8 7, .bool o.down, .int .u8 o.nulls, .bool o.bnd, .bool o.ln, .string o.lm, .bool o.hn, .string o.hm, .int .i64 o.most, .int .i64 o.str, .bool o.shf, .bool o.bck, .slice a l.length c] 57)
  have hA1 := Blk.new w 57 #[.string o.name, .int .u8 7, .bool o.down, .int .u8 o.nulls, .bool o.bnd, .bool o.ln, .string o.lm, .bool o.hn, .string o.hm, .int .i64 o.most, .int .i64 o.str, .bool o.shf, .bool o.bck, .slice a l.length c]
  have hb2 := hb1.alloc hb1.size (.cells #[.int .u8 0, .bool false, .bool false, .string ⟨#[]⟩, .string ⟨#[]⟩, .slice none 0 0] 30)
  have hs2 := alloc_size (w.alloc (.cells #[.string o.name, .int .u8 7, .bool o.down, .int .u8 o.nulls, .bool o.bnd, .bool o.ln, .string o.lm, .bool o.hn, .string o.hm, .int .i64 o.most, .int .i64 o.str, .bool o.shf, .bool o.bck, .slice a l.length c] 57)) (.cells #[.int .u8 0, .bool false, .bool false, .string ⟨#[]⟩, .string ⟨#[]⟩, .slice none 0 0] 30)
  have hb12 := (Below.refl _ (w.alloc (.cells #[.string o.name, .int .u8 7, .bool o.down, .int .u8 o.nulls, .bool o.bnd, .bool o.ln, .string o.lm, .bool o.hn, .string o.hm, .int .i64 o.most, .int .i64 o.str, .bool o.shf, .bool o.bck, .slice a l.length c] 57))).alloc (Nat.le_refl _) (.cells #[.int .u8 0, .bool false, .bool false, .string ⟨#[]⟩, .string ⟨#[]⟩, .slice none 0 0] 30)
  have hZ2 := Blk.new (w.alloc (.cells #[.string o.name, .int .u8 7, .bool o.down, .int .u8 o.nulls, .bool o.bnd, .bool o.ln, .string o.lm, .bool o.hn, .string o.hm, .int .i64 o.most, .int .i64 o.str, .bool o.shf, .bool o.bck, .slice a l.length c] 57)) 30 #[.int .u8 0, .bool false, .bool false, .string ⟨#[]⟩, .string ⟨#[]⟩, .slice none 0 0]
  have hA2 := hA1.old hb12
  have hb3 := hb2.alloc hb2.size (.cells #[.int .u8 7, .bool false, .bool false, .string ⟨#[]⟩, .string ⟨#[]⟩, .slice none 0 0] 30)
  have hs3 := alloc_size ((w.alloc (.cells #[.string o.name, .int .u8 7, .bool o.down, .int .u8 o.nulls, .bool o.bnd, .bool o.ln, .string o.lm, .bool o.hn, .string o.hm, .int .i64 o.most, .int .i64 o.str, .bool o.shf, .bool o.bck, .slice a l.length c] 57)).alloc (.cells #[.int .u8 0, .bool false, .bool false, .string ⟨#[]⟩, .string ⟨#[]⟩, .slice none 0 0] 30)) (.cells #[.int .u8 7, .bool false, .bool false, .string ⟨#[]⟩, .string ⟨#[]⟩, .slice none 0 0] 30)
  have hb23 := (Below.refl _ ((w.alloc (.cells #[.string o.name, .int .u8 7, .bool o.down, .int .u8 o.nulls, .bool o.bnd, .bool o.ln, .string o.lm, .bool o.hn, .string o.hm, .int .i64 o.most, .int .i64 o.str, .bool o.shf, .bool o.bck, .slice a l.length c] 57)).alloc (.cells #[.int .u8 0, .bool false, .bool false, .string ⟨#[]⟩, .string ⟨#[]⟩, .slice none 0 0] 30))).alloc (Nat.le_refl _) (.cells #[.int .u8 7, .bool false, .bool false, .string ⟨#[]⟩, .string ⟨#[]⟩, .slice none 0 0] 30)
  have hP3 := Blk.new ((w.alloc (.cells #[.string o.name, .int .u8 7, .bool o.down, .int .u8 o.nulls, .bool o.bnd, .bool o.ln, .string o.lm, .bool o.hn, .string o.hm, .int .i64 o.most, .int .i64 o.str, .bool o.shf, .bool o.bck, .slice a l.length c] 57)).alloc (.cells #[.int .u8 0, .bool false, .bool false, .string ⟨#[]⟩, .string ⟨#[]⟩, .slice none 0 0] 30)) 30 #[.int .u8 7, .bool false, .bool false, .string ⟨#[]⟩, .string ⟨#[]⟩, .slice none 0 0]
  have hA3 := hA2.old hb23
  have hZ3 := hZ2.old hb23
  rw [hs1] at hZ3 hs2 hZ2
  rw [hs2] at hs3 hP3
  obtain ⟨ln, hln⟩ : ∃ ln, l.length = ln := ⟨_, rfl⟩
  have HLN : Hid (l.length = ln) := hln
  have hin0 : FIn w lo n₀ l a := hin
  have HIN : Hid (∀ W, Below w.heap.size w W → FIn W lo n₀ l a) := fun W hW => hin0.keep hW hn₀
  rw [hln] at hll hb1 hs1 hA1 hb2 hs2 hb12 hZ2 hA2 hb3 hs3 hb23 hP3 hA3 hZ3 ⊢
  clear hln hin hin0
  go_enter Tryz.func55, Tryz.ntmps55
  go_upto_region 2 with fail
  generalize (((w.alloc (.cells #[.string o.name, .int .u8 7, .bool o.down, .int .u8 o.nulls, .bool o.bnd, .bool o.ln, .string o.lm, .bool o.hn, .string o.hm, .int .i64 o.most, .int .i64 o.str, .bool o.shf, .bool o.bck, .slice a ln c] 57)).alloc (.cells #[.int .u8 0, .bool false, .bool false, .string ⟨#[]⟩, .string ⟨#[]⟩, .slice none 0 0] 30)).alloc (.cells #[.int .u8 7, .bool false, .bool false, .string ⟨#[]⟩, .string ⟨#[]⟩, .slice none 0 0] 30)) = w3 at *
  clear hb1 hb2 hb12 hb23 hs1 hs2 hA1 hA2 hZ2
  obtain ⟨c0, c1, c2, c3, c4, c5, c6, c7, c8, c9, c10, c11, c12, c13⟩ := hA3.c14
  have HB0 : Hid (Blk w3 w.heap.size 57 #[.string o.name, .int .u8 7, .bool o.down, .int .u8 o.nulls, .bool o.bnd, .bool o.ln, .string o.lm, .bool o.hn, .string o.hm, .int .i64 o.most, .int .i64 o.str, .bool o.shf, .bool o.bck, .slice a ln c]) := hA3
  have HB1 : Hid (Blk w3 (w.heap.size + 1) 30 #[.int .u8 0, .bool false, .bool false, .string ⟨#[]⟩, .string ⟨#[]⟩, .slice none 0 0]) := hZ3
  have HB2 : Hid (Blk w3 (w.heap.size + 1 + 1) 30 #[.int .u8 7, .bool false, .bool false, .string ⟨#[]⟩, .string ⟨#[]⟩, .slice none 0 0]) := hP3
  have HS3 : Hid ((w.heap.size + 1 + 1 + 1) ≤ w3.heap.size) := by show _ ≤ _; omega
  clear hA3 hZ3 hP3
  go_wp2_with fail
  go_loopw [4] (fun iv wr => ∃ (j : Nat) (a6 : Option Addr) (c6 : Nat), j ≤ ln ∧ iv = .int .i64 (j : Int) ∧ PItm (w.heap.size + 1 + 1 + 1) wr (.slice a6 j c6) (lstL (l.take j)) ∧ Hid (Blk wr w.heap.size 57 #[.string o.name, .int .u8 7, .bool o.down, .int .u8 o.nulls, .bool o.bnd, .bool o.ln, .string o.lm, .bool o.hn, .string o.hm, .int .i64 o.most, .int .i64 o.str, .bool o.shf, .bool o.bck, .slice a ln c]) ∧ Hid (Blk wr (w.heap.size + 1) 30 #[.int .u8 0, .bool false, .bool false, .string ⟨#[]⟩, .string ⟨#[]⟩, .slice none 0 0]) ∧ Hid (Blk wr (w.heap.size + 1 + 1) 30 #[.int .u8 7, .bool false, .bool false, .string ⟨#[]⟩, .string ⟨#[]⟩, .slice a6 j c6]) ∧ Below w.heap.size w wr ∧ Hid ((w.heap.size + 1 + 1 + 1) ≤ wr.heap.size)) (fun iv _ => ln - (intOf iv).toNat)
  case atStart => exact ⟨0, none, 0, Nat.zero_le _, rfl, PItm.nil _ _, HB0, HB1, HB2, hb3, HS3⟩
  case round =>
    clear HB0 HB1 HB2 HS3 hb3 c0 c1 c2 c3 c4 c5 c6 c7 c8 c9 c10 c11 c12 c13
    obtain ⟨j, a6, c6, hj, rfl, hit, HB0, HB1, HB2, hb, HLE⟩ := hrel
    have hbsz : w.heap.size ≤ wr.heap.size := hb.size
    have b1 : wr.cell? ⟨w.heap.size, 1, none⟩ = some (.int .u8 7) := Blk.cell HB0.out 1
    have b13 : wr.cell? ⟨w.heap.size, 13, none⟩ = some (.slice a ln c) := Blk.cell HB0.out 13
    by_cases hlt : j < ln
    · have tl : decide ((j : Int) < (ln : Int)) = true := decide_eq_true (by omega)
      have tl2 : decide (j < ln) = true := decide_eq_true hlt
      have hjl : j < l.length := by rw [HLN.out]; exact hlt
      obtain ⟨bb, off, aj, cj, ha, _, hbn, hrow, hinj, _⟩ := (HIN.out wr hb).atC hjl
      subst ha
      obtain ⟨r0, r1, r2, r3, r4, r5, r6, r7, r8, r9, r10, r11, r12, r13⟩ := hrow
      have hcall := ih l[j] (List.getElem_mem hjl) aj cj lo n₀ wr (by omega) hinj
      have HTK : Hid (lstL (l.take (j + 1)) = lstL (l.take j) ++ [lst l[j]]) := by show _ = _; rw [List.take_succ_eq_append_getElem hjl, lstL_snoc]
      have HTL : Hid ((lstL (l.take j)).length = j) := by show _ = _; rw [lstL_len, List.length_take]; omega
      unfold fV pV at hcall
      generalize l[j] = x at *
      obtain ⟨q, hq⟩ : ∃ q, lst x = q := ⟨_, rfl⟩
      rw [hq] at hcall HTK
      clear hq
      have HAL : Hid ((lstL (l.take j)).length < 1024) := by have := HTL.out; show _ < _; omega
      have HL6 : Hid ((lstL (l.take j) ++ [q]).length = j + 1) := by have := HTL.out; show _ = _; simp; omega
      have hji : (j : Int) < (ln : Int) := by omega
      clear hinj ih
      go_wp2_with fail
      refine hcall.mono ?_
      rintro _ w4 ⟨ax, cx, rfl, hpx, hb4⟩
      have hb5 := hb4.alloc hb4.size (.cells #[.int .u8 q.kind, .bool q.yes, .bool q.neg, .string q.mag, .string q.raw, .slice ax q.items.length cx] 30)
      have hB5 := Blk.new w4 30 #[.int .u8 q.kind, .bool q.yes, .bool q.neg, .string q.mag, .string q.raw, .slice ax q.items.length cx]
      have hq5 := (Below.refl w4.heap.size w4).alloc (Nat.le_refl _) (.cells #[.int .u8 q.kind, .bool q.yes, .bool q.neg, .string q.mag, .string q.raw, .slice ax q.items.length cx] 30)
      clear hcall r0 r1 r2 r3 r4 r5 r6 r7 r8 r9 r10 r11 r12 r13
      go_upto_region 10 with fail
      generalize w4.alloc (.cells #[.int .u8 q.kind, .bool q.yes, .bool q.neg, .string q.mag, .string q.raw, .slice ax q.items.length cx] 30) = w5 at *
      have HP5 : Hid (PIn w5 wr.heap.size w5.heap.size q ax) := (hpx.keep hq5 (Nat.le_refl _)).mono hq5.size (Nat.le_refl _)
      have HI5 : Hid (PItm (w.heap.size + 1 + 1 + 1) w5 (.slice a6 j c6) (lstL (l.take j))) := hit.old hb5
      have HRL : Hid (∀ k, (Value.slice a6 j c6).ownBlock = some k → k < wr.heap.size) := hit.row_lt
      obtain ⟨x0, x1, x2, x3, x4, x5⟩ := Blk.c6 hB5
      have HBa : Hid (Blk w5 w.heap.size 57 #[.string o.name, .int .u8 7, .bool o.down, .int .u8 o.nulls, .bool o.bnd, .bool o.ln, .string o.lm, .bool o.hn, .string o.hm, .int .i64 o.most, .int .i64 o.str, .bool o.shf, .bool o.bck, .slice (some ⟨bb, off, none⟩) ln c]) := Blk.old HB0.out hb5
      have HBr : Hid (Blk w5 (w.heap.size + 1) 30 #[.int .u8 0, .bool false, .bool false, .string ⟨#[]⟩, .string ⟨#[]⟩, .slice none 0 0]) := Blk.old HB1.out hb5
      have HBp : Hid (Blk w5 (w.heap.size + 1 + 1) 30 #[.int .u8 7, .bool false, .bool false, .string ⟨#[]⟩, .string ⟨#[]⟩, .slice a6 j c6]) := Blk.old HB2.out hb5
      have q5 : w5.cell? ⟨w.heap.size + 1 + 1, 5, none⟩ = some (.slice a6 j c6) := Blk.cell HBp.out 5
      have HZ5 : Hid (wr.heap.size ≤ w5.heap.size) := hb5.size
      clear hit hpx hB5 hq5 HB0 HB1 HB2 b1 b13
      go_upto_region 8 with (at_builtin; refine PItm.more HI5.out HLE.out HZ5.out HRL.out HAL.out HP5.out (.tmp 42) (.tmp 44) rfl rfl rfl rfl ?_; intro v' w6 hit6 hb6 hblk6; obtain ⟨a7, c7, hv6⟩ := hit6.form; rw [HL6.out] at hv6; subst hv6; have z5 : w6.cell? ⟨w.heap.size + 1 + 1, 5, none⟩ = some (.slice a6 j c6) := Blk.cell (Blk.below HBp.out hb6 (Nat.lt_succ_self _)) 5; have qf : w6.frozen? ⟨w.heap.size + 1 + 1, 5, none⟩ = false := Blk.frozen (Blk.below HBp.out hb6 (Nat.lt_succ_self _)) 5)
      have hBp7 : Blk (w6.setCell ⟨w.heap.size + 1 + 1, 5, none⟩ (.slice a7 (j + 1) c7)) (w.heap.size + 1 + 1) 30 #[.int .u8 7, .bool false, .bool false, .string ⟨#[]⟩, .string ⟨#[]⟩, .slice a7 (j + 1) c7] := by
        have := (Blk.below HBp.out hb6 (Nat.lt_succ_self _)).set 5 (.slice a7 (j + 1) c7)
        simpa using this
      have hBa7 : Blk (w6.setCell ⟨w.heap.size + 1 + 1, 5, none⟩ (.slice a7 (j + 1) c7)) w.heap.size 57 #[.string o.name, .int .u8 7, .bool o.down, .int .u8 o.nulls, .bool o.bnd, .bool o.ln, .string o.lm, .bool o.hn, .string o.hm, .int .i64 o.most, .int .i64 o.str, .bool o.shf, .bool o.bck, .slice (some ⟨bb, off, none⟩) ln c] := Blk.other (Blk.below HBa.out hb6 (by omega)) (p := ⟨w.heap.size + 1 + 1, 5, none⟩) (by show w.heap.size ≠ w.heap.size + 1 + 1; omega) _
      have hBr7 : Blk (w6.setCell ⟨w.heap.size + 1 + 1, 5, none⟩ (.slice a7 (j + 1) c7)) (w.heap.size + 1) 30 #[.int .u8 0, .bool false, .bool false, .string ⟨#[]⟩, .string ⟨#[]⟩, .slice none 0 0] := Blk.other (Blk.below HBr.out hb6 (by omega)) (p := ⟨w.heap.size + 1 + 1, 5, none⟩) (by show w.heap.size + 1 ≠ w.heap.size + 1 + 1; omega) _
      have hss : (w6.setCell ⟨w.heap.size + 1 + 1, 5, none⟩ (.slice a7 (j + 1) c7)).heap.size = w6.heap.size := by simp [World.setCell]
      have hit7 : PItm (w.heap.size + 1 + 1 + 1) (w6.setCell ⟨w.heap.size + 1 + 1, 5, none⟩ (.slice a7 (j + 1) c7)) (.slice a7 (j + 1) c7) (lstL (l.take j) ++ [q]) := hit6.keep (fun b q1 q2 => Below.heap_setCell _ _ _ b (by show b ≠ w.heap.size + 1 + 1; omega)) (by rw [hss]; exact Nat.le_refl _)
      have hb7 : Below w.heap.size w (w6.setCell ⟨w.heap.size + 1 + 1, 5, none⟩ (.slice a7 (j + 1) c7)) := ((hb.trans (hb5.mono hbsz)).trans (hb6.mono (by omega))).setCell (p := ⟨w.heap.size + 1 + 1, 5, none⟩) (by show w.heap.size ≤ w.heap.size + 1 + 1; omega) _
      have HLE7 : Hid ((w.heap.size + 1 + 1 + 1) ≤ (w6.setCell ⟨w.heap.size + 1 + 1, 5, none⟩ (.slice a7 (j + 1) c7)).heap.size) := by
        show _ ≤ _
        rw [hss]
        have := HLE.out
        have := HZ5.out
        have := hb6.size
        omega
      rw [← HTK.out] at hit7
      have HB0' : Hid _ := hBa7
      have HB1' : Hid _ := hBr7
      have HB2' : Hid _ := hBp7
      generalize (w6.setCell ⟨w.heap.size + 1 + 1, 5, none⟩ (.slice a7 (j + 1) c7)) = w7 at *
      clear HI5 HP5 HRL HBa HBr HBp q5 z5 qf hit6 hb6 hb5 hb4 x0 x1 x2 x3 x4 x5 HLE HZ5 HAL hblk6 hBa7 hBr7 hBp7 hss
      go_wp2_with fail
      go_roundw
      case rel => exact ⟨j + 1, a7, c7, hlt, by simp, hit7, HB0', HB1', HB2', hb7, HLE7⟩
      case measure => simp only [intOf]; omega
    · have tl : decide ((j : Int) < (ln : Int)) = false := decide_eq_false (by omega)
      have tl2 : decide (j < ln) = false := decide_eq_false hlt
      have hjn : j = ln := by omega
      have HIT : Hid (PItm (w.heap.size + 1 + 1 + 1) wr (.slice a6 j c6) (lstL l)) := by
        have e : l.take j = l := List.take_of_length_le (by rw [HLN.out]; omega)
        rw [e] at hit; exact hit
      have hBq := HB2.out
      have hBr := HB1.out
      obtain ⟨d0, d1, d2, d3, d4, d5⟩ := Blk.c6 hBq
      obtain ⟨e0, e1, e2, e3, e4, e5⟩ := Blk.c6 hBr
      have f0 := Blk.frozen hBr 0
      have f1 := Blk.frozen hBr 1
      have f2 := Blk.frozen hBr 2
      have f3 := Blk.frozen hBr 3
      have f4 := Blk.frozen hBr 4
      have f5 := Blk.frozen hBr 5
      have hfin := Blk.set6 hBr (.int .u8 7) (.bool false) (.bool false) (.string ⟨#[]⟩) (.string ⟨#[]⟩) (.slice a6 j c6)
      have hbw := set6_below hb (show w.heap.size ≤ w.heap.size + 1 by omega) 0 (.int .u8 7) (.bool false) (.bool false) (.string ⟨#[]⟩) (.string ⟨#[]⟩) (.slice a6 j c6)
      have hPin : PIn (set6 wr (w.heap.size + 1) 0 (.int .u8 7) (.bool false) (.bool false) (.string ⟨#[]⟩) (.string ⟨#[]⟩) (.slice a6 j c6)) w.heap.size (set6 wr (w.heap.size + 1) 0 (.int .u8 7) (.bool false) (.bool false) (.string ⟨#[]⟩) (.string ⟨#[]⟩) (.slice a6 j c6)).heap.size (tupP (lstL l)) a6 := by
        rw [set6_size]
        exact (HIT.out.pin.keep' (fun b h1 h2 => set6_other (by omega))).mono (Nat.le_refl _) (by omega)
      have HPin : Hid _ := hPin
      have HLL : Hid (j = (lstL l).length) := by show _ = _; rw [lstL_len, HLN.out]; exact hjn
      clear hit HIT HB0 HB1 HB2 hBq hBr ih hPin hjn
      go_wp2_with fail
      refine bodyPost_ret (res55_run (b := w.heap.size + 1) hfin rfl) rfl ?_
      refine ⟨a6, c6, ?_, HPin.out, hbw⟩
      rw [HLL.out]
      rfl

theorem rleast_any : ∀ (f : Fld) (n : Nat), SeenF bndQ n f → FewF f → RLeastOk f := by
  intro f
  induction f using Fld.ind with
  | h o l ih =>
    intro n hs hf
    obtain ⟨hsay, hss⟩ : maySayO (bndQ o) o l.length = true ∧ ∀ x ∈ l, SeenF bndQ (n + 1) x := by cases hs with | mk a b c d e => exact ⟨c, e⟩
    obtain ⟨hl, hfs⟩ : l.length ≤ 64 ∧ ∀ x ∈ l, FewF x := by cases hf with | mk a b => exact ⟨a, b⟩
    by_cases h2 : o.kind = 2
    · by_cases hb : o.bnd = true
      · exact rleast_2b o l h2 hb
      · have hb' : o.bnd = false := by simpa using hb
        unfold maySayO at hsay
        simp only [Bool.and_eq_true, decide_eq_true_eq] at hsay
        obtain ⟨⟨⟨⟨⟨⟨_, _⟩, _⟩, h4⟩, _⟩, _⟩, _⟩ := hsay
        rw [if_pos h2, if_neg hb] at h4
        simp only [Bool.and_eq_true, Bool.not_eq_true'] at h4
        exact rleast_2n o l h2 hb' h4.1.1.1 (size_nil h4.1.1.2)
    by_cases h4 : o.kind = 4
    · exact rleast_4 o l h4
    by_cases h7 : o.kind = 7
    · exact rleast_7 o l h7 hl (fun x hx => ih x hx (n + 1) (hss x hx) (hfs x hx))
    · exact rleast_o o l h2 h4 h7
end Go.Proofs.YtkjoomdglealmaaGreatDoor
