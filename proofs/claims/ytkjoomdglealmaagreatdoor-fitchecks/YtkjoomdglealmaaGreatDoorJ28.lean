/- Contracts and lemmas (nothing is claimed here). -/
import Derived.Test.YtkjoomdglealmaaGreatDoorJ18
import Derived.Test.YtkjoomdglealmaaGreatDoorRWk
import Derived.Test.YtkjoomdglealmaaGreatDoorJ16
import Derived.Test.YtkjoomdglealmaaGreatDoorJ27
import Derived.Test.YtkjoomdglealmaaGreatDoorJ20
namespace Go.Proofs.YtkjoomdglealmaaGreatDoor
open Go.RowKit Go.Vf

def InnPost (r : Bad) (w : World) (e : Ending) (w' : World) : Prop :=
  Below w.heap.size w w' ∧ match r with
  | none => e = .returned (.tuple #[.agg #[.int .i64 0, .int .i64 0, .slice none 0 0], .int .i64 0])
  | some (c, a, P, y) => ∃ v, e = .returned (.tuple #[.agg #[.int .i64 c, .int .i64 a, v], .int .i64 y]) ∧ IOwn w' w.heap.size v P
theorem res49_run {tmps : Array Value} {w : World} {b : Nat} {a0 a1 a2 v5 : Value} (h : Blk w b 47 #[a0, a1, a2]) (t4 : tmps[4]?.getD undef = .pointer (some ⟨b, 0, none⟩)) (t5 : tmps[5]?.getD undef = v5) :
    (results Tryz.f49 tmps).run Tryz.prog w = .ok (.tuple #[.agg #[a0, a1, a2], v5]) w := by
  have c0 := h.cell 0
  have c1 := h.cell 1
  have c2 := h.cell 2
  simp at c0 c1 c2
  simp [results, Tryz.results49, go_sem, t4, t5, c0, c1, c2]
set_option maxHeartbeats 4000000 in
set_option maxRecDepth 20000 in
theorem inn_null (o : Go.Vf.Own) (l : List Fld) (a pa : Option Addr) (c pc : Nat) (y b : Bool) (m r : ByteArray) (t : List Prt) (w : World) : Calls Tryz.prog 49 #[.agg #[.string o.name, .int .u8 o.kind, .bool o.down, .int .u8 o.nulls, .bool o.bnd, .bool o.ln, .string o.lm, .bool o.hn, .string o.hm, .int .i64 o.most, .int .i64 o.str, .bool o.shf, .bool o.bck, .slice a l.length c], .agg #[.int .u8 0, .bool y, .bool b, .string m, .string r, .slice pa t.length pc]] w (InnPost (if o.nulls = 0 then some (121, 0, [], 0) else none) w) := by
  by_cases hn : o.nulls = 0
  · rw [if_pos hn]
    have t1 : decide (o.nulls = 0) = true := decide_eq_true hn
    have t2 : (o.nulls == 0) = true := by simpa using hn
    clear hn
    have hb1 := (Below.refl w.heap.size w).alloc (Nat.le_refl _) (.cells #[.string o.name, .int .u8 o.kind, .bool o.down, .int .u8 o.nulls, .bool o.bnd, .bool o.ln, .string o.lm, .bool o.hn, .string o.hm, .int .i64 o.most, .int .i64 o.str, .bool o.shf, .bool o.bck, .slice a l.length c] 57)
    have hs1 := alloc_size w (.cells #[.string o.name, .int .u8 o.kind, .bool o.down, .int .u8 o.nulls, .bool o.bnd, .bool o.ln, .string o.lm, .bool o.hn, .string o.hm, .int .i64 o.most, .int .i64 o.str, .bool o.shf, .bool o.bck, .slice a l.length c] 57)
    have hA1 := Blk.new w 57 #[.string o.name, .int .u8 o.kind, .bool o.down, .int .u8 o.nulls, .bool o.bnd, .bool o.ln, .string o.lm, .bool o.hn, .string o.hm, .int .i64 o.most, .int .i64 o.str, .bool o.shf, .bool o.bck, .slice a l.length c]
    have hb12 := (Below.refl _ (w.alloc (.cells #[.string o.name, .int .u8 o.kind, .bool o.down, .int .u8 o.nulls, .bool o.bnd, .bool o.ln, .string o.lm, .bool o.hn, .string o.hm, .int .i64 o.most, .int .i64 o.str, .bool o.shf, .bool o.bck, .slice a l.length c] 57))).alloc (Nat.le_refl _) (.cells #[.int .u8 0, .bool y, .bool b, .string m, .string r, .slice pa t.length pc] 30)
    have hs2 := alloc_size (w.alloc (.cells #[.string o.name, .int .u8 o.kind, .bool o.down, .int .u8 o.nulls, .bool o.bnd, .bool o.ln, .string o.lm, .bool o.hn, .string o.hm, .int .i64 o.most, .int .i64 o.str, .bool o.shf, .bool o.bck, .slice a l.length c] 57)) (.cells #[.int .u8 0, .bool y, .bool b, .string m, .string r, .slice pa t.length pc] 30)
    have hP2 := Blk.new (w.alloc (.cells #[.string o.name, .int .u8 o.kind, .bool o.down, .int .u8 o.nulls, .bool o.bnd, .bool o.ln, .string o.lm, .bool o.hn, .string o.hm, .int .i64 o.most, .int .i64 o.str, .bool o.shf, .bool o.bck, .slice a l.length c] 57)) 30 #[.int .u8 0, .bool y, .bool b, .string m, .string r, .slice pa t.length pc]
    have hb23 := (Below.refl _ ((w.alloc (.cells #[.string o.name, .int .u8 o.kind, .bool o.down, .int .u8 o.nulls, .bool o.bnd, .bool o.ln, .string o.lm, .bool o.hn, .string o.hm, .int .i64 o.most, .int .i64 o.str, .bool o.shf, .bool o.bck, .slice a l.length c] 57)).alloc (.cells #[.int .u8 0, .bool y, .bool b, .string m, .string r, .slice pa t.length pc] 30))).alloc (Nat.le_refl _) (.cells #[.int .i64 0, .int .i64 0, .slice none 0 0] 47)
    have hR3 := Blk.new ((w.alloc (.cells #[.string o.name, .int .u8 o.kind, .bool o.down, .int .u8 o.nulls, .bool o.bnd, .bool o.ln, .string o.lm, .bool o.hn, .string o.hm, .int .i64 o.most, .int .i64 o.str, .bool o.shf, .bool o.bck, .slice a l.length c] 57)).alloc (.cells #[.int .u8 0, .bool y, .bool b, .string m, .string r, .slice pa t.length pc] 30)) 47 #[.int .i64 0, .int .i64 0, .slice none 0 0]
    have hA3 := (hA1.old hb12).old hb23
    have hP3 := hP2.old hb23
    have hb3 := hb1.trans ((hb12.trans (hb23.mono hb12.size)).mono hb1.size)
    rw [hs1] at hP3 hs2
    rw [hs2] at hR3
    go_enter Tryz.func49, Tryz.ntmps49
    go_upto_region 1 with fail
    generalize (((w.alloc (.cells #[.string o.name, .int .u8 o.kind, .bool o.down, .int .u8 o.nulls, .bool o.bnd, .bool o.ln, .string o.lm, .bool o.hn, .string o.hm, .int .i64 o.most, .int .i64 o.str, .bool o.shf, .bool o.bck, .slice a l.length c] 57)).alloc (.cells #[.int .u8 0, .bool y, .bool b, .string m, .string r, .slice pa t.length pc] 30)).alloc (.cells #[.int .i64 0, .int .i64 0, .slice none 0 0] 47)) = w3 at *
    clear hb1 hb12 hb23 hs1 hs2 hA1 hP2
    obtain ⟨c0, c1, c2, c3, c4, c5, c6, c7, c8, c9, c10, c11, c12, c13⟩ := hA3.c14
    obtain ⟨p0, p1, p2, p3, p4, p5⟩ := hP3.c6
    have z0 : w3.cell? ⟨w.heap.size + 1 + 1, 0, none⟩ = some (.int .i64 0) := hR3.cell 0
    have z1 : w3.cell? ⟨w.heap.size + 1 + 1, 1, none⟩ = some (.int .i64 0) := hR3.cell 1
    have z2 : w3.cell? ⟨w.heap.size + 1 + 1, 2, none⟩ = some (.slice none 0 0) := hR3.cell 2
    have f0 := hR3.frozen 0
    have f1 := hR3.frozen 1
    have f2 := hR3.frozen 2
    have hfin := hR3.set3 (.int .i64 121) (.int .i64 0) (.slice none 0 0)
    have hbw := ((hb3.setCell (p := ⟨w.heap.size + 1 + 1, 0, none⟩) (by show w.heap.size ≤ w.heap.size + 1 + 1; omega) (.int .i64 121)).setCell (p := ⟨w.heap.size + 1 + 1, 1, none⟩) (by show w.heap.size ≤ w.heap.size + 1 + 1; omega) (.int .i64 0)).setCell (p := ⟨w.heap.size + 1 + 1, 2, none⟩) (by show w.heap.size ≤ w.heap.size + 1 + 1; omega) (.slice none 0 0)
    clear hA3 hP3 hR3
    go_wp2_with fail
    refine bodyPost_ret (res49_run (b := w.heap.size + 1 + 1) (v5 := .int .i64 0) hfin rfl rfl) rfl ?_
    exact ⟨hbw, _, rfl, IOwn.nil _ _⟩

  · rw [if_neg hn]
    have t1 : decide (o.nulls = 0) = false := decide_eq_false hn
    have t2 : (o.nulls == 0) = false := by simpa using hn
    clear hn
    have hb1 := (Below.refl w.heap.size w).alloc (Nat.le_refl _) (.cells #[.string o.name, .int .u8 o.kind, .bool o.down, .int .u8 o.nulls, .bool o.bnd, .bool o.ln, .string o.lm, .bool o.hn, .string o.hm, .int .i64 o.most, .int .i64 o.str, .bool o.shf, .bool o.bck, .slice a l.length c] 57)
    have hs1 := alloc_size w (.cells #[.string o.name, .int .u8 o.kind, .bool o.down, .int .u8 o.nulls, .bool o.bnd, .bool o.ln, .string o.lm, .bool o.hn, .string o.hm, .int .i64 o.most, .int .i64 o.str, .bool o.shf, .bool o.bck, .slice a l.length c] 57)
    have hA1 := Blk.new w 57 #[.string o.name, .int .u8 o.kind, .bool o.down, .int .u8 o.nulls, .bool o.bnd, .bool o.ln, .string o.lm, .bool o.hn, .string o.hm, .int .i64 o.most, .int .i64 o.str, .bool o.shf, .bool o.bck, .slice a l.length c]
    have hb12 := (Below.refl _ (w.alloc (.cells #[.string o.name, .int .u8 o.kind, .bool o.down, .int .u8 o.nulls, .bool o.bnd, .bool o.ln, .string o.lm, .bool o.hn, .string o.hm, .int .i64 o.most, .int .i64 o.str, .bool o.shf, .bool o.bck, .slice a l.length c] 57))).alloc (Nat.le_refl _) (.cells #[.int .u8 0, .bool y, .bool b, .string m, .string r, .slice pa t.length pc] 30)
    have hs2 := alloc_size (w.alloc (.cells #[.string o.name, .int .u8 o.kind, .bool o.down, .int .u8 o.nulls, .bool o.bnd, .bool o.ln, .string o.lm, .bool o.hn, .string o.hm, .int .i64 o.most, .int .i64 o.str, .bool o.shf, .bool o.bck, .slice a l.length c] 57)) (.cells #[.int .u8 0, .bool y, .bool b, .string m, .string r, .slice pa t.length pc] 30)
    have hP2 := Blk.new (w.alloc (.cells #[.string o.name, .int .u8 o.kind, .bool o.down, .int .u8 o.nulls, .bool o.bnd, .bool o.ln, .string o.lm, .bool o.hn, .string o.hm, .int .i64 o.most, .int .i64 o.str, .bool o.shf, .bool o.bck, .slice a l.length c] 57)) 30 #[.int .u8 0, .bool y, .bool b, .string m, .string r, .slice pa t.length pc]
    have hb23 := (Below.refl _ ((w.alloc (.cells #[.string o.name, .int .u8 o.kind, .bool o.down, .int .u8 o.nulls, .bool o.bnd, .bool o.ln, .string o.lm, .bool o.hn, .string o.hm, .int .i64 o.most, .int .i64 o.str, .bool o.shf, .bool o.bck, .slice a l.length c] 57)).alloc (.cells #[.int .u8 0, .bool y, .bool b, .string m, .string r, .slice pa t.length pc] 30))).alloc (Nat.le_refl _) (.cells #[.int .i64 0, .int .i64 0, .slice none 0 0] 47)
    have hR3 := Blk.new ((w.alloc (.cells #[.string o.name, .int .u8 o.kind, .bool o.down, .int .u8 o.nulls, .bool o.bnd, .bool o.ln, .string o.lm, .bool o.hn, .string o.hm, .int .i64 o.most, .int .i64 o.str, .bool o.shf, .bool o.bck, .slice a l.length c] 57)).alloc (.cells #[.int .u8 0, .bool y, .bool b, .string m, .string r, .slice pa t.length pc] 30)) 47 #[.int .i64 0, .int .i64 0, .slice none 0 0]
    have hA3 := (hA1.old hb12).old hb23
    have hP3 := hP2.old hb23
    have hb3 := hb1.trans ((hb12.trans (hb23.mono hb12.size)).mono hb1.size)
    rw [hs1] at hP3 hs2
    rw [hs2] at hR3
    go_enter Tryz.func49, Tryz.ntmps49
    go_upto_region 1 with fail
    generalize (((w.alloc (.cells #[.string o.name, .int .u8 o.kind, .bool o.down, .int .u8 o.nulls, .bool o.bnd, .bool o.ln, .string o.lm, .bool o.hn, .string o.hm, .int .i64 o.most, .int .i64 o.str, .bool o.shf, .bool o.bck, .slice a l.length c] 57)).alloc (.cells #[.int .u8 0, .bool y, .bool b, .string m, .string r, .slice pa t.length pc] 30)).alloc (.cells #[.int .i64 0, .int .i64 0, .slice none 0 0] 47)) = w3 at *
    clear hb1 hb12 hb23 hs1 hs2 hA1 hP2
    obtain ⟨c0, c1, c2, c3, c4, c5, c6, c7, c8, c9, c10, c11, c12, c13⟩ := hA3.c14
    obtain ⟨p0, p1, p2, p3, p4, p5⟩ := hP3.c6
    have z0 : w3.cell? ⟨w.heap.size + 1 + 1, 0, none⟩ = some (.int .i64 0) := hR3.cell 0
    have z1 : w3.cell? ⟨w.heap.size + 1 + 1, 1, none⟩ = some (.int .i64 0) := hR3.cell 1
    have z2 : w3.cell? ⟨w.heap.size + 1 + 1, 2, none⟩ = some (.slice none 0 0) := hR3.cell 2
    have f0 := hR3.frozen 0
    have f1 := hR3.frozen 1
    have f2 := hR3.frozen 2
    have hfin := hR3.set3 (.int .i64 0) (.int .i64 0) (.slice none 0 0)
    have hbw := ((hb3.setCell (p := ⟨w.heap.size + 1 + 1, 0, none⟩) (by show w.heap.size ≤ w.heap.size + 1 + 1; omega) (.int .i64 0)).setCell (p := ⟨w.heap.size + 1 + 1, 1, none⟩) (by show w.heap.size ≤ w.heap.size + 1 + 1; omega) (.int .i64 0)).setCell (p := ⟨w.heap.size + 1 + 1, 2, none⟩) (by show w.heap.size ≤ w.heap.size + 1 + 1; omega) (.slice none 0 0)
    clear hA3 hP3 hR3
    go_wp2_with fail
    refine bodyPost_ret (res49_run (b := w.heap.size + 1 + 1) (v5 := .int .i64 0) hfin rfl rfl) rfl ?_
    exact ⟨hbw, rfl⟩


set_option maxHeartbeats 4000000 in
set_option maxRecDepth 20000 in
theorem inn_kind (k : Int) (hk : k ≠ 0) (o : Go.Vf.Own) (l : List Fld) (a pa : Option Addr) (c pc : Nat) (y b : Bool) (m r : ByteArray) (t : List Prt) (w : World) (hne : k ≠ o.kind) : Calls Tryz.prog 49 #[.agg #[.string o.name, .int .u8 o.kind, .bool o.down, .int .u8 o.nulls, .bool o.bnd, .bool o.ln, .string o.lm, .bool o.hn, .string o.hm, .int .i64 o.most, .int .i64 o.str, .bool o.shf, .bool o.bck, .slice a l.length c], .agg #[.int .u8 k, .bool y, .bool b, .string m, .string r, .slice pa t.length pc]] w (InnPost (some (120, 0, [], 4)) w) := by
  have t1 : decide (k = 0) = false := decide_eq_false hk
  have t2 : (k == 0) = false := by simpa using hk
  have t3 : decide (k = o.kind) = false := decide_eq_false hne
  have t4 : (k == o.kind) = false := by simpa using hne
  have t5 : (k != o.kind) = true := bne_iff_ne.2 hne
  clear hk hne
  have hb1 := (Below.refl w.heap.size w).alloc (Nat.le_refl _) (.cells #[.string o.name, .int .u8 o.kind, .bool o.down, .int .u8 o.nulls, .bool o.bnd, .bool o.ln, .string o.lm, .bool o.hn, .string o.hm, .int .i64 o.most, .int .i64 o.str, .bool o.shf, .bool o.bck, .slice a l.length c] 57)
  have hs1 := alloc_size w (.cells #[.string o.name, .int .u8 o.kind, .bool o.down, .int .u8 o.nulls, .bool o.bnd, .bool o.ln, .string o.lm, .bool o.hn, .string o.hm, .int .i64 o.most, .int .i64 o.str, .bool o.shf, .bool o.bck, .slice a l.length c] 57)
  have hA1 := Blk.new w 57 #[.string o.name, .int .u8 o.kind, .bool o.down, .int .u8 o.nulls, .bool o.bnd, .bool o.ln, .string o.lm, .bool o.hn, .string o.hm, .int .i64 o.most, .int .i64 o.str, .bool o.shf, .bool o.bck, .slice a l.length c]
  have hb12 := (Below.refl _ (w.alloc (.cells #[.string o.name, .int .u8 o.kind, .bool o.down, .int .u8 o.nulls, .bool o.bnd, .bool o.ln, .string o.lm, .bool o.hn, .string o.hm, .int .i64 o.most, .int .i64 o.str, .bool o.shf, .bool o.bck, .slice a l.length c] 57))).alloc (Nat.le_refl _) (.cells #[.int .u8 k, .bool y, .bool b, .string m, .string r, .slice pa t.length pc] 30)
  have hs2 := alloc_size (w.alloc (.cells #[.string o.name, .int .u8 o.kind, .bool o.down, .int .u8 o.nulls, .bool o.bnd, .bool o.ln, .string o.lm, .bool o.hn, .string o.hm, .int .i64 o.most, .int .i64 o.str, .bool o.shf, .bool o.bck, .slice a l.length c] 57)) (.cells #[.int .u8 k, .bool y, .bool b, .string m, .string r, .slice pa t.length pc] 30)
  have hP2 := Blk.new (w.alloc (.cells #[.string o.name, .int .u8 o.kind, .bool o.down, .int .u8 o.nulls, .bool o.bnd, .bool o.ln, .string o.lm, .bool o.hn, .string o.hm, .int .i64 o.most, .int .i64 o.str, .bool o.shf, .bool o.bck, .slice a l.length c] 57)) 30 #[.int .u8 k, .bool y, .bool b, .string m, .string r, .slice pa t.length pc]
  have hb23 := (Below.refl _ ((w.alloc (.cells #[.string o.name, .int .u8 o.kind, .bool o.down, .int .u8 o.nulls, .bool o.bnd, .bool o.ln, .string o.lm, .bool o.hn, .string o.hm, .int .i64 o.most, .int .i64 o.str, .bool o.shf, .bool o.bck, .slice a l.length c] 57)).alloc (.cells #[.int .u8 k, .bool y, .bool b, .string m, .string r, .slice pa t.length pc] 30))).alloc (Nat.le_refl _) (.cells #[.int .i64 0, .int .i64 0, .slice none 0 0] 47)
  have hR3 := Blk.new ((w.alloc (.cells #[.string o.name, .int .u8 o.kind, .bool o.down, .int .u8 o.nulls, .bool o.bnd, .bool o.ln, .string o.lm, .bool o.hn, .string o.hm, .int .i64 o.most, .int .i64 o.str, .bool o.shf, .bool o.bck, .slice a l.length c] 57)).alloc (.cells #[.int .u8 k, .bool y, .bool b, .string m, .string r, .slice pa t.length pc] 30)) 47 #[.int .i64 0, .int .i64 0, .slice none 0 0]
  have hA3 := (hA1.old hb12).old hb23
  have hP3 := hP2.old hb23
  have hb3 := hb1.trans ((hb12.trans (hb23.mono hb12.size)).mono hb1.size)
  rw [hs1] at hP3 hs2
  rw [hs2] at hR3
  go_enter Tryz.func49, Tryz.ntmps49
  go_upto_region 1 with fail
  generalize (((w.alloc (.cells #[.string o.name, .int .u8 o.kind, .bool o.down, .int .u8 o.nulls, .bool o.bnd, .bool o.ln, .string o.lm, .bool o.hn, .string o.hm, .int .i64 o.most, .int .i64 o.str, .bool o.shf, .bool o.bck, .slice a l.length c] 57)).alloc (.cells #[.int .u8 k, .bool y, .bool b, .string m, .string r, .slice pa t.length pc] 30)).alloc (.cells #[.int .i64 0, .int .i64 0, .slice none 0 0] 47)) = w3 at *
  clear hb1 hb12 hb23 hs1 hs2 hA1 hP2
  obtain ⟨c0, c1, c2, c3, c4, c5, c6, c7, c8, c9, c10, c11, c12, c13⟩ := hA3.c14
  obtain ⟨p0, p1, p2, p3, p4, p5⟩ := hP3.c6
  have z0 : w3.cell? ⟨w.heap.size + 1 + 1, 0, none⟩ = some (.int .i64 0) := hR3.cell 0
  have z1 : w3.cell? ⟨w.heap.size + 1 + 1, 1, none⟩ = some (.int .i64 0) := hR3.cell 1
  have z2 : w3.cell? ⟨w.heap.size + 1 + 1, 2, none⟩ = some (.slice none 0 0) := hR3.cell 2
  have f0 := hR3.frozen 0
  have f1 := hR3.frozen 1
  have f2 := hR3.frozen 2
  have hfin := hR3.set3 (.int .i64 120) (.int .i64 0) (.slice none 0 0)
  have hbw := ((hb3.setCell (p := ⟨w.heap.size + 1 + 1, 0, none⟩) (by show w.heap.size ≤ w.heap.size + 1 + 1; omega) (.int .i64 120)).setCell (p := ⟨w.heap.size + 1 + 1, 1, none⟩) (by show w.heap.size ≤ w.heap.size + 1 + 1; omega) (.int .i64 0)).setCell (p := ⟨w.heap.size + 1 + 1, 2, none⟩) (by show w.heap.size ≤ w.heap.size + 1 + 1; omega) (.slice none 0 0)
  clear hA3 hP3 hR3
  go_wp2_with fail
  refine bodyPost_ret (res49_run (b := w.heap.size + 1 + 1) (v5 := .int .i64 4) hfin rfl rfl) rfl ?_
  exact ⟨hbw, _, rfl, IOwn.nil _ _⟩

set_option maxHeartbeats 4000000 in
set_option maxRecDepth 20000 in
theorem inn_1 (o : Go.Vf.Own) (l : List Fld) (a pa : Option Addr) (c pc : Nat) (y b : Bool) (m r : ByteArray) (t : List Prt) (w : World) : Calls Tryz.prog 49 #[.agg #[.string o.name, .int .u8 1, .bool o.down, .int .u8 o.nulls, .bool o.bnd, .bool o.ln, .string o.lm, .bool o.hn, .string o.hm, .int .i64 o.most, .int .i64 o.str, .bool o.shf, .bool o.bck, .slice a l.length c], .agg #[.int .u8 1, .bool y, .bool b, .string m, .string r, .slice pa t.length pc]] w (InnPost none w) := by
  have hb1 := (Below.refl w.heap.size w).alloc (Nat.le_refl _) (.cells #[.string o.name, .int .u8 1, .bool o.down, .int .u8 o.nulls, .bool o.bnd, .bool o.ln, .string o.lm, .bool o.hn, .string o.hm, .int .i64 o.most, .int .i64 o.str, .bool o.shf, .bool o.bck, .slice a l.length c] 57)
  have hs1 := alloc_size w (.cells #[.string o.name, .int .u8 1, .bool o.down, .int .u8 o.nulls, .bool o.bnd, .bool o.ln, .string o.lm, .bool o.hn, .string o.hm, .int .i64 o.most, .int .i64 o.str, .bool o.shf, .bool o.bck, .slice a l.length c] 57)
  have hA1 := Blk.new w 57 #[.string o.name, .int .u8 1, .bool o.down, .int .u8 o.nulls, .bool o.bnd, .bool o.ln, .string o.lm, .bool o.hn, .string o.hm, .int .i64 o.most, .int .i64 o.str, .bool o.shf, .bool o.bck, .slice a l.length c]
  have hb12 := (Below.refl _ (w.alloc (.cells #[.string o.name, .int .u8 1, .bool o.down, .int .u8 o.nulls, .bool o.bnd, .bool o.ln, .string o.lm, .bool o.hn, .string o.hm, .int .i64 o.most, .int .i64 o.str, .bool o.shf, .bool o.bck, .slice a l.length c] 57))).alloc (Nat.le_refl _) (.cells #[.int .u8 1, .bool y, .bool b, .string m, .string r, .slice pa t.length pc] 30)
  have hs2 := alloc_size (w.alloc (.cells #[.string o.name, .int .u8 1, .bool o.down, .int .u8 o.nulls, .bool o.bnd, .bool o.ln, .string o.lm, .bool o.hn, .string o.hm, .int .i64 o.most, .int .i64 o.str, .bool o.shf, .bool o.bck, .slice a l.length c] 57)) (.cells #[.int .u8 1, .bool y, .bool b, .string m, .string r, .slice pa t.length pc] 30)
  have hP2 := Blk.new (w.alloc (.cells #[.string o.name, .int .u8 1, .bool o.down, .int .u8 o.nulls, .bool o.bnd, .bool o.ln, .string o.lm, .bool o.hn, .string o.hm, .int .i64 o.most, .int .i64 o.str, .bool o.shf, .bool o.bck, .slice a l.length c] 57)) 30 #[.int .u8 1, .bool y, .bool b, .string m, .string r, .slice pa t.length pc]
  have hb23 := (Below.refl _ ((w.alloc (.cells #[.string o.name, .int .u8 1, .bool o.down, .int .u8 o.nulls, .bool o.bnd, .bool o.ln, .string o.lm, .bool o.hn, .string o.hm, .int .i64 o.most, .int .i64 o.str, .bool o.shf, .bool o.bck, .slice a l.length c] 57)).alloc (.cells #[.int .u8 1, .bool y, .bool b, .string m, .string r, .slice pa t.length pc] 30))).alloc (Nat.le_refl _) (.cells #[.int .i64 0, .int .i64 0, .slice none 0 0] 47)
  have hR3 := Blk.new ((w.alloc (.cells #[.string o.name, .int .u8 1, .bool o.down, .int .u8 o.nulls, .bool o.bnd, .bool o.ln, .string o.lm, .bool o.hn, .string o.hm, .int .i64 o.most, .int .i64 o.str, .bool o.shf, .bool o.bck, .slice a l.length c] 57)).alloc (.cells #[.int .u8 1, .bool y, .bool b, .string m, .string r, .slice pa t.length pc] 30)) 47 #[.int .i64 0, .int .i64 0, .slice none 0 0]
  have hA3 := (hA1.old hb12).old hb23
  have hP3 := hP2.old hb23
  have hb3 := hb1.trans ((hb12.trans (hb23.mono hb12.size)).mono hb1.size)
  rw [hs1] at hP3 hs2
  rw [hs2] at hR3
  go_enter Tryz.func49, Tryz.ntmps49
  go_upto_region 1 with fail
  generalize (((w.alloc (.cells #[.string o.name, .int .u8 1, .bool o.down, .int .u8 o.nulls, .bool o.bnd, .bool o.ln, .string o.lm, .bool o.hn, .string o.hm, .int .i64 o.most, .int .i64 o.str, .bool o.shf, .bool o.bck, .slice a l.length c] 57)).alloc (.cells #[.int .u8 1, .bool y, .bool b, .string m, .string r, .slice pa t.length pc] 30)).alloc (.cells #[.int .i64 0, .int .i64 0, .slice none 0 0] 47)) = w3 at *
  clear hb1 hb12 hb23 hs1 hs2 hA1 hP2
  obtain ⟨c0, c1, c2, c3, c4, c5, c6, c7, c8, c9, c10, c11, c12, c13⟩ := hA3.c14
  obtain ⟨p0, p1, p2, p3, p4, p5⟩ := hP3.c6
  have z0 : w3.cell? ⟨w.heap.size + 1 + 1, 0, none⟩ = some (.int .i64 0) := hR3.cell 0
  have z1 : w3.cell? ⟨w.heap.size + 1 + 1, 1, none⟩ = some (.int .i64 0) := hR3.cell 1
  have z2 : w3.cell? ⟨w.heap.size + 1 + 1, 2, none⟩ = some (.slice none 0 0) := hR3.cell 2
  have f0 := hR3.frozen 0
  have f1 := hR3.frozen 1
  have f2 := hR3.frozen 2
  have hfin := hR3.set3 (.int .i64 0) (.int .i64 0) (.slice none 0 0)
  have hbw := ((hb3.setCell (p := ⟨w.heap.size + 1 + 1, 0, none⟩) (by show w.heap.size ≤ w.heap.size + 1 + 1; omega) (.int .i64 0)).setCell (p := ⟨w.heap.size + 1 + 1, 1, none⟩) (by show w.heap.size ≤ w.heap.size + 1 + 1; omega) (.int .i64 0)).setCell (p := ⟨w.heap.size + 1 + 1, 2, none⟩) (by show w.heap.size ≤ w.heap.size + 1 + 1; omega) (.slice none 0 0)
  clear hA3 hP3 hR3
  go_wp2_with fail
  refine bodyPost_ret (res49_run (b := w.heap.size + 1 + 1) (v5 := .int .i64 0) hfin rfl rfl) rfl ?_
  exact ⟨hbw, rfl⟩

set_option maxHeartbeats 4000000 in
set_option maxRecDepth 20000 in
theorem inn_4 (o : Go.Vf.Own) (l : List Fld) (a pa : Option Addr) (c pc : Nat) (y b : Bool) (m r : ByteArray) (t : List Prt) (w : World) : Calls Tryz.prog 49 #[.agg #[.string o.name, .int .u8 4, .bool o.down, .int .u8 o.nulls, .bool o.bnd, .bool o.ln, .string o.lm, .bool o.hn, .string o.hm, .int .i64 o.most, .int .i64 o.str, .bool o.shf, .bool o.bck, .slice a l.length c], .agg #[.int .u8 4, .bool y, .bool b, .string m, .string r, .slice pa t.length pc]] w (InnPost none w) := by
  have hb1 := (Below.refl w.heap.size w).alloc (Nat.le_refl _) (.cells #[.string o.name, .int .u8 4, .bool o.down, .int .u8 o.nulls, .bool o.bnd, .bool o.ln, .string o.lm, .bool o.hn, .string o.hm, .int .i64 o.most, .int .i64 o.str, .bool o.shf, .bool o.bck, .slice a l.length c] 57)
  have hs1 := alloc_size w (.cells #[.string o.name, .int .u8 4, .bool o.down, .int .u8 o.nulls, .bool o.bnd, .bool o.ln, .string o.lm, .bool o.hn, .string o.hm, .int .i64 o.most, .int .i64 o.str, .bool o.shf, .bool o.bck, .slice a l.length c] 57)
  have hA1 := Blk.new w 57 #[.string o.name, .int .u8 4, .bool o.down, .int .u8 o.nulls, .bool o.bnd, .bool o.ln, .string o.lm, .bool o.hn, .string o.hm, .int .i64 o.most, .int .i64 o.str, .bool o.shf, .bool o.bck, .slice a l.length c]
  have hb12 := (Below.refl _ (w.alloc (.cells #[.string o.name, .int .u8 4, .bool o.down, .int .u8 o.nulls, .bool o.bnd, .bool o.ln, .string o.lm, .bool o.hn, .string o.hm, .int .i64 o.most, .int .i64 o.str, .bool o.shf, .bool o.bck, .slice a l.length c] 57))).alloc (Nat.le_refl _) (.cells #[.int .u8 4, .bool y, .bool b, .string m, .string r, .slice pa t.length pc] 30)
  have hs2 := alloc_size (w.alloc (.cells #[.string o.name, .int .u8 4, .bool o.down, .int .u8 o.nulls, .bool o.bnd, .bool o.ln, .string o.lm, .bool o.hn, .string o.hm, .int .i64 o.most, .int .i64 o.str, .bool o.shf, .bool o.bck, .slice a l.length c] 57)) (.cells #[.int .u8 4, .bool y, .bool b, .string m, .string r, .slice pa t.length pc] 30)
  have hP2 := Blk.new (w.alloc (.cells #[.string o.name, .int .u8 4, .bool o.down, .int .u8 o.nulls, .bool o.bnd, .bool o.ln, .string o.lm, .bool o.hn, .string o.hm, .int .i64 o.most, .int .i64 o.str, .bool o.shf, .bool o.bck, .slice a l.length c] 57)) 30 #[.int .u8 4, .bool y, .bool b, .string m, .string r, .slice pa t.length pc]
  have hb23 := (Below.refl _ ((w.alloc (.cells #[.string o.name, .int .u8 4, .bool o.down, .int .u8 o.nulls, .bool o.bnd, .bool o.ln, .string o.lm, .bool o.hn, .string o.hm, .int .i64 o.most, .int .i64 o.str, .bool o.shf, .bool o.bck, .slice a l.length c] 57)).alloc (.cells #[.int .u8 4, .bool y, .bool b, .string m, .string r, .slice pa t.length pc] 30))).alloc (Nat.le_refl _) (.cells #[.int .i64 0, .int .i64 0, .slice none 0 0] 47)
  have hR3 := Blk.new ((w.alloc (.cells #[.string o.name, .int .u8 4, .bool o.down, .int .u8 o.nulls, .bool o.bnd, .bool o.ln, .string o.lm, .bool o.hn, .string o.hm, .int .i64 o.most, .int .i64 o.str, .bool o.shf, .bool o.bck, .slice a l.length c] 57)).alloc (.cells #[.int .u8 4, .bool y, .bool b, .string m, .string r, .slice pa t.length pc] 30)) 47 #[.int .i64 0, .int .i64 0, .slice none 0 0]
  have hA3 := (hA1.old hb12).old hb23
  have hP3 := hP2.old hb23
  have hb3 := hb1.trans ((hb12.trans (hb23.mono hb12.size)).mono hb1.size)
  rw [hs1] at hP3 hs2
  rw [hs2] at hR3
  go_enter Tryz.func49, Tryz.ntmps49
  go_upto_region 1 with fail
  generalize (((w.alloc (.cells #[.string o.name, .int .u8 4, .bool o.down, .int .u8 o.nulls, .bool o.bnd, .bool o.ln, .string o.lm, .bool o.hn, .string o.hm, .int .i64 o.most, .int .i64 o.str, .bool o.shf, .bool o.bck, .slice a l.length c] 57)).alloc (.cells #[.int .u8 4, .bool y, .bool b, .string m, .string r, .slice pa t.length pc] 30)).alloc (.cells #[.int .i64 0, .int .i64 0, .slice none 0 0] 47)) = w3 at *
  clear hb1 hb12 hb23 hs1 hs2 hA1 hP2
  obtain ⟨c0, c1, c2, c3, c4, c5, c6, c7, c8, c9, c10, c11, c12, c13⟩ := hA3.c14
  obtain ⟨p0, p1, p2, p3, p4, p5⟩ := hP3.c6
  have z0 : w3.cell? ⟨w.heap.size + 1 + 1, 0, none⟩ = some (.int .i64 0) := hR3.cell 0
  have z1 : w3.cell? ⟨w.heap.size + 1 + 1, 1, none⟩ = some (.int .i64 0) := hR3.cell 1
  have z2 : w3.cell? ⟨w.heap.size + 1 + 1, 2, none⟩ = some (.slice none 0 0) := hR3.cell 2
  have f0 := hR3.frozen 0
  have f1 := hR3.frozen 1
  have f2 := hR3.frozen 2
  have hfin := hR3.set3 (.int .i64 0) (.int .i64 0) (.slice none 0 0)
  have hbw := ((hb3.setCell (p := ⟨w.heap.size + 1 + 1, 0, none⟩) (by show w.heap.size ≤ w.heap.size + 1 + 1; omega) (.int .i64 0)).setCell (p := ⟨w.heap.size + 1 + 1, 1, none⟩) (by show w.heap.size ≤ w.heap.size + 1 + 1; omega) (.int .i64 0)).setCell (p := ⟨w.heap.size + 1 + 1, 2, none⟩) (by show w.heap.size ≤ w.heap.size + 1 + 1; omega) (.slice none 0 0)
  clear hA3 hP3 hR3
  go_wp2_with fail
  refine bodyPost_ret (res49_run (b := w.heap.size + 1 + 1) (v5 := .int .i64 0) hfin rfl rfl) rfl ?_
  exact ⟨hbw, rfl⟩
end Go.Proofs.YtkjoomdglealmaaGreatDoor

namespace Go.Proofs.YtkjoomdglealmaaGreatDoor
open Go.RowKit Go.Extern.Stop Go.Stop Go.Extern Go.Vf

set_option maxRecDepth 20000 in
set_option maxHeartbeats 4000000 in
theorem is_errno (n : Int) (w : World) : Calls Tryz.prog 79 #[.iface 34 (.int .i64 n), .iface 34 (.int .i64 n)] w fun ev w' => ev = .returned (.bool true) ∧ w' = w := by
  have c41 := @run_callFunc_extern Tryz.prog 114 _ ReflectliteType.typeOf Tryz.func114 (by kernel_rfl) (by kernel_rfl) (by kernel_rfl) (by kernel_rfl)
  have c89 := @run_callFunc_extern Tryz.prog 353 _ (ReflectliteType.method (fun t => do Rtype.noPackHeld "Comparable" t; pure (.bool (← typeInfo t).comparable))) Tryz.func353 (by kernel_rfl) (by kernel_rfl) (by kernel_rfl) (by kernel_rfl)
  have f1 := rl_typeOf30
  have f2 := rl_mComp
  have f3 := rl_comp30
  have f7 := eq_code n w
  unfold hnd at *
  go_enter Tryz.func79, Tryz.ntmps79
  go_wp2
  refine wp_loop_rounds 1 ?_
  rw [rounds_succ]
  go_wp2
  go_ret
  exact ⟨rfl, rfl⟩
set_option maxRecDepth 20000 in
set_option maxHeartbeats 4000000 in
theorem keepWhy_errno (b : Nat) (n : Int) (w : World) (hg : w.cell? ⟨0, 0, none⟩ = some (.iface 215 (.agg #[hnd 42]))) (h3 : w.cell? ⟨b, 3, none⟩ = some (.iface 34 (.int .i64 n))) :
    Calls Tryz.prog 51 #[.iface 98 (.pointer (some ⟨b, 0, none⟩)), .int .i64 n] w fun ev w' => ev = .returned (.bool true) ∧ Below w.heap.size w w' := by
  have bB2 := (Below.refl w.heap.size w).alloc (Nat.le_refl _) (.cells #[.pointer none] 98)
  have k3 := Blk.new w 98 #[.pointer none]
  have hbl : b < w.heap.size := by
    rcases Nat.lt_or_ge b w.heap.size with h | h
    · exact h
    · simp [World.cell?, Array.getElem?_eq_none h] at h3
  go_enter Tryz.func51, Tryz.ntmps51
  go_upto_region 2 with fail
  generalize w.alloc (.cells #[.pointer none] 98) = w2 at *
  have g2 := cell_keep bB2 hg
  have e3 := cell_keep bB2 h3
  clear h3 hg
  go_wp2_with fail
  refine (as_fault_b ⟨b, 0, none⟩ ⟨w.heap.size, 0, none⟩ (.pointer none) w2 g2 ?_ ?_).mono ?_
  · exact k3.cell 0
  · exact k3.frozen 0
  rintro _ w3 ⟨rfl, ht, hB3⟩
  have a3 : w3.cell? ⟨b, 3, none⟩ = some (.iface 34 (.int .i64 n)) := (hB3.cell (by show b < w.heap.size; omega)).trans e3
  have bB4 : Below w.heap.size w w3 := bB2.trans hB3
  have his := is_errno n w3
  clear k3 g2 e3 bB2 hB3
  go_wp2_with fail
  refine his.mono ?_
  rintro _ w4 ⟨rfl, hw4⟩
  rw [hw4]
  clear his hw4
  go_wp2_with fail
  go_ret
  exact ⟨rfl, bB4⟩

theorem keepIs_none (w : World) : Calls Tryz.prog 50 #[.nilIface, .agg #[.int .i64 0, .int .i64 0, .slice none 0 0]] w fun e w' => e = .returned (.bool true) ∧ Below w.heap.size w w' := by
  have hB := (Below.refl w.heap.size w).alloc (Nat.le_refl _) (.cells #[.int .i64 0, .int .i64 0, .slice none 0 0] 47)
  go_enter Tryz.func50, Tryz.ntmps50
  go_wp2
  go_ret
  exact ⟨rfl, hB⟩
theorem told_none (w : World) : Calls Tryz.prog 18 #[.nilIface, .agg #[.int .i64 0, .int .i64 0, .slice none 0 0], .int .i64 0] w fun e w' => e = .returned (.bool true) ∧ Below w.heap.size w w' := by
  have hb1 := (Below.refl w.heap.size w).alloc (Nat.le_refl _) (.cells #[.int .i64 0, .int .i64 0, .slice none 0 0] 47)
  have k1 := Blk.new w 47 #[.int .i64 0, .int .i64 0, .slice none 0 0]
  have his := keepIs_none (w.alloc (.cells #[.int .i64 0, .int .i64 0, .slice none 0 0] 47))
  have x0 : (w.alloc (.cells #[.int .i64 0, .int .i64 0, .slice none 0 0] 47)).cell? ⟨w.heap.size, 0, none⟩ = some (.int .i64 0) := k1.cell 0
  have x1 : (w.alloc (.cells #[.int .i64 0, .int .i64 0, .slice none 0 0] 47)).cell? ⟨w.heap.size, 1, none⟩ = some (.int .i64 0) := k1.cell 1
  have x2 : (w.alloc (.cells #[.int .i64 0, .int .i64 0, .slice none 0 0] 47)).cell? ⟨w.heap.size, 2, none⟩ = some (.slice none 0 0) := k1.cell 2
  go_enter Tryz.func18, Tryz.ntmps18
  go_wp2_with fail
  refine his.mono ?_
  rintro _ w2 ⟨rfl, hb2⟩
  have y0 : w2.cell? ⟨w.heap.size, 0, none⟩ = some (.int .i64 0) := (k1.old hb2).cell 0
  have hb02 := hb1.trans (hb2.mono hb1.size)
  clear his x0 x1 x2 k1
  go_wp2_with fail
  go_ret
  exact ⟨rfl, hb02⟩
set_option maxHeartbeats 2000000 in
set_option maxRecDepth 20000 in
theorem told_errno (b : Nat) (c at' n : Int) (v1 v2 : Value) (zs : List Int) (hz : zs.length ≤ 4611686018427387904) (w : World) (hne : c ≠ 0) (hn : n ≠ 0) (hg : ErrT w) (hB : Blk w b 100 #[.int .i64 c, .int .i64 at', v1, .iface 34 (.int .i64 n)])
    (hz1 : Ints w.heap.size w v1 zs) (hz2 : Ints w.heap.size w v2 zs) (h0 : 0 < w.heap.size) :
    Calls Tryz.prog 18 #[.iface 98 (.pointer (some ⟨b, 0, none⟩)), .agg #[.int .i64 c, .int .i64 at', v2], .int .i64 n] w fun ev w' => ev = .returned (.bool true) ∧ Below w.heap.size w w' := by
  have hb1 := (Below.refl w.heap.size w).alloc (Nat.le_refl _) (.cells #[.int .i64 c, .int .i64 at', v2] 47)
  have k1 := Blk.new w 47 #[.int .i64 c, .int .i64 at', v2]
  have hB1 := hB.old hb1
  have hg1 := hg.old h0 hb1
  have hzs := hb1.size
  have his := keepIs_path b c at' v1 v2 zs hz (w.alloc (.cells #[.int .i64 c, .int .i64 at', v2] 47)) hne hg1 (hB1.cell 0) (hB1.cell 1) (hB1.cell 2) ((hz1.below hb1 (Nat.le_refl _)).mono hzs) ((hz2.below hb1 (Nat.le_refl _)).mono hzs)
  obtain ⟨ya, yc, rfl⟩ := hz2.val
  have d0 : decide (c = 0) = false := by simpa using hne
  have d1 : (c == 0) = false := by simpa using hne
  have d2 : decide (n = 0) = false := by simpa using hn
  have d3 : (n == 0) = false := by simpa using hn
  have tt := ta98 (.pointer (some ⟨b, 0, none⟩))
  have x0 : (w.alloc (.cells #[.int .i64 c, .int .i64 at', .slice ya zs.length yc] 47)).cell? ⟨w.heap.size, 0, none⟩ = some (.int .i64 c) := k1.cell 0
  have x1 : (w.alloc (.cells #[.int .i64 c, .int .i64 at', .slice ya zs.length yc] 47)).cell? ⟨w.heap.size, 1, none⟩ = some (.int .i64 at') := k1.cell 1
  have x2 : (w.alloc (.cells #[.int .i64 c, .int .i64 at', .slice ya zs.length yc] 47)).cell? ⟨w.heap.size, 2, none⟩ = some (.slice ya zs.length yc) := k1.cell 2
  have HW : Hid (∀ W, Below (w.alloc (.cells #[.int .i64 c, .int .i64 at', .slice ya zs.length yc] 47)).heap.size (w.alloc (.cells #[.int .i64 c, .int .i64 at', .slice ya zs.length yc] 47)) W → Calls Tryz.prog 51 #[.iface 98 (.pointer (some ⟨b, 0, none⟩)), .int .i64 n] W fun ev w' => ev = .returned (.bool true) ∧ Below W.heap.size W w') := fun W hW =>
    keepWhy_errno b n W (hg1.old (by omega) hW) ((hB1.old hW).cell 3)
  clear hz1 hz2 hg hB hB1 hg1
  go_enter Tryz.func18, Tryz.ntmps18
  go_wp2_with fail
  refine his.mono ?_
  rintro _ w2 ⟨rfl, hb2⟩
  have y0 : w2.cell? ⟨w.heap.size, 0, none⟩ = some (.int .i64 c) := (k1.old hb2).cell 0
  have hwhy := HW.out w2 hb2
  have hb02 := hb1.trans (hb2.mono hb1.size)
  clear his HW x0 x1 x2 k1
  go_wp2_with fail
  refine hwhy.mono ?_
  rintro _ w3 ⟨rfl, hb3⟩
  go_wp2_with fail
  go_ret
  exact ⟨rfl, hb02.trans (hb3.mono hb02.size)⟩

set_option maxHeartbeats 2000000 in
set_option maxRecDepth 20000 in
theorem told_nil (b : Nat) (c at' : Int) (v1 v2 : Value) (zs : List Int) (hz : zs.length ≤ 4611686018427387904) (w : World) (hne : c ≠ 0) (hg : ErrT w) (hB : Blk w b 100 #[.int .i64 c, .int .i64 at', v1, .nilIface])
    (hz1 : Ints w.heap.size w v1 zs) (hz2 : Ints w.heap.size w v2 zs) (h0 : 0 < w.heap.size) :
    Calls Tryz.prog 18 #[.iface 98 (.pointer (some ⟨b, 0, none⟩)), .agg #[.int .i64 c, .int .i64 at', v2], .int .i64 0] w fun ev w' => ev = .returned (.bool true) ∧ Below w.heap.size w w' := by
  have hb1 := (Below.refl w.heap.size w).alloc (Nat.le_refl _) (.cells #[.int .i64 c, .int .i64 at', v2] 47)
  have k1 := Blk.new w 47 #[.int .i64 c, .int .i64 at', v2]
  have hB1 := hB.old hb1
  have hg1 := hg.old h0 hb1
  have hzs := hb1.size
  have his := keepIs_path b c at' v1 v2 zs hz (w.alloc (.cells #[.int .i64 c, .int .i64 at', v2] 47)) hne hg1 (hB1.cell 0) (hB1.cell 1) (hB1.cell 2) ((hz1.below hb1 (Nat.le_refl _)).mono hzs) ((hz2.below hb1 (Nat.le_refl _)).mono hzs)
  obtain ⟨ya, yc, rfl⟩ := hz2.val
  have d0 : decide (c = 0) = false := by simpa using hne
  have d1 : (c == 0) = false := by simpa using hne
  have tt := ta98 (.pointer (some ⟨b, 0, none⟩))
  have x0 : (w.alloc (.cells #[.int .i64 c, .int .i64 at', .slice ya zs.length yc] 47)).cell? ⟨w.heap.size, 0, none⟩ = some (.int .i64 c) := k1.cell 0
  have x1 : (w.alloc (.cells #[.int .i64 c, .int .i64 at', .slice ya zs.length yc] 47)).cell? ⟨w.heap.size, 1, none⟩ = some (.int .i64 at') := k1.cell 1
  have x2 : (w.alloc (.cells #[.int .i64 c, .int .i64 at', .slice ya zs.length yc] 47)).cell? ⟨w.heap.size, 2, none⟩ = some (.slice ya zs.length yc) := k1.cell 2
  clear hz1 hz2 hg hB hg1
  go_enter Tryz.func18, Tryz.ntmps18
  go_wp2_with fail
  refine his.mono ?_
  rintro _ w2 ⟨rfl, hb2⟩
  have y0 : w2.cell? ⟨w.heap.size, 0, none⟩ = some (.int .i64 c) := (k1.old hb2).cell 0
  have y3 : w2.cell? ⟨b, 3, none⟩ = some .nilIface := (hB1.old hb2).cell 3
  have hb02 := hb1.trans (hb2.mono hb1.size)
  clear his x0 x1 x2 k1 hB1
  go_wp2_with fail
  go_ret
  exact ⟨rfl, hb02⟩

theorem told_any (r : Bad) (w0 w : World) (ev : Value) (hr : ErrPost r w0 (.returned ev) w) (hc : ∀ c a P y, r = some (c, a, P, y) → c ≠ 0 ∧ P.length ≤ 1000) (wv : Value) (y : Int) (hI : (r = none ∧ wv = .agg #[.int .i64 0, .int .i64 0, .slice none 0 0] ∧ y = 0) ∨ ∃ c a P v, r = some (c, a, P, y) ∧ wv = .agg #[.int .i64 c, .int .i64 a, v] ∧ Ints w.heap.size w v P) (hE : ErrT w) (h0 : 0 < w.heap.size) :
    Calls Tryz.prog 18 #[ev, wv, .int .i64 y] w fun e w' => e = .returned (.bool true) ∧ Below w.heap.size w w' := by
  rcases hI with ⟨rfl, rfl, rfl⟩ | ⟨c, a, P, v, rfl, rfl, hv⟩
  · have e : ev = .nilIface := by have := hr.2; injection this
    subst e
    exact told_none w
  · obtain ⟨hc0, hPl⟩ := hc c a P y rfl
    obtain ⟨_, v', why, he, ⟨F, pa, pc, hv', _, hF1, hF2, _⟩, hW⟩ := hr
    cases he
    subst hv'
    have hz1 : Ints w.heap.size w (.slice pa P.length pc) P := hF2.ints
    rcases hW with ⟨rfl, rfl⟩ | ⟨rfl, rfl⟩ | ⟨hy, G, x, n, c', rfl, hG⟩
    · exact told_nil F c a _ v P (by omega) w hc0 hE hF1 hz1 hv h0
    · exact told_errno F c a 30 _ v P (by omega) w hc0 (by decide) hE hF1 hz1 hv h0
    · exact told_fault F G c a y _ v P (by omega) w hc0 hy hE hF1 (hG.cell 0) hz1 hv h0
end Go.Proofs.YtkjoomdglealmaaGreatDoor
