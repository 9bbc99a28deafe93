/- Contracts and lemmas (nothing is claimed here). -/
import Derived.Test.YtkjoomdglealmaaGreatDoorJ20
import Derived.Test.YtkjoomdglealmaaGreatDoorJ22
import Derived.Test.YtkjoomdglealmaaGreatDoorTell
import Derived.Deep.AppendLies
namespace Go.Proofs.YtkjoomdglealmaaGreatDoor
open Go.RowKit Go.Vf

def zer16 : ByteArray := ⟨#[0, 0, 0, 0, 0, 0, 0, 0, 0, 0, 0, 0, 0, 0, 0, 0]⟩
mutual
def lst : Fld → Prt
  | .mk o l => .mk o.kind false (if o.kind = 2 then o.ln else false) (if o.kind = 2 then o.lm else ⟨#[]⟩) (if o.kind = 4 then zer16 else ⟨#[]⟩) (if o.kind = 7 then lstL l else [])
def lstL : List Fld → List Prt
  | [] => []
  | f :: l => lst f :: lstL l
end
theorem lstL_map (l : List Fld) : lstL l = l.map lst := by
  induction l with
  | nil => rw [lstL]; rfl
  | cons f l ih => rw [lstL, ih]; rfl
theorem lst_2 {o : Go.Vf.Own} {l : List Fld} (h : o.kind = 2) : lst (.mk o l) = .mk 2 false o.ln o.lm ⟨#[]⟩ [] := by rw [lst, h]; rfl
theorem lst_4 {o : Go.Vf.Own} {l : List Fld} (h : o.kind = 4) : lst (.mk o l) = .mk 4 false false ⟨#[]⟩ zer16 [] := by rw [lst, h]; rfl
theorem lst_7 {o : Go.Vf.Own} {l : List Fld} (h : o.kind = 7) : lst (.mk o l) = tupP (lstL l) := by rw [lst, h]; rfl
theorem lst_o {o : Go.Vf.Own} {l : List Fld} (h2 : o.kind ≠ 2) (h4 : o.kind ≠ 4) (h7 : o.kind ≠ 7) : lst (.mk o l) = .mk o.kind false false ⟨#[]⟩ ⟨#[]⟩ [] := by
  rw [lst, if_neg h2, if_neg h2, if_neg h4, if_neg h7]

theorem res54_run {tmps : Array Value} {w : World} {b : Nat} {a0 a1 a2 a3 a4 a5 : Value} (h : Blk w b 30 #[a0, a1, a2, a3, a4, a5]) (t2 : tmps[2]?.getD undef = .pointer (some ⟨b, 0, none⟩)) :
    (results Tryz.f54 tmps).run Tryz.prog w = .ok (.agg #[a0, a1, a2, a3, a4, a5]) w := by
  obtain ⟨c0, c1, c2, c3, c4, c5⟩ := h.c6
  simp [results, Tryz.results54, go_sem, t2, c0, c1, c2, c3, c4, c5]

def LeastOk (f : Fld) : Prop := ∀ (a : Option Addr) (c lo n₀ : Nat) (w : World), n₀ ≤ w.heap.size → FIn w lo n₀ f.fields a →
  Calls Tryz.prog 54 #[fV f.own a f.fields.length c] w fun e w' => ∃ ap cp, e = .returned (pV (lst f) ap cp) ∧ PIn w' w.heap.size w'.heap.size (lst f) ap ∧ Below w.heap.size w w'
theorem pV_of (k : Int) (n : Bool) (m r : ByteArray) (a : Option Addr) (c : Nat) : pV (.mk k false n m r []) a c = .agg #[.int .u8 k, .bool false, .bool n, .string m, .string r, .slice a 0 c] := rfl

set_option maxHeartbeats 4000000 in
set_option maxRecDepth 20000 in
theorem least_o (o : Go.Vf.Own) (l : List Fld) (h2 : o.kind ≠ 2) (h4 : o.kind ≠ 4) (h7 : o.kind ≠ 7) : LeastOk (.mk o l) := by
  intro a c lo n₀ w hn₀ hin
  rw [lst_o h2 h4 h7]
  simp only [Fld.own, Fld.fields]
  clear hin
  have hb1 := (Below.refl w.heap.size w).alloc (Nat.le_refl _) (.cells #[.string o.name, .int .u8 o.kind, .bool o.down, .int .u8 o.nulls, .bool o.bnd, .bool o.ln, .string o.lm, .bool o.hn, .string o.hm, .int .i64 o.most, .int .i64 o.str, .bool o.shf, .bool o.bck, .slice a l.length c] 57)
  have hs1 := alloc_size w (.cells #[.string o.name, .int .u8 o.kind, .bool o.down, .int .u8 o.nulls, .bool o.bnd, .bool o.ln, .string o.lm, .bool o.hn, .string o.hm, .int .i64 o.most, .int .i64 o.str, .bool o.shf, .bool o.bck, .slice a l.length c] 57)
  have hA1 := Blk.new w 57 #[.string o.name, .int .u8 o.kind, .bool o.down, .int .u8 o.nulls, .bool o.bnd, .bool o.ln, .string o.lm, .bool o.hn, .string o.hm, .int .i64 o.most, .int .i64 o.str, .bool o.shf, .bool o.bck, .slice a l.length c]
  have hb2 := hb1.alloc hb1.size (.cells #[.int .u8 0, .bool false, .bool false, .string ⟨#[]⟩, .string ⟨#[]⟩, .slice none 0 0] 30)
  have hs2 := alloc_size (w.alloc (.cells #[.string o.name, .int .u8 o.kind, .bool o.down, .int .u8 o.nulls, .bool o.bnd, .bool o.ln, .string o.lm, .bool o.hn, .string o.hm, .int .i64 o.most, .int .i64 o.str, .bool o.shf, .bool o.bck, .slice a l.length c] 57)) (.cells #[.int .u8 0, .bool false, .bool false, .string ⟨#[]⟩, .string ⟨#[]⟩, .slice none 0 0] 30)
  have hb12 := (Below.refl _ (w.alloc (.cells #[.string o.name, .int .u8 o.kind, .bool o.down, .int .u8 o.nulls, .bool o.bnd, .bool o.ln, .string o.lm, .bool o.hn, .string o.hm, .int .i64 o.most, .int .i64 o.str, .bool o.shf, .bool o.bck, .slice a l.length c] 57))).alloc (Nat.le_refl _) (.cells #[.int .u8 0, .bool false, .bool false, .string ⟨#[]⟩, .string ⟨#[]⟩, .slice none 0 0] 30)
  have hZ2 := Blk.new (w.alloc (.cells #[.string o.name, .int .u8 o.kind, .bool o.down, .int .u8 o.nulls, .bool o.bnd, .bool o.ln, .string o.lm, .bool o.hn, .string o.hm, .int .i64 o.most, .int .i64 o.str, .bool o.shf, .bool o.bck, .slice a l.length c] 57)) 30 #[.int .u8 0, .bool false, .bool false, .string ⟨#[]⟩, .string ⟨#[]⟩, .slice none 0 0]
  have hA2 := hA1.old hb12
  have hb3 := hb2.alloc hb2.size (.cells #[.int .u8 o.kind, .bool false, .bool false, .string ⟨#[]⟩, .string ⟨#[]⟩, .slice none 0 0] 30)
  have hs3 := alloc_size ((w.alloc (.cells #[.string o.name, .int .u8 o.kind, .bool o.down, .int .u8 o.nulls, .bool o.bnd, .bool o.ln, .string o.lm, .bool o.hn, .string o.hm, .int .i64 o.most, .int .i64 o.str, .bool o.shf, .bool o.bck, .slice a l.length c] 57)).alloc (.cells #[.int .u8 0, .bool false, .bool false, .string ⟨#[]⟩, .string ⟨#[]⟩, .slice none 0 0] 30)) (.cells #[.int .u8 o.kind, .bool false, .bool false, .string ⟨#[]⟩, .string ⟨#[]⟩, .slice none 0 0] 30)
  have hb23 := (Below.refl _ ((w.alloc (.cells #[.string o.name, .int .u8 o.kind, .bool o.down, .int .u8 o.nulls, .bool o.bnd, .bool o.ln, .string o.lm, .bool o.hn, .string o.hm, .int .i64 o.most, .int .i64 o.str, .bool o.shf, .bool o.bck, .slice a l.length c] 57)).alloc (.cells #[.int .u8 0, .bool false, .bool false, .string ⟨#[]⟩, .string ⟨#[]⟩, .slice none 0 0] 30))).alloc (Nat.le_refl _) (.cells #[.int .u8 o.kind, .bool false, .bool false, .string ⟨#[]⟩, .string ⟨#[]⟩, .slice none 0 0] 30)
  have hP3 := Blk.new ((w.alloc (.cells #[.string o.name, .int .u8 o.kind, .bool o.down, .int .u8 o.nulls, .bool o.bnd, .bool o.ln, .string o.lm, .bool o.hn, .string o.hm, .int .i64 o.most, .int .i64 o.str, .bool o.shf, .bool o.bck, .slice a l.length c] 57)).alloc (.cells #[.int .u8 0, .bool false, .bool false, .string ⟨#[]⟩, .string ⟨#[]⟩, .slice none 0 0] 30)) 30 #[.int .u8 o.kind, .bool false, .bool false, .string ⟨#[]⟩, .string ⟨#[]⟩, .slice none 0 0]
  have hA3 := hA2.old hb23
  have hZ3 := hZ2.old hb23
  rw [hs1] at hZ3 hs2 hZ2
  rw [hs2] at hs3 hP3
  have t1 : decide (o.kind = 2) = false := decide_eq_false h2
  have t2 : decide (o.kind = 4) = false := decide_eq_false h4
  have t3 : decide (o.kind = 7) = false := decide_eq_false h7
  have u1 : (o.kind == 2) = false := by simpa using h2
  have u2 : (o.kind == 4) = false := by simpa using h4
  have u3 : (o.kind == 7) = false := by simpa using h7
  unfold fV
  go_enter Tryz.func54, Tryz.ntmps54
  go_upto_region 2 with fail
  generalize (((w.alloc (.cells #[.string o.name, .int .u8 o.kind, .bool o.down, .int .u8 o.nulls, .bool o.bnd, .bool o.ln, .string o.lm, .bool o.hn, .string o.hm, .int .i64 o.most, .int .i64 o.str, .bool o.shf, .bool o.bck, .slice a l.length c] 57)).alloc (.cells #[.int .u8 0, .bool false, .bool false, .string ⟨#[]⟩, .string ⟨#[]⟩, .slice none 0 0] 30)).alloc (.cells #[.int .u8 o.kind, .bool false, .bool false, .string ⟨#[]⟩, .string ⟨#[]⟩, .slice none 0 0] 30)) = w3 at *
  clear hb1 hb2 hb12 hb23 hs1 hs2 hA1 hA2 hZ2
  obtain ⟨c0, c1, c2, c3, c4, c5, c6, c7, c8, c9, c10, c11, c12, c13⟩ := hA3.c14
  obtain ⟨p0, p1, p2, p3, p4, p5⟩ := hP3.c6
  obtain ⟨z0, z1, z2, z3, z4, z5⟩ := hZ3.c6
  have f0 := hZ3.frozen 0
  have f1 := hZ3.frozen 1
  have f2 := hZ3.frozen 2
  have f3 := hZ3.frozen 3
  have f4 := hZ3.frozen 4
  have f5 := hZ3.frozen 5
  have hZ9 := hZ3
  have hfin := hZ9.set6 (.int .u8 o.kind) (.bool false) (.bool false) (.string ⟨#[]⟩) (.string ⟨#[]⟩) (.slice none 0 0)
  have hbw := set6_below hb3 (show w.heap.size ≤ w.heap.size + 1 by omega) 0 (.int .u8 o.kind) (.bool false) (.bool false) (.string ⟨#[]⟩) (.string ⟨#[]⟩) (.slice none 0 0)
  clear hP3 hZ3 hZ9 hA3 h2 h4 h7
  go_wp2_with fail
  refine bodyPost_ret (res54_run (b := w.heap.size + 1) hfin rfl) rfl ?_
  exact ⟨none, 0, by rw [pV_of], .nil rfl, hbw⟩

set_option maxHeartbeats 4000000 in
set_option maxRecDepth 20000 in
theorem least_4 (o : Go.Vf.Own) (l : List Fld) (h4 : o.kind = 4) (hrep : ∀ w, Calls Tryz.prog 85 #[.string ⟨#[0]⟩, .int .i64 16] w fun e w' => e = .returned (.string zer16) ∧ Below w.heap.size w w') : LeastOk (.mk o l) := by
  intro a c lo n₀ w hn₀ hin
  rw [lst_4 h4]
  simp only [Fld.own, Fld.fields]
  clear hin
  unfold fV
  rw [h4]
  have hb1 := (Below.refl w.heap.size w).alloc (Nat.le_refl _) (.cells #[.string o.name, .int .u8 4, .bool o.down, .int .u8 o.nulls, .bool o.bnd, .bool o.ln, .string o.lm, .bool o.hn, .string o.hm, .int .i64 o.most, .int .i64 o.str, .bool o.shf, .bool o.bck, .slice a l.length c] 57)
  have hs1 := alloc_size w (.cells #[.string o.name, .int .u8 4, .bool o.down, .int .u8 o.nulls, .bool o.bnd, .bool o.ln, .string o.lm, .bool o.hn, .string o.hm, .int .i64 o.most, .int .i64 o.str, .bool o.shf, .bool o.bck, .slice a l.length c] 57)
  have hA1 := Blk.new w 57 #[.string o.name, .int .u8 4, .bool o.down, .int .u8 o.nulls, .bool o.bnd, .bool o.ln, .string o.lm, .bool o.hn, .string o.hm, .int .i64 o.most, .int .i64 o.str, .bool o.shf, .bool o.bck, .slice a l.length c]
  have hb2 := hb1.alloc hb1.size (.cells #[.int .u8 0, .bool false, .bool false, .string ⟨#[]⟩, .string ⟨#[]⟩, .slice none 0 0] 30)
  have hs2 := alloc_size (w.alloc (.cells #[.string o.name, .int .u8 4, .bool o.down, .int .u8 o.nulls, .bool o.bnd, .bool o.ln, .string o.lm, .bool o.hn, .string o.hm, .int .i64 o.most, .int .i64 o.str, .bool o.shf, .bool o.bck, .slice a l.length c] 57)) (.cells #[.int .u8 0, .bool false, .bool false, .string ⟨#[]⟩, .string ⟨#[]⟩, .slice none 0 0] 30)
  have hb12 := (Below.refl _ (w.alloc (.cells #[.string o.name, .int .u8 4, .bool o.down, .int .u8 o.nulls, .bool o.bnd, .bool o.ln, .string o.lm, .bool o.hn, .string o.hm, .int .i64 o.most, .int .i64 o.str, .bool o.shf, .bool o.bck, .slice a l.length c] 57))).alloc (Nat.le_refl _) (.cells #[.int .u8 0, .bool false, .bool false, .string ⟨#[]⟩, .string ⟨#[]⟩, .slice none 0 0] 30)
  have hZ2 := Blk.new (w.alloc (.cells #[.string o.name, .int .u8 4, .bool o.down, .int .u8 o.nulls, .bool o.bnd, .bool o.ln, .string o.lm, .bool o.hn, .string o.hm, .int .i64 o.most, .int .i64 o.str, .bool o.shf, .bool o.bck, .slice a l.length c] 57)) 30 #[.int .u8 0, .bool false, .bool false, .string ⟨#[]⟩, .string ⟨#[]⟩, .slice none 0 0]
  have hA2 := hA1.old hb12
  have hb3 := hb2.alloc hb2.size (.cells #[.int .u8 4, .bool false, .bool false, .string ⟨#[]⟩, .string ⟨#[]⟩, .slice none 0 0] 30)
  have hs3 := alloc_size ((w.alloc (.cells #[.string o.name, .int .u8 4, .bool o.down, .int .u8 o.nulls, .bool o.bnd, .bool o.ln, .string o.lm, .bool o.hn, .string o.hm, .int .i64 o.most, .int .i64 o.str, .bool o.shf, .bool o.bck, .slice a l.length c] 57)).alloc (.cells #[.int .u8 0, .bool false, .bool false, .string ⟨#[]⟩, .string ⟨#[]⟩, .slice none 0 0] 30)) (.cells #[.int .u8 4, .bool false, .bool false, .string ⟨#[]⟩, .string ⟨#[]⟩, .slice none 0 0] 30)
  have hb23 := (Below.refl _ ((w.alloc (.cells #[.string o.name, .int .u8 4, .bool o.down, .int .u8 o.nulls, .bool o.bnd, .bool o.ln, .string o.lm, .bool o.hn, .string o.hm, .int .i64 o.most, .int .i64 o.str, .bool o.shf, .bool o.bck, .slice a l.length c] 57)).alloc (.cells #[.int .u8 0, .bool false, .bool false, .string ⟨#[]⟩, .string ⟨#[]⟩, .slice none 0 0] 30))).alloc (Nat.le_refl _) (.cells #[.int .u8 4, .bool false, .bool false, .string ⟨#[]⟩, .string ⟨#[]⟩, .slice none 0 0] 30)
  have hP3 := Blk.new ((w.alloc (.cells #[.string o.name, .int .u8 4, .bool o.down, .int .u8 o.nulls, .bool o.bnd, .bool o.ln, .string o.lm, .bool o.hn, .string o.hm, .int .i64 o.most, .int .i64 o.str, .bool o.shf, .bool o.bck, .slice a l.length c] 57)).alloc (.cells #[.int .u8 0, .bool false, .bool false, .string ⟨#[]⟩, .string ⟨#[]⟩, .slice none 0 0] 30)) 30 #[.int .u8 4, .bool false, .bool false, .string ⟨#[]⟩, .string ⟨#[]⟩, .slice none 0 0]
  have hA3 := hA2.old hb23
  have hZ3 := hZ2.old hb23
  rw [hs1] at hZ3 hs2 hZ2
  rw [hs2] at hs3 hP3
  go_enter Tryz.func54, Tryz.ntmps54
  go_upto_region 2 with fail
  generalize (((w.alloc (.cells #[.string o.name, .int .u8 4, .bool o.down, .int .u8 o.nulls, .bool o.bnd, .bool o.ln, .string o.lm, .bool o.hn, .string o.hm, .int .i64 o.most, .int .i64 o.str, .bool o.shf, .bool o.bck, .slice a l.length c] 57)).alloc (.cells #[.int .u8 0, .bool false, .bool false, .string ⟨#[]⟩, .string ⟨#[]⟩, .slice none 0 0] 30)).alloc (.cells #[.int .u8 4, .bool false, .bool false, .string ⟨#[]⟩, .string ⟨#[]⟩, .slice none 0 0] 30)) = w3 at *
  clear hb1 hb2 hb12 hb23 hs1 hs2 hA1 hA2 hZ2
  obtain ⟨c0, c1, c2, c3, c4, c5, c6, c7, c8, c9, c10, c11, c12, c13⟩ := hA3.c14
  have hr := hrep w3
  clear hrep
  go_wp2_with fail
  refine hr.mono ?_
  rintro _ w4 ⟨rfl, hb4⟩
  have hP4 := hP3.old hb4
  have hZ4 := hZ3.old hb4
  have g5 : w4.cell? ⟨w.heap.size + 1 + 1, 4, none⟩ = some (.string ⟨#[]⟩) := hP4.cell 4
  have g6 : w4.frozen? ⟨w.heap.size + 1 + 1, 4, none⟩ = false := hP4.frozen 4
  have hP5 : Blk (w4.setCell ⟨w.heap.size + 1 + 1, 4, none⟩ (.string zer16)) (w.heap.size + 1 + 1) 30 #[.int .u8 4, .bool false, .bool false, .string ⟨#[]⟩, .string zer16, .slice none 0 0] := by
    have := hP4.set 4 (.string zer16)
    simpa using this
  have hZ5 := hZ4.other (p := ⟨w.heap.size + 1 + 1, 4, none⟩) (by show w.heap.size + 1 ≠ w.heap.size + 1 + 1; omega) (.string zer16)
  have hb5 := (hb3.trans (hb4.mono hb3.size)).setCell (p := ⟨w.heap.size + 1 + 1, 4, none⟩) (by show w.heap.size ≤ w.heap.size + 1 + 1; omega) (.string zer16)
  clear hr c0 c1 c2 c3 c4 c5 c6 c7 c8 c9 c10 c11 c12 c13
  go_upto_region 13 with fail
  generalize w4.setCell ⟨w.heap.size + 1 + 1, 4, none⟩ (.string zer16) = w5 at *
  obtain ⟨p0, p1, p2, p3, p4, p5⟩ := hP5.c6
  obtain ⟨z0, z1, z2, z3, z4, z5⟩ := hZ5.c6
  have f0 := hZ5.frozen 0
  have f1 := hZ5.frozen 1
  have f2 := hZ5.frozen 2
  have f3 := hZ5.frozen 3
  have f4 := hZ5.frozen 4
  have f5 := hZ5.frozen 5
  have hZ9 := hZ5
  have hfin := hZ9.set6 (.int .u8 4) (.bool false) (.bool false) (.string ⟨#[]⟩) (.string zer16) (.slice none 0 0)
  have hbw := set6_below hb5 (show w.heap.size ≤ w.heap.size + 1 by omega) 0 (.int .u8 4) (.bool false) (.bool false) (.string ⟨#[]⟩) (.string zer16) (.slice none 0 0)
  clear hP3 hZ3 hZ9 hA3 h4 hP4 hZ4 hP5 hZ5 g5 g6
  go_wp2_with fail
  refine bodyPost_ret (res54_run (b := w.heap.size + 1) hfin rfl) rfl ?_
  exact ⟨none, 0, by rw [pV_of], .nil rfl, hbw⟩
end Go.Proofs.YtkjoomdglealmaaGreatDoor

namespace Go.Proofs.YtkjoomdglealmaaGreatDoor
open Go.RowKit Go.Vf
theorem PItm.step {lo lo2 : Nat} {wr : World} {v : Value} {acc : List Prt} (h : PItm lo wr v acc) (hlo : lo ≤ lo2) (hlo2 : lo2 ≤ wr.heap.size) (hrow : ∀ k, v.ownBlock = some k → k < lo2) (ha : acc.length < 1024) {p : Prt} {ap : Option Addr} {cp : Nat} (hx : PIn wr lo2 wr.heap.size p ap)
    {ops : Array Oper} {o : Oper} {a : Act} {K : Act → World → Prop} {Q : Exit → Act → World → Prop} {E : Prop} (s y : Operand) (hgd : o.guard = none) (ho : o.op = .call { callee := .builtin .append, args := #[s, y], argTypes := #[28, 28] }) (hs : a.eval s = v) (hy : a.eval y = .slice (some ⟨wr.heap.size, 0, none⟩) 1 1)
    (hK : ∀ v' w', PItm lo w' v' (acc ++ [p]) → Below lo wr w' → (∀ b, b < wr.heap.size → v.ownBlock ≠ some b → w'.heap[b]? = wr.heap[b]?) → K (a.put o.dst v') w') : if Region.wanted o (yielded ops a.tmps) = true then Oper.wp Tryz.prog o a (wr.alloc (.cells #[.int .u8 p.kind, .bool p.yes, .bool p.neg, .string p.mag, .string p.raw, .slice ap p.items.length cp] 30)) K Q else E := by
  obtain ⟨i, hi, hzz⟩ := Option.map_eq_some_iff.1 info27p
  simp only [Prod.mk.injEq] at hzz
  obtain ⟨hz, hsz, hby⟩ := hzz
  obtain ⟨⟨ts, rfl, h1, h2⟩, h3⟩ := h
  rw [List.length_map] at ha h3
  have hBk := Blk.new wr 30 #[.int .u8 p.kind, .bool p.yes, .bool p.neg, .string p.mag, .string p.raw, .slice ap p.items.length cp]
  have hbA := (Below.refl wr.heap.size wr).alloc (Nat.le_refl _) (.cells #[.int .u8 p.kind, .bool p.yes, .bool p.neg, .string p.mag, .string p.raw, .slice ap p.items.length cp] 30)
  have hsA := alloc_size wr (.cells #[.int .u8 p.kind, .bool p.yes, .bool p.neg, .string p.mag, .string p.raw, .slice ap p.items.length cp] 30)
  have hownA := World.ownsRow.alloc h1 (.cells #[.int .u8 p.kind, .bool p.yes, .bool p.neg, .string p.mag, .string p.raw, .slice ap p.items.length cp] 30)
  have hfl : flatT [(p, ap, cp)] = [.int .u8 p.kind, .bool p.yes, .bool p.neg, .string p.mag, .string p.raw, .slice ap p.items.length cp] := rfl
  generalize hW : wr.alloc (.cells #[.int .u8 p.kind, .bool p.yes, .bool p.neg, .string p.mag, .string p.raw, .slice ap p.items.length cp] 30) = wA at *
  have hnews : ∀ j u, (flatT [(p, ap, cp)])[j]? = some u → wA.cell? ((⟨wr.heap.size, 0, none⟩ : Addr).add j) = some u := fun j u hu => by
    rw [Go.WideShapes.add_plain, Nat.zero_add, hBk.cell j, ← hu, hfl]
    simp
  refine step_append_lies wA hgd s y 28 ho lo 30 i _ 6 72 Tryz.underlying28 hi hz hsz hby rfl (by decide) v ts.length (flatT ts) hs hownA ⟨wr.heap.size, 0, none⟩ 1 1 (flatT [(p, ap, cp)]) hy (flatT_len _) hnews (by rw [hfl]; intro u hu; simp at hu; rcases hu with rfl | rfl | rfl | rfl | rfl | rfl <;> rfl) (by decide) (by simp [maxLen]; omega) (by omega) (by omega) wA.heap.size rfl ?_
  intro gg cap' w' ho' hg' hat0 _
  obtain ⟨v', hv'⟩ : ∃ v', Value.slice (some ⟨gg, 0, none⟩) (ts.length + 1) cap' = v' := ⟨_, rfl⟩
  have hat : v'.ownBlock = v.ownBlock ∨ v'.ownBlock = some wA.heap.size := by
    rw [← hv']
    rcases hat0 with h | h
    · exact .inl (by rw [h]; rfl)
    · exact .inr (by rw [h]; rfl)
  rw [hv'] at ho' ⊢
  have hb' : Below lo wr w' := (hbA.mono (by omega)).grown hg' (by rw [hsA]; omega) (fun k hk => (World.ownsRow.lt hownA k hk).1)
  have hblk : ∀ b, b < wr.heap.size → v.ownBlock ≠ some b → w'.heap[b]? = wr.heap[b]? := fun b hb hne => (hg'.block b (by rw [hsA]; omega) (fun e => hne e.symm)).trans (hbA.block b hb)
  have hS : ∀ b, b < wr.heap.size → v.ownBlock ≠ some b → v'.ownBlock ≠ some b := fun b hb hne e => by
    rcases hat with h | h
    · exact hne (h.symm.trans e)
    · rw [e] at h; simp only [Option.some.injEq] at h; rw [hsA] at h; omega
  have hsz' := hb'.size
  refine hK v' w' ⟨⟨ts ++ [(p, ap, cp)], by simp, by rw [List.length_append, flatT, List.flatMap_append]; exact ho', fun t ht => ?_⟩, by simp; omega⟩ hb' hblk
  rcases List.mem_append.1 ht with ht | ht
  · exact (h2 t ht).keep (fun b q => hblk b q.2.1 q.2.2) (fun b q => ⟨q.1, by omega, hS b q.2.1 q.2.2⟩)
  · simp only [List.mem_singleton] at ht
    subst ht
    have hne : ∀ b, lo2 ≤ b → v.ownBlock ≠ some b := fun b hb e => by have := hrow b e; omega
    have hx' : PAt wr (fun b => lo2 ≤ b ∧ b < wr.heap.size) p ap := PAt.of hx fun b q1 q2 => ⟨q1, q2⟩
    exact hx'.keep (fun b q => hblk b q.2 (hne b q.1)) (fun b q => ⟨by omega, by omega, hS b q.2 (hne b q.1)⟩)
end Go.Proofs.YtkjoomdglealmaaGreatDoor
