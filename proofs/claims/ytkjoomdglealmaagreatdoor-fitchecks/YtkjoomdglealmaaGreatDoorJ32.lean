/- Contracts and lemmas (nothing is claimed here). -/
import Derived.Test.YtkjoomdglealmaaGreatDoorJ29
import Derived.Test.YtkjoomdglealmaaGreatDoorJ28
namespace Go.Proofs.YtkjoomdglealmaaGreatDoor
open Go.RowKit Go.Vf

theorem res17_run {tmps : Array Value} {w : World} {b : Nat} {a0 a1 a2 v5 : Value} (h : Blk w b 47 #[a0, a1, a2]) (t4 : tmps[4]?.getD undef = .pointer (some ⟨b, 0, none⟩)) (t5 : tmps[5]?.getD undef = v5) :
    (results Tryz.f17 tmps).run Tryz.prog w = .ok (.tuple #[.agg #[a0, a1, a2], v5]) w := by
  have c0 := h.cell 0
  have c1 := h.cell 1
  have c2 := h.cell 2
  simp at c0 c1 c2
  simp [results, Tryz.results17, go_sem, t4, t5, c0, c1, c2]

set_option maxHeartbeats 4000000 in
set_option maxRecDepth 20000 in
theorem checkWhy_any (limit : Int) (l : List Fld) (hf : ∀ x ∈ l, FitsF 17179869184 x) (hll : l.length ≤ 17179869184) (p : Prt) (hm : may p = true) (hd : dep p ≤ 100) (a pa : Option Addr) (c pc lo n₀ : Nat) (_hc : l.length ≤ c) (w : World) (hn₀ : n₀ ≤ w.heap.size) (hin : FIn w lo n₀ l a) (hpin : PIn w lo n₀ p pa) :
    Calls Tryz.prog 17 #[.agg #[.int .i64 limit, .slice a l.length c], .agg #[.int .u8 p.kind, .bool p.yes, .bool p.neg, .string p.mag, .string p.raw, .slice pa p.items.length pc]] w (InnPost (argE (chkS bndQ limit l).1 (unf utfAt (.mk tupO l) p)) w) := by
  obtain ⟨q, hq⟩ : ∃ q, (chkS bndQ limit l).1 = q := ⟨_, rfl⟩
  obtain ⟨Z, hZ⟩ : ∃ Z, unf utfAt (.mk tupO l) p = Z := ⟨_, rfl⟩
  have href : ∀ W, Below w.heap.size w W → Calls Tryz.prog 48 #[.agg #[.int .i64 limit, .slice a l.length c]] W fun e w' => e = .returned (.int .i64 q) ∧ Below W.heap.size W w' := fun W hW => by
    have := refused_any limit l a c lo n₀ W hf hll (by have := hW.size; omega) (hin.keep hW hn₀)
    rw [hq] at this
    exact this
  have hinn : q = 0 → ∀ W, Below w.heap.size w W → Calls Tryz.prog 49 #[.agg #[.string ⟨#[]⟩, .int .u8 7, .bool false, .int .u8 0, .bool false, .bool false, .string ⟨#[]⟩, .bool false, .string ⟨#[]⟩, .int .i64 0, .int .i64 0, .bool false, .bool false, .slice a l.length c], .agg #[.int .u8 p.kind, .bool p.yes, .bool p.neg, .string p.mag, .string p.raw, .slice pa p.items.length pc]] W (InnPost Z W) := fun h0 W hW => by
    have := inner_any (.mk tupO l) (.mk (show (1 : Int) ≤ tupO.kind by decide) (show tupO.kind ≤ 7 by decide) (show tupO.lm.size ≤ 17179869184 by decide) (show tupO.hm.size ≤ 17179869184 by decide) (fun h => by cases h) hll (fun x hx => (chkS_seen (hq.trans h0) x hx).good (hf x hx))) p hm hd a pa c pc lo n₀ W (by have := hW.size; omega) (hin.keep hW hn₀) (hpin.keep hW hn₀)
    rw [hZ] at this
    exact this
  rw [hq, hZ]
  obtain ⟨R, hR⟩ : ∃ R, argE q Z = R := ⟨_, rfl⟩
  rw [hR]
  have HR : Hid (argE q Z = R) := hR
  clear hR hq hZ hin hpin hf hm hd hll
  have hb1 := (Below.refl w.heap.size w).alloc (Nat.le_refl _) (.cells #[.int .i64 limit, .slice a l.length c] 24)
  have hs1 := alloc_size w (.cells #[.int .i64 limit, .slice a l.length c] 24)
  have hA1 := Blk.new w 24 #[.int .i64 limit, .slice a l.length c]
  have hb12 := (Below.refl _ (w.alloc (.cells #[.int .i64 limit, .slice a l.length c] 24))).alloc (Nat.le_refl _) (.cells #[.int .u8 p.kind, .bool p.yes, .bool p.neg, .string p.mag, .string p.raw, .slice pa p.items.length pc] 30)
  have hs2 := alloc_size (w.alloc (.cells #[.int .i64 limit, .slice a l.length c] 24)) (.cells #[.int .u8 p.kind, .bool p.yes, .bool p.neg, .string p.mag, .string p.raw, .slice pa p.items.length pc] 30)
  have hP2 := Blk.new (w.alloc (.cells #[.int .i64 limit, .slice a l.length c] 24)) 30 #[.int .u8 p.kind, .bool p.yes, .bool p.neg, .string p.mag, .string p.raw, .slice pa p.items.length pc]
  have hb23 := (Below.refl _ ((w.alloc (.cells #[.int .i64 limit, .slice a l.length c] 24)).alloc (.cells #[.int .u8 p.kind, .bool p.yes, .bool p.neg, .string p.mag, .string p.raw, .slice pa p.items.length pc] 30))).alloc (Nat.le_refl _) (.cells #[.int .i64 0, .int .i64 0, .slice none 0 0] 47)
  have hR3 := Blk.new ((w.alloc (.cells #[.int .i64 limit, .slice a l.length c] 24)).alloc (.cells #[.int .u8 p.kind, .bool p.yes, .bool p.neg, .string p.mag, .string p.raw, .slice pa p.items.length pc] 30)) 47 #[.int .i64 0, .int .i64 0, .slice none 0 0]
  have hA3 := (hA1.old hb12).old hb23
  have hP3 := hP2.old hb23
  have hb3 := hb1.trans ((hb12.trans (hb23.mono hb12.size)).mono hb1.size)
  rw [hs1] at hP3 hs2
  rw [hs2] at hR3
  go_enter Tryz.func17, Tryz.ntmps17
  go_upto_region 1 with fail
  generalize (((w.alloc (.cells #[.int .i64 limit, .slice a l.length c] 24)).alloc (.cells #[.int .u8 p.kind, .bool p.yes, .bool p.neg, .string p.mag, .string p.raw, .slice pa p.items.length pc] 30)).alloc (.cells #[.int .i64 0, .int .i64 0, .slice none 0 0] 47)) = w3 at *
  clear hb1 hb12 hb23 hs1 hs2 hA1 hP2
  have c0 : w3.cell? ⟨w.heap.size, 0, none⟩ = some (.int .i64 limit) := hA3.cell 0
  have c1 : w3.cell? ⟨w.heap.size, 1, none⟩ = some (.slice a l.length c) := hA3.cell 1
  obtain ⟨p0, p1, p2, p3, p4, p5⟩ := hP3.c6
  have hr3 := href w3 hb3
  clear href
  go_wp2_with fail
  refine hr3.mono ?_
  rintro _ w4 ⟨rfl, hb4⟩
  have hb04 := hb3.trans (hb4.mono hb3.size)
  have hA4 := hA3.old hb4
  have hP4 := hP3.old hb4
  have hR4 := hR3.old hb4
  clear c0 c1 p0 p1 p2 p3 p4 p5 hr3 hA3 hP3 hR3
  by_cases h0 : q = 0
  case neg =>
    have t1 : (q != 0) = true := bne_iff_ne.2 h0
    have t2 : (q == 0) = false := by simpa using h0
    have t3 : decide (q = 0) = false := decide_eq_false h0
    have hRq : R = some (1, 0, [], q) := by rw [← HR.out, argE, if_neg h0]
    have z0 : w4.cell? ⟨w.heap.size + 1 + 1, 0, none⟩ = some (.int .i64 0) := hR4.cell 0
    have z1 : w4.cell? ⟨w.heap.size + 1 + 1, 1, none⟩ = some (.int .i64 0) := hR4.cell 1
    have z2 : w4.cell? ⟨w.heap.size + 1 + 1, 2, none⟩ = some (.slice none 0 0) := hR4.cell 2
    have f0 := hR4.frozen 0
    have f1 := hR4.frozen 1
    have f2 := hR4.frozen 2
    have hfin := hR4.set3 (.int .i64 1) (.int .i64 0) (.slice none 0 0)
    have hbw := ((hb04.setCell (p := ⟨w.heap.size + 1 + 1, 0, none⟩) (by show w.heap.size ≤ w.heap.size + 1 + 1; omega) (.int .i64 1)).setCell (p := ⟨w.heap.size + 1 + 1, 1, none⟩) (by show w.heap.size ≤ w.heap.size + 1 + 1; omega) (.int .i64 0)).setCell (p := ⟨w.heap.size + 1 + 1, 2, none⟩) (by show w.heap.size ≤ w.heap.size + 1 + 1; omega) (.slice none 0 0)
    clear hinn hA4 hP4 hR4 HR h0
    go_wp2_with fail
    refine bodyPost_ret (res17_run (b := w.heap.size + 1 + 1) (v5 := .int .i64 q) hfin rfl rfl) rfl ?_
    rw [hRq]
    exact ⟨hbw, _, rfl, IOwn.nil _ _⟩
  have hRq : R = Z := by rw [← HR.out, argE, if_pos h0]
  have hu := hinn h0 w4 hb04
  subst h0
  clear hinn HR
  have c0 : w4.cell? ⟨w.heap.size, 0, none⟩ = some (.int .i64 limit) := hA4.cell 0
  have c1 : w4.cell? ⟨w.heap.size, 1, none⟩ = some (.slice a l.length c) := hA4.cell 1
  obtain ⟨p0, p1, p2, p3, p4, p5⟩ := hP4.c6
  go_wp2_with fail
  refine hu.mono ?_
  intro e w5 hEP
  obtain ⟨v5, rfl, hEP⟩ := hEP.val
  have hb05 := hb04.trans (hEP.1.mono hb04.size)
  have hR5 := hR4.old hEP.1
  clear c0 c1 p0 p1 p2 p3 p4 p5 hu hA4 hP4 hR4
  have z0 : w5.cell? ⟨w.heap.size + 1 + 1, 0, none⟩ = some (.int .i64 0) := hR5.cell 0
  have z1 : w5.cell? ⟨w.heap.size + 1 + 1, 1, none⟩ = some (.int .i64 0) := hR5.cell 1
  have z2 : w5.cell? ⟨w.heap.size + 1 + 1, 2, none⟩ = some (.slice none 0 0) := hR5.cell 2
  have f0 := hR5.frozen 0
  have f1 := hR5.frozen 1
  have f2 := hR5.frozen 2
  cases hZ : Z with
  | none =>
    rw [hZ] at hEP
    have hev : v5 = .tuple #[.agg #[.int .i64 0, .int .i64 0, .slice none 0 0], .int .i64 0] := by have := hEP.2; injection this
    subst hev
    rw [hZ] at hRq
    have hfin := hR5.set3 (.int .i64 0) (.int .i64 0) (.slice none 0 0)
    have hbw := ((hb05.setCell (p := ⟨w.heap.size + 1 + 1, 0, none⟩) (by show w.heap.size ≤ w.heap.size + 1 + 1; omega) (.int .i64 0)).setCell (p := ⟨w.heap.size + 1 + 1, 1, none⟩) (by show w.heap.size ≤ w.heap.size + 1 + 1; omega) (.int .i64 0)).setCell (p := ⟨w.heap.size + 1 + 1, 2, none⟩) (by show w.heap.size ≤ w.heap.size + 1 + 1; omega) (.slice none 0 0)
    clear hEP hR5 hZ
    go_wp2_with fail
    refine bodyPost_ret (res17_run (b := w.heap.size + 1 + 1) (v5 := .int .i64 0) hfin rfl rfl) rfl ?_
    rw [hRq]
    exact ⟨hbw, rfl⟩
  | some rr =>
    obtain ⟨cc, aa, P, yy⟩ := rr
    rw [hZ] at hEP
    obtain ⟨_, v, hev0, hV0⟩ := hEP
    have hev : v5 = .tuple #[.agg #[.int .i64 cc, .int .i64 aa, v], .int .i64 yy] := by injection hev0
    subst hev
    obtain ⟨va, vc, rfl⟩ := hV0.val
    rw [hZ] at hRq
    have hO := hV0.mono hb04.size
    have hfin := hR5.set3 (.int .i64 cc) (.int .i64 aa) (.slice va P.length vc)
    have hbw := ((hb05.setCell (p := ⟨w.heap.size + 1 + 1, 0, none⟩) (by show w.heap.size ≤ w.heap.size + 1 + 1; omega) (.int .i64 cc)).setCell (p := ⟨w.heap.size + 1 + 1, 1, none⟩) (by show w.heap.size ≤ w.heap.size + 1 + 1; omega) (.int .i64 aa)).setCell (p := ⟨w.heap.size + 1 + 1, 2, none⟩) (by show w.heap.size ≤ w.heap.size + 1 + 1; omega) (.slice va P.length vc)
    have hOf := own_far (own_far (own_far hO hR5 (by decide) 0 (.int .i64 cc)) (hR5.set 0 (.int .i64 cc)) (by decide) 1 (.int .i64 aa)) ((hR5.set 0 (.int .i64 cc)).set 1 (.int .i64 aa)) (by decide) 2 (.slice va P.length vc)
    clear hR5 hZ hev0 hV0 hO
    go_wp2_with fail
    refine bodyPost_ret (res17_run (b := w.heap.size + 1 + 1) (v5 := .int .i64 yy) hfin rfl rfl) rfl ?_
    rw [hRq]
    exact ⟨hbw, _, rfl, hOf⟩
end Go.Proofs.YtkjoomdglealmaaGreatDoor

namespace Go.Proofs.YtkjoomdglealmaaGreatDoor
open Go.RowKit Go.Vf

/-- What Spoil leaves as it was: what lies below n0, what lies from n1 on, the codes of all Faults. -/
structure Spo (n0 n1 : Nat) (w w' : World) : Prop where
  below : Below n0 w w'
  above : ∀ b, n1 ≤ b → b < w.heap.size → w'.heap[b]? = w.heap[b]?
  code : ∀ q cs, Blk w q 100 cs → w'.cell? ⟨q, 0, none⟩ = w.cell? ⟨q, 0, none⟩
theorem Spo.of {n0 n1 : Nat} {w w' : World} (hb : Below w.heap.size w w') (h : n0 ≤ w.heap.size) : Spo n0 n1 w w' :=
  ⟨hb.mono h, fun b _ q => hb.block b q, fun q _ hq => hb.cell (p := ⟨q, 0, none⟩) hq.lt⟩
theorem Spo.set {n0 n1 : Nat} {w w' : World} (h : Spo n0 n1 w w') {g j : Nat} (h0 : n0 ≤ g) (h1 : g < n1) (hg : (∀ cs, ¬ Blk w g 100 cs) ∨ j = 1) (v : Value) : Spo n0 n1 w (w'.setCell ⟨g, j, none⟩ v) := by
  refine ⟨h.below.setCell (p := ⟨g, j, none⟩) h0 v, fun b q1 q2 => (Below.heap_setCell w' ⟨g, j, none⟩ v b (by show b ≠ g; omega)).trans (h.above b q1 q2), fun q cs hq => ?_⟩
  rw [← h.code q cs hq]
  refine World.cell?_setCell_other _ _ _ _ ?_
  intro e
  injection e with e1 e2
  subst e1
  rcases hg with hg | hg
  · exact hg cs hq
  · omega

/-- What the loop over the path knows. -/
structure SpL (n0 n1 F n : Nat) (c at' : Int) (pa : Option Addr) (pc : Nat) (why : Value) (w wr : World) : Prop where
  spo : Spo n0 n1 w wr
  box : wr.cell? ⟨w.heap.size, 0, none⟩ = some (.pointer (some ⟨F, 0, none⟩))
  blk : Blk wr F 100 #[.int .i64 c, .int .i64 at', .slice pa n pc, why]
  row : ∀ j, j < n → ∃ g v, pa = some ⟨g, 0, none⟩ ∧ n0 ≤ g ∧ g < n1 ∧ g ≠ F ∧ (∀ cs, ¬ Blk w g 100 cs) ∧ wr.cell? ⟨g, j, none⟩ = some v ∧ wr.frozen? ⟨g, j, none⟩ = false
theorem frozen_set (w : World) (p a : Addr) (v : Value) : (w.setCell p v).frozen? a = w.frozen? a := by
  simp [World.frozen?_setCell]
theorem SpL.put {n0 n1 F n : Nat} {c at' : Int} {pa : Option Addr} {pc : Nat} {why : Value} {w wr : World} (h : SpL n0 n1 F n c at' pa pc why w wr) (hn1 : n1 ≤ w.heap.size) {g j : Nat} (hj : j < n) (hg : pa = some ⟨g, 0, none⟩) (v : Value) : SpL n0 n1 F n c at' pa pc why w (wr.setCell ⟨g, j, none⟩ v) := by
  obtain ⟨g', v', e, h0, h1, hF, hB, _, _⟩ := h.row j hj
  obtain rfl : g' = g := by rw [hg] at e; injection e with e; injection e with e; exact e.symm
  refine ⟨h.spo.set h0 h1 (.inl hB) v, ?_, h.blk.other (p := ⟨g', j, none⟩) (fun e => hF e.symm) v, fun i hi => ?_⟩
  · rw [World.cell?_setCell_other _ _ _ _ (by intro e; injection e with e1; omega)]; exact h.box
  · obtain ⟨g2, v2, e2, q0, q1, qF, qB, qc, qf⟩ := h.row i hi
    obtain rfl : g2 = g' := by rw [hg] at e2; injection e2 with e2; injection e2 with e2; exact e2.symm
    by_cases hij : i = j
    · subst hij
      exact ⟨g2, v, hg, q0, q1, qF, qB, World.cell?_setCell_same' _ _ _ (by rw [qc]; rfl), by rw [frozen_set]; exact qf⟩
    · exact ⟨g2, v2, hg, q0, q1, qF, qB, by rw [World.cell?_setCell_other _ _ _ _ (by intro e; injection e with e1 e3; omega)]; exact qc, by rw [frozen_set]; exact qf⟩

set_option maxHeartbeats 4000000 in
set_option maxRecDepth 20000 in
theorem spoil_fault (n0 n1 F n : Nat) (c at' : Int) (pa : Option Addr) (pc : Nat) (why : Value) (w : World) (hn1 : n1 ≤ w.heap.size) (hn0 : n0 ≤ F) (hF1 : F < n1) (hn : n ≤ 1000) (hB : Blk w F 100 #[.int .i64 c, .int .i64 at', .slice pa n pc, why])
    (hrow : ∀ j, j < n → ∃ g v, pa = some ⟨g, 0, none⟩ ∧ n0 ≤ g ∧ g < n1 ∧ g ≠ F ∧ (∀ cs, ¬ Blk w g 100 cs) ∧ w.cell? ⟨g, j, none⟩ = some v ∧ w.frozen? ⟨g, j, none⟩ = false) (hE : ErrT w) (hz0 : 0 < w.heap.size) :
    Calls Tryz.prog 19 #[.iface 98 (.pointer (some ⟨F, 0, none⟩))] w fun e w' => e = .returned (.tuple #[]) ∧ Spo n0 n1 w w' := by
  have hb1 := (Below.refl w.heap.size w).alloc (Nat.le_refl _) (.cells #[.pointer none] 98)
  have hT1 := Blk.new w 98 #[.pointer none]
  have hs1 := alloc_size w (.cells #[.pointer none] 98)
  have hE1 := hE.old hz0 hb1
  go_enter Tryz.func19, Tryz.ntmps19
  go_wp2_with fail
  refine (as_fault_b ⟨F, 0, none⟩ ⟨w.heap.size, 0, none⟩ (.pointer none) _ hE1 (hT1.cell 0) (hT1.frozen 0)).mono ?_
  rintro _ w2 ⟨rfl, ht, hb2⟩
  have hb02 : Below w.heap.size w w2 := hb1.trans hb2
  have hS : SpL n0 n1 F n c at' pa pc why w w2 := ⟨.of hb02 (by omega), ht, hB.old hb02, fun j hj => by
    obtain ⟨g, v, e, q0, q1, qF, qB, qc, qf⟩ := hrow j hj
    have hgl : g < w.heap.size := by omega
    exact ⟨g, v, e, q0, q1, qF, qB, (hb02.cell (p := ⟨g, j, none⟩) hgl).trans qc, (hb02.frozen (p := ⟨g, j, none⟩) hgl).trans qf⟩⟩
  have HS : Hid (SpL n0 n1 F n c at' pa pc why w w2) := hS
  clear hrow hb1 hT1 hs1 hE1 hE hb2 hb02 hS hB
  go_wp2_with fail
  go_loopw [3] (fun iv wr => ∃ (j : Nat), j ≤ n ∧ iv = .int .i64 (j : Int) ∧ Hid (SpL n0 n1 F n c at' pa pc why w wr)) (fun iv _ => n - (intOf iv).toNat)
  case atStart => exact ⟨0, Nat.zero_le _, rfl, HS⟩
  case round =>
    clear HS ht
    obtain ⟨j, hj, rfl, HS⟩ := hrel
    have d0 := HS.out.box
    have d1 : wr.cell? ⟨F, 2, none⟩ = some (.slice pa n pc) := HS.out.blk.cell 2
    by_cases hlt : j < n
    · have tl : decide ((j : Int) < (n : Int)) = true := decide_eq_true (by omega)
      have tl2 : decide (j < n) = true := decide_eq_true hlt
      have hji : (j : Int) < (n : Int) := by omega
      obtain ⟨g, v, e, q0, q1, qF, qB, qc, qf⟩ := HS.out.row j hlt
      subst e
      go_wp2_with fail
      exact ⟨⟨j + 1, by omega, by simp, HS.out.put hn1 hlt rfl _⟩, by simp only [intOf]; omega⟩
    · have tl : decide ((j : Int) < (n : Int)) = false := decide_eq_false (by omega)
      have tl2 : decide (j < n) = false := decide_eq_false hlt
      have d2 : wr.cell? ⟨F, 1, none⟩ = some (.int .i64 at') := HS.out.blk.cell 1
      have f2 := HS.out.blk.frozen 1
      go_wp2_with fail
      exact ⟨rfl, _, by simp [results, Tryz.results19], rfl, HS.out.spo.set hn0 hF1 (.inr rfl) _⟩
set_option maxHeartbeats 1000000 in
theorem spoil_none (n0 n1 : Nat) (w : World) (h0 : n0 ≤ w.heap.size) : Calls Tryz.prog 19 #[.nilIface] w fun e w' => e = .returned (.tuple #[]) ∧ Spo n0 n1 w w' := by
  have hb1 := (Below.refl w.heap.size w).alloc (Nat.le_refl _) (.cells #[.pointer none] 98)
  go_enter Tryz.func19, Tryz.ntmps19
  go_wp2_with fail
  exact ⟨rfl, _, by simp [results, Tryz.results19], rfl, .of hb1 h0⟩
theorem spoil_any (r : Bad) (w0 w1 w : World) (ev : Value) (hr : ErrPost r w0 (.returned ev) w1) (hc : ∀ c a P y, r = some (c, a, P, y) → c ≠ 0 ∧ P.length ≤ 1000) (hb : Below w1.heap.size w1 w) (hE : ErrT w) (hz0 : 0 < w.heap.size) :
    Calls Tryz.prog 19 #[ev] w fun e w' => e = .returned (.tuple #[]) ∧ Spo w0.heap.size w1.heap.size w w' := by
  have hs0 := hr.1.size
  have hs1 := hb.size
  cases r with
  | none =>
    have e : ev = .nilIface := by have := hr.2; injection this
    subst e
    exact spoil_none _ _ w (by omega)
  | some q =>
    obtain ⟨c, a, P, y⟩ := q
    obtain ⟨_, hPl⟩ := hc c a P y rfl
    obtain ⟨_, v', why, he, ⟨F, pa, pc, hv', hF0, hF1, hF2, hF3⟩, hW⟩ := hr
    cases he
    subst hv'
    refine spoil_fault _ _ F P.length c a pa pc why w hs1 hF0 hF1.lt hPl (hF1.old hb) (fun j hj => ?_) hE hz0
    rcases hF2.form with ⟨e, e2⟩ | ⟨g, cap, e, h1, h2, h3, h4, h5⟩
    · rw [e2] at hj; simp at hj
    · injection e with e1 e2 e3
      subst e1
      have hgF : g ≠ F := fun e => hF3 (by rw [e]; simp [Value.ownBlock])
      refine ⟨g, _, rfl, h1, h2, hgF, fun cs hcs => ?_, (hb.cell (p := ⟨g, j, none⟩) h2).trans (h4 j hj), (hb.frozen (p := ⟨g, j, none⟩) h2).trans (h5 j)⟩
      obtain ⟨_, cs', f, hh⟩ := own_ge hF2 (j := g) (by simp [Value.ownBlock])
      have hh2 : w.heap[g]? = some (.cells cs' 3 f) := (hb.block g h2).trans hh
      rw [show w.heap[g]? = _ from hcs] at hh2
      cases hh2
/-- told, of an error that lies behind what Spoil wrote. -/
theorem told_behind (r : Bad) (n0 : Nat) (w1 w2 w w' : World) (ev : Value) (hr : ErrPost r w1 (.returned ev) w2) (hb : Below w2.heap.size w2 w) (hS : Spo n0 w1.heap.size w w') (hc : ∀ c a P y, r = some (c, a, P, y) → c ≠ 0 ∧ P.length ≤ 1000) (wv : Value) (y : Int) (hI : (r = none ∧ wv = .agg #[.int .i64 0, .int .i64 0, .slice none 0 0] ∧ y = 0) ∨ ∃ c a P v, r = some (c, a, P, y) ∧ wv = .agg #[.int .i64 c, .int .i64 a, v] ∧ Ints w'.heap.size w' v P) (hE : ErrT w') (h0 : 0 < w'.heap.size) :
    Calls Tryz.prog 18 #[ev, wv, .int .i64 y] w' fun e w2 => e = .returned (.bool true) ∧ Below w'.heap.size w' w2 := by
  rcases hI with ⟨rfl, rfl, rfl⟩ | ⟨c, a, P, v, rfl, rfl, hv⟩
  · have e : ev = .nilIface := by have := hr.2; injection this
    subst e
    exact told_none w'
  · obtain ⟨hc0, hPl⟩ := hc c a P y rfl
    obtain ⟨_, v', why, he, ⟨F, pa, pc, hv', hF0, hF1, hF2, _⟩, hW⟩ := hr
    cases he
    subst hv'
    have hz := hb.size
    have hk : ∀ b, w1.heap.size ≤ b → b < w2.heap.size → w'.heap[b]? = w2.heap[b]? := fun b q1 q2 => (hS.above b q1 (by omega)).trans (hb.block b q2)
    have hz1 : Ints w'.heap.size w' (.slice pa P.length pc) P := IOwn.ints (base := w1.heap.size) (own_blocks hF2 fun i hi => by obtain ⟨h1, cs', f, hh⟩ := own_ge hF2 hi; exact hk i h1 (Array.getElem?_eq_some_iff.1 hh).1)
    have hB : Blk w' F 100 _ := (hk F hF0 hF1.lt).trans hF1
    rcases hW with ⟨rfl, rfl⟩ | ⟨rfl, rfl⟩ | ⟨hy, G, x, n, c', rfl, hG⟩
    · exact told_nil F c a _ v P (by omega) w' hc0 hE hB hz1 hv h0
    · exact told_errno F c a 30 _ v P (by omega) w' hc0 (by decide) hE hB hz1 hv h0
    · have hG2 := hG.old hb
      exact told_fault F G c a y _ v P (by omega) w' hc0 hy hE hB ((hS.code G _ hG2).trans (hG2.cell 0)) hz1 hv h0
end Go.Proofs.YtkjoomdglealmaaGreatDoor
