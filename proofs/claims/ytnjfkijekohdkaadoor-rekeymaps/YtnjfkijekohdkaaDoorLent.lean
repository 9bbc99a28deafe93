/- What dovetailkeep.Lent does (contracts; nothing is claimed here). -/
import Derived.Test.YtnjfkijekohdkaaDoorSof
namespace Go.Proofs.YtnjfkijekohdkaaDoor
open Go.RowKit Go.Vf
def LentOk (p : Prt) : Prop := ∀ (a : Option Addr) (c n₀ : Nat) (w : World), n₀ ≤ w.heap.size → PIn w 0 n₀ p a → Calls Tryd.prog 27 #[pV p a c] w fun e w' => ∃ a' c', e = .returned (pV p a' c') ∧ LIn w' w.heap.size w'.heap.size p a' c' ∧ Below w.heap.size w w'
set_option maxRecDepth 100000 in
theorem res23_run {tmps : Array Value} {w : World} {b : Nat} {a0 a1 a2 a3 a4 a5 : Value} (h : Blk w b 29 #[a0, a1, a2, a3, a4, a5]) (t2 : tmps[2]?.getD undef = .pointer (some ⟨b, 0, none⟩)) :
    (results Tryd.f27 tmps).run Tryd.prog w = .ok (.agg #[a0, a1, a2, a3, a4, a5]) w := by
  obtain ⟨c0, c1, c2, c3, c4, c5⟩ := h.c6
  simp [results, Tryd.results27, go_sem, t2, c0, c1, c2, c3, c4, c5]
/-- A mark behind the row. -/
theorem SofarQ.mark {Q : World → Nat → Nat → Prt → Option Addr → Nat → Prop} (hQ : Rowy Q) {w : World} {h0 n j cap : Nat} {cs : Array Value} {l : List Prt} {A : Nat → Option Addr} {C P : Nat → Nat} (hS : SofarQ Q w h0 n cs l cap A C P) (hj : n ≤ j) (a0 a1 a2 a3 a4 a5 : Value) :
    SofarQ Q (set6 w h0 (j * 6) a0 a1 a2 a3 a4 a5) h0 n ((((((cs.setIfInBounds (j * 6) a0).setIfInBounds (j * 6 + 1) a1).setIfInBounds (j * 6 + 2) a2).setIfInBounds (j * 6 + 3) a3).setIfInBounds (j * 6 + 4) a4).setIfInBounds (j * 6 + 5) a5) l cap A C P := by
  have hB4 := set6_blk hS.blk (j * 6) a0 a1 a2 a3 a4 a5
  refine ⟨hB4, by simp [hS.size], hS.p0, hS.mono, by rw [set6_size]; exact hS.top, fun i hi hin => ?_, fun i hi hin => ?_⟩
  · have hr := hS.row i hi hin
    have q : ∀ k, k ≤ 5 → (set6 w h0 (j * 6) a0 a1 a2 a3 a4 a5).cell? ⟨h0, i * 6 + k, none⟩ = w.cell? ⟨h0, i * 6 + k, none⟩ := fun k hk => by
      rw [hB4.cell, hS.blk.cell, six_out (by omega)]
    exact ⟨(q 0 (by omega)).trans hr.c0, (q 1 (by omega)).trans hr.c1, (q 2 (by omega)).trans hr.c2, (q 3 (by omega)).trans hr.c3, (q 4 (by omega)).trans hr.c4, (q 5 (by omega)).trans hr.c5⟩
  · have := hS.mono 0 i (Nat.zero_le _) (by omega)
    have := hS.p0
    exact hQ.keep (hS.win i hi hin) (fun b q1 q2 => set6_other (by omega))
set_option maxHeartbeats 16000000 in
set_option maxRecDepth 20000 in
theorem lent_step (k : Int) (y b : Bool) (m r : ByteArray) (l : List Prt) (hl : l.length ≤ 33554432) (ih : ∀ x ∈ l, LentOk x) : LentOk (.mk k y b m r l) := by
  intro a c n₀ w hn₀ hin
  unfold pV
  simp only [Prt.kind, Prt.yes, Prt.neg, Prt.mag, Prt.raw, Prt.items]
  obtain ⟨ln, hln⟩ : ∃ ln, l.length = ln := ⟨_, rfl⟩
  have HLN : Hid (l.length = ln) := hln
  rw [hln] at hl ⊢
  clear hln
  have HIN : Hid (∀ w1, Below w.heap.size w w1 → PIn w1 0 n₀ (.mk k y b m r l) a) := fun w1 h => hin.keep h hn₀
  have hB0 := Blk.new w 29 #[.int .u8 k, .bool y, .bool b, .string m, .string r, .slice a ln c]
  have hb1 := (Below.refl w.heap.size w).alloc (Nat.le_refl _) (.cells #[.int .u8 k, .bool y, .bool b, .string m, .string r, .slice a ln c] 29)
  have hs1 := alloc_size w (.cells #[.int .u8 k, .bool y, .bool b, .string m, .string r, .slice a ln c] 29)
  have hb2 := hb1.alloc hb1.size (.cells #[.int .u8 0, .bool false, .bool false, .string ⟨#[]⟩, .string ⟨#[]⟩, .slice none 0 0] 29)
  have hs2 := alloc_size (w.alloc (.cells #[.int .u8 k, .bool y, .bool b, .string m, .string r, .slice a ln c] 29)) (.cells #[.int .u8 0, .bool false, .bool false, .string ⟨#[]⟩, .string ⟨#[]⟩, .slice none 0 0] 29)
  have hB1 := Blk.new (w.alloc (.cells #[.int .u8 k, .bool y, .bool b, .string m, .string r, .slice a ln c] 29)) 29 #[.int .u8 0, .bool false, .bool false, .string ⟨#[]⟩, .string ⟨#[]⟩, .slice none 0 0]
  have hB0b := hB0.old ((Below.refl _ (w.alloc (.cells #[.int .u8 k, .bool y, .bool b, .string m, .string r, .slice a ln c] 29))).alloc (Nat.le_refl _) (.cells #[.int .u8 0, .bool false, .bool false, .string ⟨#[]⟩, .string ⟨#[]⟩, .slice none 0 0] 29))
  rw [hs1] at hB1 hs2
  clear hin
  go_enter Tryd.func27, Tryd.ntmps27
  go_upto_region 1 with fail
  generalize (w.alloc (.cells #[.int .u8 k, .bool y, .bool b, .string m, .string r, .slice a ln c] 29)).alloc (.cells #[.int .u8 0, .bool false, .bool false, .string ⟨#[]⟩, .string ⟨#[]⟩, .slice none 0 0] 29) = w2 at *
  have hb3 := hb2.alloc hb2.size (.cells #[.int .u8 k, .bool y, .bool b, .string m, .string r, .slice a ln c] 29)
  have hs3 := alloc_size w2 (.cells #[.int .u8 k, .bool y, .bool b, .string m, .string r, .slice a ln c] 29)
  have hB2 := Blk.new w2 29 #[.int .u8 k, .bool y, .bool b, .string m, .string r, .slice a ln c]
  have hq3 := (Below.refl w2.heap.size w2).alloc (Nat.le_refl _) (.cells #[.int .u8 k, .bool y, .bool b, .string m, .string r, .slice a ln c] 29)
  have hB1c := hB1.old hq3
  have hB0c := hB0b.old hq3
  rw [hs2] at hB2 hs3
  obtain ⟨c0, c1, c2, c3, c4, c5⟩ := hB0b.c6
  go_upto_region 2 with fail
  generalize w2.alloc (.cells #[.int .u8 k, .bool y, .bool b, .string m, .string r, .slice a ln c] 29) = w3 at *
  clear c0 c1 c2 c3 c4 c5 hB0 hB0b hB1 hq3 hs1 hs2 hb1 hb2
  have hmk : (Instr.makeSlice 27 (.int .i64 (ln : Int)) (.int .i64 ((ln : Int) + 2))).run Tryd.prog w3 = .ok (.slice (some ⟨w3.heap.size, 0, none⟩) ln (ln + 2)) (w3.alloc (.cells (madeCells #[.int .u8 0, .bool false, .bool false, .string ⟨#[]⟩, .string ⟨#[]⟩, .slice none 0 0] ((ln + 2) * 6)) 29)) := run_make27c ln (ln + 2) (by omega) (by omega) w3
  have hb4 := hb3.alloc hb3.size (.cells (madeCells #[.int .u8 0, .bool false, .bool false, .string ⟨#[]⟩, .string ⟨#[]⟩, .slice none 0 0] ((ln + 2) * 6)) 29)
  have hs4 := alloc_size w3 (.cells (madeCells #[.int .u8 0, .bool false, .bool false, .string ⟨#[]⟩, .string ⟨#[]⟩, .slice none 0 0] ((ln + 2) * 6)) 29)
  have hq4 := (Below.refl w3.heap.size w3).alloc (Nat.le_refl _) (.cells (madeCells #[.int .u8 0, .bool false, .bool false, .string ⟨#[]⟩, .string ⟨#[]⟩, .slice none 0 0] ((ln + 2) * 6)) 29)
  have hB3 := Blk.new w3 29 (madeCells #[.int .u8 0, .bool false, .bool false, .string ⟨#[]⟩, .string ⟨#[]⟩, .slice none 0 0] ((ln + 2) * 6))
  have hB2d := hB2.old hq4
  have hB1d := hB1c.old hq4
  have hB0d := hB0c.old hq4
  rw [hs3] at hB3 hs4
  have p5 : w3.cell? ⟨w.heap.size, 5, none⟩ = some (.slice a ln c) := hB0c.cell 5
  have x5 : (w3.alloc (.cells (madeCells #[.int .u8 0, .bool false, .bool false, .string ⟨#[]⟩, .string ⟨#[]⟩, .slice none 0 0] ((ln + 2) * 6)) 29)).cell? ⟨w.heap.size + 1 + 1, 5, none⟩ = some (.slice a ln c) := hB2d.cell 5
  have xf : (w3.alloc (.cells (madeCells #[.int .u8 0, .bool false, .bool false, .string ⟨#[]⟩, .string ⟨#[]⟩, .slice none 0 0] ((ln + 2) * 6)) 29)).frozen? ⟨w.heap.size + 1 + 1, 5, none⟩ = false := hB2d.frozen 5
  rw [hs3] at hmk
  have HB3 : Hid (Blk (w3.alloc (.cells (madeCells #[.int .u8 0, .bool false, .bool false, .string ⟨#[]⟩, .string ⟨#[]⟩, .slice none 0 0] ((ln + 2) * 6)) 29)) (w.heap.size + 1 + 1 + 1) 29 (madeCells #[.int .u8 0, .bool false, .bool false, .string ⟨#[]⟩, .string ⟨#[]⟩, .slice none 0 0] ((ln + 2) * 6))) := hB3
  have HB2 : Hid (Blk (w3.alloc (.cells (madeCells #[.int .u8 0, .bool false, .bool false, .string ⟨#[]⟩, .string ⟨#[]⟩, .slice none 0 0] ((ln + 2) * 6)) 29)) (w.heap.size + 1 + 1) 29 #[.int .u8 k, .bool y, .bool b, .string m, .string r, .slice a ln c]) := hB2d
  have HB1 : Hid (Blk (w3.alloc (.cells (madeCells #[.int .u8 0, .bool false, .bool false, .string ⟨#[]⟩, .string ⟨#[]⟩, .slice none 0 0] ((ln + 2) * 6)) 29)) (w.heap.size + 1) 29 #[.int .u8 0, .bool false, .bool false, .string ⟨#[]⟩, .string ⟨#[]⟩, .slice none 0 0]) := hB1d
  have HB0 : Hid (Blk (w3.alloc (.cells (madeCells #[.int .u8 0, .bool false, .bool false, .string ⟨#[]⟩, .string ⟨#[]⟩, .slice none 0 0] ((ln + 2) * 6)) 29)) w.heap.size 29 #[.int .u8 k, .bool y, .bool b, .string m, .string r, .slice a ln c]) := hB0d
  have HS4 : Hid ((w3.alloc (.cells (madeCells #[.int .u8 0, .bool false, .bool false, .string ⟨#[]⟩, .string ⟨#[]⟩, .slice none 0 0] ((ln + 2) * 6)) 29)).heap.size = (w.heap.size + 1 + 1 + 1) + 1) := hs4
  have HBW : Hid (Below w.heap.size w (w3.alloc (.cells (madeCells #[.int .u8 0, .bool false, .bool false, .string ⟨#[]⟩, .string ⟨#[]⟩, .slice none 0 0] ((ln + 2) * 6)) 29))) := hb4
  clear hB3 hB2d hB1d hB0d hs4 hb4 hq4 hB2 hB1c hB0c hs3 hb3
  go_upto_region 3 with fail
  generalize w3.alloc (.cells (madeCells #[.int .u8 0, .bool false, .bool false, .string ⟨#[]⟩, .string ⟨#[]⟩, .slice none 0 0] ((ln + 2) * 6)) 29) = w4 at *
  have HC2 : Hid (Blk (w4.setCell ⟨w.heap.size + 1 + 1, 5, none⟩ (.slice (some ⟨(w.heap.size + 1 + 1 + 1), 0, none⟩) ln (ln + 2))) (w.heap.size + 1 + 1) 29 #[.int .u8 k, .bool y, .bool b, .string m, .string r, .slice (some ⟨w.heap.size + 1 + 1 + 1, 0, none⟩) ln (ln + 2)]) := by
    have := Blk.set 5 (.slice (some ⟨(w.heap.size + 1 + 1 + 1), 0, none⟩) ln (ln + 2)) HB2.out
    show Blk _ _ _ _
    simpa using this
  have HC1 : Hid (Blk (w4.setCell ⟨w.heap.size + 1 + 1, 5, none⟩ (.slice (some ⟨(w.heap.size + 1 + 1 + 1), 0, none⟩) ln (ln + 2))) (w.heap.size + 1) 29 #[.int .u8 0, .bool false, .bool false, .string ⟨#[]⟩, .string ⟨#[]⟩, .slice none 0 0]) := Blk.other HB1.out (p := ⟨w.heap.size + 1 + 1, 5, none⟩) (by show w.heap.size + 1 ≠ w.heap.size + 1 + 1; omega) _
  have HC0 : Hid (Blk (w4.setCell ⟨w.heap.size + 1 + 1, 5, none⟩ (.slice (some ⟨(w.heap.size + 1 + 1 + 1), 0, none⟩) ln (ln + 2))) w.heap.size 29 #[.int .u8 k, .bool y, .bool b, .string m, .string r, .slice a ln c]) := Blk.other HB0.out (p := ⟨w.heap.size + 1 + 1, 5, none⟩) (by show w.heap.size ≠ w.heap.size + 1 + 1; omega) _
  have HC3 : Hid (Blk (w4.setCell ⟨w.heap.size + 1 + 1, 5, none⟩ (.slice (some ⟨(w.heap.size + 1 + 1 + 1), 0, none⟩) ln (ln + 2))) (w.heap.size + 1 + 1 + 1) 29 (madeCells #[.int .u8 0, .bool false, .bool false, .string ⟨#[]⟩, .string ⟨#[]⟩, .slice none 0 0] ((ln + 2) * 6))) := Blk.other HB3.out (p := ⟨w.heap.size + 1 + 1, 5, none⟩) (by show (w.heap.size + 1 + 1 + 1) ≠ w.heap.size + 1 + 1; omega) _
  have HCS : Hid ((w4.setCell ⟨w.heap.size + 1 + 1, 5, none⟩ (.slice (some ⟨(w.heap.size + 1 + 1 + 1), 0, none⟩) ln (ln + 2))).heap.size = (w.heap.size + 1 + 1 + 1) + 1) := by show _ = _; rw [set_sizeC]; exact HS4.out
  have hbw5 : Below w.heap.size w (w4.setCell ⟨w.heap.size + 1 + 1, 5, none⟩ (.slice (some ⟨(w.heap.size + 1 + 1 + 1), 0, none⟩) ln (ln + 2))) := HBW.out.setCell (p := ⟨w.heap.size + 1 + 1, 5, none⟩) (by show w.heap.size ≤ w.heap.size + 1 + 1; omega) _
  generalize w4.setCell ⟨w.heap.size + 1 + 1, 5, none⟩ (.slice (some ⟨(w.heap.size + 1 + 1 + 1), 0, none⟩) ln (ln + 2)) = w5 at *
  clear HB0 HB1 HB2 HB3 HS4 HBW p5 x5 xf hmk
  have hS0 : SofarQ LIn w5 (w.heap.size + 1 + 1 + 1) 0 (madeCells #[.int .u8 0, .bool false, .bool false, .string ⟨#[]⟩, .string ⟨#[]⟩, .slice none 0 0] ((ln + 2) * 6)) l (ln + 2) (fun _ => none) (fun _ => 0) (fun _ => (w.heap.size + 1 + 1 + 1) + 1) := ⟨HC3.out, made_size _ _, by omega, fun _ _ _ _ => Nat.le_refl _, by have := HCS.out; omega, fun i _ h => by omega, fun i _ h => by omega⟩
  go_wp2_with fail
  go_loopw [4] (fun iv wr => ∃ (j : Nat) (cs : Array Value) (A : Nat → Option Addr) (C P : Nat → Nat), j ≤ ln ∧ iv = .int .i64 (j : Int) ∧ SofarQ LIn wr (w.heap.size + 1 + 1 + 1) j cs l (ln + 2) A C P ∧ Hid (Blk wr w.heap.size 29 #[.int .u8 k, .bool y, .bool b, .string m, .string r, .slice a ln c]) ∧ Hid (Blk wr (w.heap.size + 1) 29 #[.int .u8 0, .bool false, .bool false, .string ⟨#[]⟩, .string ⟨#[]⟩, .slice none 0 0]) ∧ Hid (Blk wr (w.heap.size + 1 + 1) 29 #[.int .u8 k, .bool y, .bool b, .string m, .string r, .slice (some ⟨w.heap.size + 1 + 1 + 1, 0, none⟩) ln (ln + 2)]) ∧ Below w.heap.size w wr) (fun iv _ => ln - (intOf iv).toNat)
  case atStart => exact ⟨0, _, _, _, _, Nat.zero_le _, rfl, hS0, HC0, HC1, HC2, hbw5⟩
  case round =>
    clear hS0 HC0 HC1 HC2 HC3 HCS hbw5
    obtain ⟨j, cs, A, C, P, hj, rfl, hS, HBX, HBR, HBY, hb⟩ := hrel
    have hsz := hb.size
    have hlt3 := hS.blk.lt
    have p5 : wr.cell? ⟨w.heap.size, 5, none⟩ = some (.slice a ln c) := Blk.cell HBX.out 5
    by_cases hlt : j < ln
    · have tl : decide ((j : Int) < (ln : Int)) = true := decide_eq_true (by omega)
      have tl2 : decide (j < ln) = true := decide_eq_true hlt
      have hji : (j : Int) < (ln : Int) := by omega
      have hjl : j < l.length := by rw [HLN.out]; exact hlt
      obtain ⟨bb, off, aj, cj, ha, _, hbb, hrow, hinj⟩ := (HIN.out wr hb).at (p := .mk k y b m r l) hjl
      simp only [Prt.items] at ha hrow hinj
      subst ha
      obtain ⟨r0, r1, r2, r3, r4, r5⟩ := hrow
      have hdr : Below wr.heap.size wr wr.drew := (Below.refl _ _).drew
      have hcall := ih l[j] (List.getElem_mem hjl) aj cj n₀ wr.drew (by show n₀ ≤ wr.heap.size; omega) (hinj.keep hdr (by omega))
      unfold pV at hcall
      have hszd : wr.drew.heap.size = wr.heap.size := rfl
      rw [hszd] at hcall
      have hcs := hS.size
      have y5 : wr.cell? ⟨w.heap.size + 1 + 1, 5, none⟩ = some (.slice (some ⟨(w.heap.size + 1 + 1 + 1), 0, none⟩) ln (ln + 2)) := Blk.cell HBY.out 5
      have HF : Hid (∀ w4, Below wr.heap.size wr.drew w4 → (w4.cell? ⟨w.heap.size + 1 + 1, 5, none⟩ = some (.slice (some ⟨(w.heap.size + 1 + 1 + 1), 0, none⟩) ln (ln + 2)) ∧ w4.cell? ⟨w.heap.size, 5, none⟩ = some (.slice (some ⟨bb, off, none⟩) ln c)) ∧
          ((∃ y, w4.cell? ⟨(w.heap.size + 1 + 1 + 1), j * 6, none⟩ = some y) ∧ (∃ y, w4.cell? ⟨(w.heap.size + 1 + 1 + 1), j * 6 + 1, none⟩ = some y) ∧ (∃ y, w4.cell? ⟨(w.heap.size + 1 + 1 + 1), j * 6 + 2, none⟩ = some y) ∧ (∃ y, w4.cell? ⟨(w.heap.size + 1 + 1 + 1), j * 6 + 3, none⟩ = some y) ∧ (∃ y, w4.cell? ⟨(w.heap.size + 1 + 1 + 1), j * 6 + 4, none⟩ = some y) ∧ (∃ y, w4.cell? ⟨(w.heap.size + 1 + 1 + 1), j * 6 + 5, none⟩ = some y)) ∧
          w4.frozen? ⟨(w.heap.size + 1 + 1 + 1), j * 6, none⟩ = false ∧ w4.frozen? ⟨(w.heap.size + 1 + 1 + 1), j * 6 + 1, none⟩ = false ∧ w4.frozen? ⟨(w.heap.size + 1 + 1 + 1), j * 6 + 2, none⟩ = false ∧ w4.frozen? ⟨(w.heap.size + 1 + 1 + 1), j * 6 + 3, none⟩ = false ∧ w4.frozen? ⟨(w.heap.size + 1 + 1 + 1), j * 6 + 4, none⟩ = false ∧ w4.frozen? ⟨(w.heap.size + 1 + 1 + 1), j * 6 + 5, none⟩ = false) := by
        intro w4 hb4
        have hB4 := (hS.blk.old hdr).below hb4 hS.blk.lt
        have hP4 := (Blk.old HBY.out hdr).below hb4 (Blk.lt HBY.out)
        have hX4 := (Blk.old HBX.out hdr).below hb4 (Blk.lt HBX.out)
        have yy : ∀ k, k ≤ 5 → ∃ y, w4.cell? ⟨(w.heap.size + 1 + 1 + 1), j * 6 + k, none⟩ = some y := fun k hk => ⟨_, (hB4.cell _).trans (Array.getElem?_eq_getElem (by omega))⟩
        exact ⟨⟨hP4.cell 5, hX4.cell 5⟩, ⟨yy 0 (by omega), yy 1 (by omega), yy 2 (by omega), yy 3 (by omega), yy 4 (by omega), yy 5 (by omega)⟩, hB4.frozen _, hB4.frozen _, hB4.frozen _, hB4.frozen _, hB4.frozen _, hB4.frozen _⟩
      obtain ⟨x, hx⟩ : ∃ x, l[j] = x := ⟨_, rfl⟩
      have HX : Hid (l[j] = x) := hx
      rw [hx] at hcall r0 r1 r2 r3 r4 r5
      have HS : Hid (SofarQ LIn wr (w.heap.size + 1 + 1 + 1) j cs l (ln + 2) A C P) := hS
      have hlt2 : j < ln + 2 := by omega
      clear hx hS hinj ih hszd hcs
      go_wp2_with fail
      go_region_with (go_at_call 27; refine hcall.mono ?_; rintro _ w4 ⟨ax, cx, rfl, hlin, hb4⟩; obtain ⟨⟨z5, q5⟩, ⟨⟨y0, p60⟩, ⟨y1, p61⟩, ⟨y2, p62⟩, ⟨y3, p63⟩, ⟨y4, p64⟩, ⟨y5', p65⟩⟩, f0, f1, f2, f3, f4, f5⟩ := HF.out w4 hb4)
      all_goals
        have hbx : Below wr.heap.size wr w4 := hdr.trans hb4
        have hst := HS.out.step rowyL (cx := cx) hlt2 (fun _ => HX.out) hbx hlin
        have hz5 : Blk (set6 w4 (w.heap.size + 1 + 1 + 1) (j * 6) (.int .u8 x.kind) (.bool x.yes) (.bool x.neg) (.string x.mag) (.string x.raw) (.slice ax x.items.length cx)) (w.heap.size + 1) 29 #[.int .u8 0, .bool false, .bool false, .string ⟨#[]⟩, .string ⟨#[]⟩, .slice none 0 0] := (set6_other (by omega)).trans (Blk.old HBR.out hbx)
        have hp6 : Blk (set6 w4 (w.heap.size + 1 + 1 + 1) (j * 6) (.int .u8 x.kind) (.bool x.yes) (.bool x.neg) (.string x.mag) (.string x.raw) (.slice ax x.items.length cx)) (w.heap.size + 1 + 1) 29 #[.int .u8 k, .bool y, .bool b, .string m, .string r, .slice (some ⟨w.heap.size + 1 + 1 + 1, 0, none⟩) ln (ln + 2)] := (set6_other (by omega)).trans (Blk.old HBY.out hbx)
        have hx6 : Blk (set6 w4 (w.heap.size + 1 + 1 + 1) (j * 6) (.int .u8 x.kind) (.bool x.yes) (.bool x.neg) (.string x.mag) (.string x.raw) (.slice ax x.items.length cx)) w.heap.size 29 #[.int .u8 k, .bool y, .bool b, .string m, .string r, .slice (some ⟨bb, off, none⟩) ln c] := (set6_other (by omega)).trans (Blk.old HBX.out hbx)
        have hbw := set6_below (hb.trans (hbx.mono hsz)) (show w.heap.size ≤ (w.heap.size + 1 + 1 + 1) by omega) (j * 6) (.int .u8 x.kind) (.bool x.yes) (.bool x.neg) (.string x.mag) (.string x.raw) (.slice ax x.items.length cx)
        change Exit.inBlock 1 (Exit.then _ _) Exit.normal _ (set6 w4 (w.heap.size + 1 + 1 + 1) (j * 6) (.int .u8 x.kind) (.bool x.yes) (.bool x.neg) (.string x.mag) (.string x.raw) (.slice ax x.items.length cx))
        generalize set6 w4 (w.heap.size + 1 + 1 + 1) (j * 6) (.int .u8 x.kind) (.bool x.yes) (.bool x.neg) (.string x.mag) (.string x.raw) (.slice ax x.items.length cx) = w6 at hst hz5 hp6 hx6 hbw ⊢
        clear HF hcall z5 q5 p60 p61 p62 p63 p64 p65 f0 f1 f2 f3 f4 f5 HS HBR HBY HBX hlin p5 y5 r0 r1 r2 r3 r4 r5
        go_wp2_with fail
        go_roundw
        case rel => exact ⟨j + 1, _, _, _, _, hlt, by simp, hst, hx6, hz5, hp6, hbw⟩
        case measure => simp only [intOf]; omega
    · have tl : decide ((j : Int) < (ln : Int)) = false := decide_eq_false (by omega)
      have tl2 : decide (j < ln) = false := decide_eq_false hlt
      have hjn : j = ln := by omega
      subst hjn
      have y5 : wr.cell? ⟨w.heap.size + 1 + 1, 5, none⟩ = some (.slice (some ⟨(w.heap.size + 1 + 1 + 1), 0, none⟩) j (j + 2)) := Blk.cell HBY.out 5
      have HS : Hid (SofarQ LIn wr (w.heap.size + 1 + 1 + 1) j cs l (j + 2) A C P) := hS
      clear hS ih HIN hlt
      go_wp2_with fail
      go_loopw [6] (fun iv wr => ∃ (i : Nat) (cs : Array Value), j ≤ i ∧ i ≤ j + 2 ∧ iv = .int .i64 (i : Int) ∧ Hid (SofarQ LIn wr (w.heap.size + 1 + 1 + 1) j cs l (j + 2) A C P) ∧ Hid (∀ t, j ≤ t → t < i → wr.cell? ⟨(w.heap.size + 1 + 1 + 1), t * 6, none⟩ = some (.int .u8 99) ∧ wr.cell? ⟨(w.heap.size + 1 + 1 + 1), t * 6 + 4, none⟩ = some (.string markB)) ∧ Hid (Blk wr (w.heap.size + 1) 29 #[.int .u8 0, .bool false, .bool false, .string ⟨#[]⟩, .string ⟨#[]⟩, .slice none 0 0]) ∧ Hid (Blk wr (w.heap.size + 1 + 1) 29 #[.int .u8 k, .bool y, .bool b, .string m, .string r, .slice (some ⟨w.heap.size + 1 + 1 + 1, 0, none⟩) j (j + 2)]) ∧ Below w.heap.size w wr) (fun iv _ => j + 2 - (intOf iv).toNat)
      case atStart => exact ⟨j, cs, Nat.le_refl _, by omega, rfl, HS, fun t h1 h2 => by omega, HBR, HBY, hb⟩
      case round =>
        clear HS HBR HBY hb hsz hlt3 p5 y5 HBX
        obtain ⟨i, cs2, hi1, hi2, rfl, HS, HMK, HBR, HBY, hb⟩ := hrel
        by_cases hlt : i < j + 2
        · have tl3 : decide ((i : Int) < (j : Int) + 2) = true := decide_eq_true (by omega)
          have tl4 : decide ((i : Int) < ((j + 2 : Nat) : Int)) = true := decide_eq_true (by omega)
          have tl5 : decide (i < j + 2) = true := decide_eq_true hlt
          have hji : (i : Int) < (j : Int) + 2 := by omega
          have hcs := HS.out.size
          have hB := HS.out.blk
          obtain ⟨v0, u0⟩ : ∃ v, wr.cell? ⟨(w.heap.size + 1 + 1 + 1), i * 6, none⟩ = some v := ⟨_, (hB.cell _).trans (Array.getElem?_eq_getElem (by omega))⟩
          obtain ⟨v1, u1⟩ : ∃ v, wr.cell? ⟨(w.heap.size + 1 + 1 + 1), i * 6 + 1, none⟩ = some v := ⟨_, (hB.cell _).trans (Array.getElem?_eq_getElem (by omega))⟩
          obtain ⟨v2, u2⟩ : ∃ v, wr.cell? ⟨(w.heap.size + 1 + 1 + 1), i * 6 + 2, none⟩ = some v := ⟨_, (hB.cell _).trans (Array.getElem?_eq_getElem (by omega))⟩
          obtain ⟨v3, u3⟩ : ∃ v, wr.cell? ⟨(w.heap.size + 1 + 1 + 1), i * 6 + 3, none⟩ = some v := ⟨_, (hB.cell _).trans (Array.getElem?_eq_getElem (by omega))⟩
          obtain ⟨v4, u4⟩ : ∃ v, wr.cell? ⟨(w.heap.size + 1 + 1 + 1), i * 6 + 4, none⟩ = some v := ⟨_, (hB.cell _).trans (Array.getElem?_eq_getElem (by omega))⟩
          obtain ⟨v5, u5⟩ : ∃ v, wr.cell? ⟨(w.heap.size + 1 + 1 + 1), i * 6 + 5, none⟩ = some v := ⟨_, (hB.cell _).trans (Array.getElem?_eq_getElem (by omega))⟩
          have f0 := hB.frozen (i * 6)
          have f1 := hB.frozen (i * 6 + 1)
          have f2 := hB.frozen (i * 6 + 2)
          have f3 := hB.frozen (i * 6 + 3)
          have f4 := hB.frozen (i * 6 + 4)
          have f5 := hB.frozen (i * 6 + 5)
          have HCS : Hid (cs2.size = (j + 2) * 6) := hcs
          clear hB hcs
          go_wp2_with fail
          go_roundw
          case rel =>
            have hst := HS.out.mark rowyL (j := i) hi1 (.int .u8 99) (.bool false) (.bool false) (.string ⟨#[]⟩) (.string markB) (.slice none 0 0)
            refine ⟨i + 1, _, by omega, by omega, by simp, hst, ?_, ?_, ?_, ?_⟩
            · intro t h1 h2
              have hB4 := set6_blk HS.out.blk (i * 6) (.int .u8 99) (.bool false) (.bool false) (.string ⟨#[]⟩) (.string markB) (.slice none 0 0)
              by_cases e : t = i
              · subst e
                obtain ⟨d0, d1, d2, d3, d4, d5⟩ := six_in (cs := cs2) (k := t * 6) (by have := HCS.out; omega) (.int .u8 99) (.bool false) (.bool false) (.string ⟨#[]⟩) (.string markB) (.slice none 0 0)
                exact ⟨(hB4.cell _).trans d0, (hB4.cell _).trans d4⟩
              · have hm := HMK.out t h1 (by omega)
                have qc : ∀ o, o ≤ 5 → (set6 wr (w.heap.size + 1 + 1 + 1) (i * 6) (.int .u8 99) (.bool false) (.bool false) (.string ⟨#[]⟩) (.string markB) (.slice none 0 0)).cell? ⟨(w.heap.size + 1 + 1 + 1), t * 6 + o, none⟩ = wr.cell? ⟨(w.heap.size + 1 + 1 + 1), t * 6 + o, none⟩ := fun o ho => by
                  rw [hB4.cell, HS.out.blk.cell, six_out (by omega)]
                exact ⟨(qc 0 (by omega)).trans hm.1, (qc 4 (by omega)).trans hm.2⟩
            · exact (set6_other (by omega)).trans HBR.out
            · exact (set6_other (by omega)).trans HBY.out
            · exact set6_below hb (by omega) (i * 6) (.int .u8 99) (.bool false) (.bool false) (.string ⟨#[]⟩) (.string markB) (.slice none 0 0)
          case measure => simp only [intOf]; omega
        · have tl3 : decide ((i : Int) < (j : Int) + 2) = false := decide_eq_false (by omega)
          have tl4 : decide ((i : Int) < ((j + 2 : Nat) : Int)) = false := decide_eq_false (by omega)
          have tl5 : decide (i < j + 2) = false := decide_eq_false hlt
          have hin2 : i = j + 2 := by omega
          have HI2 : Hid (i = j + 2) := hin2
          have hBy := HBY.out
          obtain ⟨x0, x1, x2, x3, x4, x5⟩ := Blk.c6 hBy
          have hBr := HBR.out
          obtain ⟨d0, d1, d2, d3, d4, d5⟩ := Blk.c6 hBr
          have f0 := Blk.frozen HBR.out 0
          have f1 := Blk.frozen HBR.out 1
          have f2 := Blk.frozen HBR.out 2
          have f3 := Blk.frozen HBR.out 3
          have f4 := Blk.frozen HBR.out 4
          have f5 := Blk.frozen HBR.out 5
          clear hBy hBr hin2
          go_wp2_with fail
          have hfin := Blk.set6 HBR.out (.int .u8 k) (.bool y) (.bool b) (.string m) (.string r) (.slice (some ⟨w.heap.size + 1 + 1 + 1, 0, none⟩) j (j + 2))
          have hbw := set6_below hb (show w.heap.size ≤ w.heap.size + 1 by omega) 0 (.int .u8 k) (.bool y) (.bool b) (.string m) (.string r) (.slice (some ⟨w.heap.size + 1 + 1 + 1, 0, none⟩) j (j + 2))
          refine bodyPost_ret (res23_run (b := w.heap.size + 1) hfin rfl) rfl ?_
          refine ⟨some ⟨(w.heap.size + 1 + 1 + 1), 0, none⟩, j + 2, rfl, ?_, hbw⟩
          have e7 := set6_size wr (w.heap.size + 1) 0 (.int .u8 k) (.bool y) (.bool b) (.string m) (.string r) (.slice (some ⟨w.heap.size + 1 + 1 + 1, 0, none⟩) j (j + 2))
          have hblk : ∀ b', (w.heap.size + 1 + 1 + 1) ≤ b' → (set6 wr (w.heap.size + 1) 0 (.int .u8 k) (.bool y) (.bool b) (.string m) (.string r) (.slice (some ⟨w.heap.size + 1 + 1 + 1, 0, none⟩) j (j + 2))).heap[b']? = wr.heap[b']? := fun b' hb' => set6_other (by omega)
          show LIn (set6 wr (w.heap.size + 1) 0 (.int .u8 k) (.bool y) (.bool b) (.string m) (.string r) (.slice (some ⟨w.heap.size + 1 + 1 + 1, 0, none⟩) j (j + 2))) _ (set6 wr (w.heap.size + 1) 0 (.int .u8 k) (.bool y) (.bool b) (.string m) (.string r) (.slice (some ⟨w.heap.size + 1 + 1 + 1, 0, none⟩) j (j + 2))).heap.size _ _ _
          rw [e7]
          have hS := HS.out
          have hp0 := hS.p0
          have hln2 := HLN.out
          have q := fun o => cell_of_block (hblk (w.heap.size + 1 + 1 + 1) (Nat.le_refl _)) o
          refine .row A C P (by omega) hS.p0 (fun i' k' h1 h2 => hS.mono i' k' h1 (by simp only [Prt.items] at h2; omega)) (by simp only [Prt.items]; rw [hln2]; exact hS.top) ((hblk _ (Nat.le_refl _)).trans hS.blk) hS.size (by simp only [Prt.items]; omega) (by simp only [Prt.items]; omega) (fun t h1 h2 => ?_) (fun t ht => ?_) (fun t ht => ?_)
          · simp only [Prt.items] at h1 h2
            have := HMK.out t (by omega) (by have := HI2.out; omega)
            exact ⟨(q _).trans this.1, (q _).trans this.2⟩
          · simp only [Prt.items] at ht ⊢
            obtain ⟨z0, z1, z2, z3, z4, z5⟩ := hS.row t ht (by omega)
            exact ⟨(q _).trans z0, (q _).trans z1, (q _).trans z2, (q _).trans z3, (q _).trans z4, (q _).trans z5⟩
          · simp only [Prt.items] at ht ⊢
            have hm := hS.mono 0 t (Nat.zero_le _) (by omega)
            exact (hS.win t ht (by omega)).keep fun b' q1 q2 => hblk b' (by omega)
theorem lent_any : ∀ (p : Prt), wt p ≤ 536870912 → LentOk p := by
  intro p
  induction p using Prt.ind with
  | h k y b m r l ih =>
    intro hw
    have h1 := wt_items (k := k) (y := y) (b := b) (m := m) (r := r) (l := l)
    have h2 := wt_len l
    exact lent_step k y b m r l (by omega) (fun x hx => ih x hx (by have := wt_mem hx; omega))
end Go.Proofs.YtnjfkijekohdkaaDoor
