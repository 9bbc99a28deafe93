/- What rekey's wrongSource does, and itemOf at an item that is not there (contracts; nothing is claimed here). -/
import Derived.Test.YtnjfkijekohdkaaDoorKAs
import Derived.Test.YtnjfkijekohdkaaDoorKTup
namespace Go.Proofs.YtnjfkijekohdkaaDoor
open Go.RowKit Go.Vf

/-- What is read of the listed variables: the type of errors, and the error of an item that is not there. -/
structure EnvK (w : World) (en : Addr) : Prop where
  et : w.cell? ⟨0, 0, none⟩ = some (.iface 122 (.agg #[hnd 44]))
  ni : w.cell? ⟨1, 0, none⟩ = some (.iface 137 (.pointer (some en)))
theorem EnvK.old {w w' : World} {en : Addr} (h : EnvK w en) {n : Nat} (hn : 2 ≤ n) (hb : Below n w w') : EnvK w' en :=
  ⟨(hb.cell (p := ⟨0, 0, none⟩) (show 0 < n by omega)).trans h.et, (hb.cell (p := ⟨1, 0, none⟩) (show 1 < n by omega)).trans h.ni⟩
theorem EnvK.two {w : World} {en : Addr} (h : EnvK w en) : 2 ≤ w.heap.size := World.block_lt_of_cell? w _ h.ni
/-- A Fault of a source. -/
def FaultK (w : World) (base : Nat) (v : Value) (c m : Int) (why : Value) : Prop := ∃ F, v = .iface 67 (.pointer (some ⟨F, 0, none⟩)) ∧ base ≤ F ∧ Blk w F 69 #[.int .i64 c, .int .i64 m, .slice none 0 0, why]
/-- What it comes of. -/
def whyV (k : Int) : Value := if k = 0 then .nilIface else .iface 33 (.int .i64 k)
/-- The error that is handed to it. -/
def errV (en : Addr) (k : Int) : Value := if k = 0 then .iface 137 (.pointer (some en)) else .iface 33 (.int .i64 k)
set_option maxHeartbeats 4000000 in
set_option maxRecDepth 20000 in
theorem wrong_any (i k : Int) (en : Addr) (w : World) (hE : EnvK w en) : Calls Tryd.prog 44 #[.int .i64 i, errV en k] w fun e w' => ∃ v, e = .returned v ∧ FaultK w' w.heap.size v 180 i (whyV k) ∧ Below w.heap.size w w' := by
  have h2 := hE.two
  have hb1 := (Below.refl w.heap.size w).alloc (Nat.le_refl _) (.cells #[.int .i64 180, .int .i64 i, .slice none 0 0, .nilIface] 69)
  have hF1 := Blk.new w 69 #[.int .i64 180, .int .i64 i, .slice none 0 0, .nilIface]
  have hs1 := alloc_size w (.cells #[.int .i64 180, .int .i64 i, .slice none 0 0, .nilIface] 69)
  obtain ⟨w1, hw1⟩ : ∃ w1, w.alloc (.cells #[.int .i64 180, .int .i64 i, .slice none 0 0, .nilIface] 69) = w1 := ⟨_, rfl⟩
  rw [hw1] at hb1 hF1 hs1
  have hb2 := (Below.refl w1.heap.size w1).alloc (Nat.le_refl _) (.cells #[.int .i64 0] 33)
  have hY2 := Blk.new w1 33 #[.int .i64 0]
  rw [hs1] at hY2
  have hF2 := hF1.old hb2
  have hb02 := hb1.trans (hb2.mono hb1.size)
  have hE2 := hE.old h2 hb02
  obtain ⟨w2, hw2⟩ : ∃ w2, w1.alloc (.cells #[.int .i64 0] 33) = w2 := ⟨_, rfl⟩
  rw [hw2] at hb2 hY2 hF2 hb02 hE2
  have hs2 : w.heap.size + 1 < w2.heap.size := hY2.lt
  by_cases hk : k = 0
  · subst hk
    have has := as_new en ⟨w.heap.size + 1, 0, none⟩ (.int .i64 0) w2 hE2.et (hY2.cell 0)
    have e1 : errV en 0 = .iface 137 (.pointer (some en)) := rfl
    have e2 : whyV 0 = .nilIface := rfl
    rw [e1, e2]
    clear hE hE2 hb1 hF1 hb2 hY2 e1 e2 h2
    go_enter Tryd.func44, Tryd.ntmps44
    go_upto_region 3 with fail
    (try rw [hw1]); (try rw [hw2])
    clear hw1 hw2 hs1
    go_wp2_with fail
    refine has.mono ?_
    clear has
    rintro _ w3 ⟨rfl, hb3⟩
    have HF : Hid (Blk w3 w.heap.size 69 #[.int .i64 180, .int .i64 i, .slice none 0 0, .nilIface]) := hF2.old hb3
    have HB : Hid (Below w.heap.size w w3) := hb02.trans (hb3.mono hb02.size)
    clear hb3 hF2 hb02
    go_wp2_with fail
    go_ret
    exact ⟨_, rfl, ⟨_, rfl, Nat.le_refl _, HF.out⟩, HB.out⟩
  · have has := as_errno k ⟨w.heap.size + 1, 0, none⟩ (.int .i64 0) w2 hE2.et (hY2.cell 0) (hY2.frozen 0)
    have e1 : errV en k = .iface 33 (.int .i64 k) := if_neg hk
    have e2 : whyV k = .iface 33 (.int .i64 k) := if_neg hk
    rw [e1, e2]
    have hbA : Below w2.heap.size w2 (asW w2 ⟨w.heap.size + 1, 0, none⟩ k) := by
      unfold asW
      exact ((((Below.refl w2.heap.size w2).alloc (Nat.le_refl _) _).alloc (by simp) _).alloc (by simp; omega) _).alloc (by simp; omega) _
    have hF3 := (hF2.old hbA).other (p := ⟨w.heap.size + 1, 0, none⟩) (show w.heap.size ≠ w.heap.size + 1 by omega) (.int .i64 k)
    have hY3 : Blk ((asW w2 ⟨w.heap.size + 1, 0, none⟩ k).setCell ⟨w.heap.size + 1, 0, none⟩ (.int .i64 k)) (w.heap.size + 1) 33 #[.int .i64 k] := (hY2.old hbA).set 0 (.int .i64 k)
    have hb03 : Below w.heap.size w ((asW w2 ⟨w.heap.size + 1, 0, none⟩ k).setCell ⟨w.heap.size + 1, 0, none⟩ (.int .i64 k)) := (hb02.trans (hbA.mono hb02.size)).setCell (p := ⟨w.heap.size + 1, 0, none⟩) (Nat.le_succ _) _
    clear hE hE2 hb1 hF1 hb2 hY2 e1 e2 h2 hk hF2 hbA
    go_enter Tryd.func44, Tryd.ntmps44
    go_upto_region 3 with fail
    (try rw [hw1]); (try rw [hw2])
    clear hw1 hw2 hs1
    go_wp2_with fail
    refine has.mono ?_
    clear has
    rintro _ w3 ⟨rfl, rfl⟩
    generalize (asW w2 ⟨w.heap.size + 1, 0, none⟩ k).setCell ⟨w.heap.size + 1, 0, none⟩ (.int .i64 k) = w3 at *
    have y0 : w3.cell? ⟨w.heap.size + 1, 0, none⟩ = some (.int .i64 k) := hY3.cell 0
    have f3 : w3.cell? ⟨w.heap.size, 3, none⟩ = some .nilIface := hF3.cell 3
    have ff3 : w3.frozen? ⟨w.heap.size, 3, none⟩ = false := hF3.frozen 3
    have HF : Hid (Blk (w3.setCell ⟨w.heap.size, 3, none⟩ (.iface 33 (.int .i64 k))) w.heap.size 69 #[.int .i64 180, .int .i64 i, .slice none 0 0, .iface 33 (.int .i64 k)]) := hF3.set 3 (.iface 33 (.int .i64 k))
    have HB : Hid (Below w.heap.size w (w3.setCell ⟨w.heap.size, 3, none⟩ (.iface 33 (.int .i64 k)))) := hb03.setCell (p := ⟨w.heap.size, 3, none⟩) (Nat.le_refl _) _
    clear hF3 hY3 hb03
    go_wp2_with fail
    go_ret
    exact ⟨_, rfl, ⟨_, rfl, Nat.le_refl _, HF.out⟩, HB.out⟩
set_option maxHeartbeats 2000000 in
set_option maxRecDepth 20000 in
theorem itemOf_out (f : Int) (p : Prt) (a : Option Addr) (c : Nat) (g ln cc : Nat) (aa : Option Addr) (en : Addr) (w : World) (hf0 : 0 ≤ f) (hf : (ln : Int) ≤ f) (hl : ln ≤ 281474976710656) (h0 : w.cell? ⟨g, 0, none⟩ = some (.slice aa ln cc)) (hE : EnvK w en) :
    Calls Tryd.prog 43 #[.agg #[.int .i64 f, .int .u8 p.kind, .bool p.yes, .bool p.neg, .string p.mag, .string p.raw, .slice a p.items.length c], .iface 83 (.pointer (some ⟨g, 0, none⟩))] w fun e w' => e = .returned (.tuple #[.nilIface, .iface 137 (.pointer (some en))]) ∧ Below w.heap.size w w' := by
  have hb1 := (Below.refl w.heap.size w).alloc (Nat.le_refl _) (.cells (srcC f p a c) 52)
  have hB1 := Blk.new w 52 (srcC f p a c)
  have hg1 : (w.alloc (.cells (srcC f p a c) 52)).cell? ⟨g, 0, none⟩ = some (.slice aa ln cc) := (World.cell?_alloc_lt _ _ _ (World.block_lt_of_cell? w _ h0)).trans h0
  have hni : (w.alloc (.cells (srcC f p a c) 52)).cell? ⟨1, 0, none⟩ = some (.iface 137 (.pointer (some en))) := (World.cell?_alloc_lt _ _ _ (World.block_lt_of_cell? w _ hE.ni)).trans hE.ni
  have t1 : decide (f < 0) = false := decide_eq_false (by omega)
  have t3 : decide ((ln : Int) ≤ f) = true := decide_eq_true hf
  unfold srcC at *
  clear h0 hE
  generalize p.items.length = pl at *
  have m1 := mLen ⟨g, 0, none⟩
  go_enter Tryd.func43, Tryd.ntmps43
  go_upto_region 1 with fail
  generalize w.alloc (.cells #[.int .i64 f, .int .u8 p.kind, .bool p.yes, .bool p.neg, .string p.mag, .string p.raw, .slice a pl c] 52) = w1 at *
  have c0 := hB1.cell 0
  simp only [List.getElem?_toArray, List.getElem?_cons_zero] at c0
  clear hB1
  have HLN : Hid (∀ k, Calls Tryd.prog 90 #[.pointer (some ⟨g, 0, none⟩)] (w1.drewN k) fun e w' => e = .returned (.int .i64 ln) ∧ w' = w1.drewN k) := fun k => len_any g _ ln cc (w1.drewN k) hg1 hl
  clear hg1
  go_upto_region 3 with fail
  go_quiet (first | (go_at_call 90; refine Calls.quiet_of_same (HLN.out _)))
  go_upto_region 4 with fail
  obtain ⟨wq, hwq⟩ : ∃ wq, w1.drewN nq = wq := ⟨_, rfl⟩
  have hni2 : wq.cell? ⟨1, 0, none⟩ = some (.iface 137 (.pointer (some en))) := by rw [← hwq]; exact hni
  have hbq : Below w.heap.size w wq := by rw [← hwq]; exact ⟨hb1.os, hb1.tape, hb1.output, hb1.size, hb1.block⟩
  rw [hwq]
  clear hwq hni hb1 HLN
  go_region
  go_wp2_with fail
  go_ret2
  exact ⟨rfl, ⟨hbq.os, hbq.tape, hbq.output, hbq.size, hbq.block⟩⟩
end Go.Proofs.YtnjfkijekohdkaaDoor
