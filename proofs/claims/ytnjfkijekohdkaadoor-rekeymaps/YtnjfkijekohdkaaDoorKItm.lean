/- What rekey's ownItem and itemOf do (contracts; nothing is claimed here). -/
import Derived.Test.YtnjfkijekohdkaaDoorKLst
import Derived.Test.YtnjfkijekohdkaaDoorAsk
import Derived.BigQuiet
import Derived.Deep.QuietTactic
namespace Go.Proofs.YtnjfkijekohdkaaDoor
open Go.RowKit Go.Vf

/-- Why a part may not stand within a tuple; 0: it may. -/
def ownW (p : Prt) : Int := if deeper 16 p = true then 91 else if may p = false then 90 else if dep p = 16 then 91 else 0
/-- What ownItem answers. -/
def OwnPost (G : Int) (p : Prt) (w : World) (e : Ending) (w' : World) : Prop := Below w.heap.size w w' ∧ ((G = 0 ∧ ∃ v, e = .returned (.tuple #[v, .nilIface]) ∧ VIn w' w.heap.size w'.heap.size v p) ∨ (G ≠ 0 ∧ e = .returned (.tuple #[.nilIface, .iface 33 (.int .i64 G)])))
set_option maxHeartbeats 2000000 in
set_option maxRecDepth 20000 in
theorem ownItem_any (p : Prt) (hf : Fits p) (a : Option Addr) (c lo n₀ : Nat) (w : World) (hn₀ : n₀ ≤ w.heap.size) (hin : PIn w lo n₀ p a) :
    Calls Tryd.prog 57 #[.agg #[.int .u8 p.kind, .bool p.yes, .bool p.neg, .string p.mag, .string p.raw, .slice a p.items.length c]] w (OwnPost (ownW p) p w) := by
  have hb1 := (Below.refl w.heap.size w).alloc (Nat.le_refl _) (.cells #[.int .u8 p.kind, .bool p.yes, .bool p.neg, .string p.mag, .string p.raw, .slice a p.items.length c] 29)
  have hB1 := Blk.new w 29 #[.int .u8 p.kind, .bool p.yes, .bool p.neg, .string p.mag, .string p.raw, .slice a p.items.length c]
  have hmk := make_any p hf a c lo n₀ (w.alloc (.cells #[.int .u8 p.kind, .bool p.yes, .bool p.neg, .string p.mag, .string p.raw, .slice a p.items.length c] 29)) (Nat.le_trans hn₀ hb1.size) (hin.keep hb1 hn₀)
  unfold pV at hmk
  clear hin hf
  obtain ⟨G, hG⟩ : ∃ G, ownW p = G := ⟨_, rfl⟩
  rw [hG]
  have HG : Hid (ownW p = G) := hG
  clear hG
  generalize p.items.length = pl at *
  go_enter Tryd.func57, Tryd.ntmps57
  go_upto_region 1 with fail
  generalize w.alloc (.cells #[.int .u8 p.kind, .bool p.yes, .bool p.neg, .string p.mag, .string p.raw, .slice a pl c] 29) = w1 at *
  obtain ⟨c0, c1, c2, c3, c4, c5⟩ := hB1.c6
  clear hB1
  go_wp2_with fail
  refine hmk.mono ?_
  clear hmk c0 c1 c2 c3 c4 c5
  rintro e w2 ⟨hb2, hp⟩
  have hb02 := hb1.trans (hb2.mono hb1.size)
  have hs1 := hb1.size
  rcases hp with ⟨h1, rfl⟩ | ⟨h1, h2, rfl⟩ | ⟨h1, h2, v, rfl, hv⟩
  · have hGe : G = 91 := by rw [← HG.out]; unfold ownW; rw [if_pos h1]
    subst hGe
    clear HG h1
    go_wp2_with fail
    go_ret2
    exact ⟨hb02, .inr ⟨by decide, rfl⟩⟩
  · have hGe : G = 90 := by rw [← HG.out]; unfold ownW; rw [if_neg (by rw [h1]; simp), if_pos h2]
    subst hGe
    clear HG h1 h2
    go_wp2_with fail
    go_ret2
    exact ⟨hb02, .inr ⟨by decide, rfl⟩⟩
  · have hdp := Depth_any v p _ _ w2 hv
    have HV : Hid (VIn w2 w.heap.size w2.heap.size v p) := hv.mono (Nat.le_refl _) hs1
    have HG2 : Hid (G = if dep p = 16 then 91 else 0) := by show _ = _; rw [← HG.out]; unfold ownW; rw [if_neg (by rw [h1]; simp), if_neg (by rw [h2]; simp)]
    clear HG h1 h2 hv
    go_wp2_with fail
    refine hdp.mono ?_
    clear hdp
    rintro _ _ ⟨rfl, rfl⟩
    by_cases h16 : dep p = 16
    · have hGe : G = 91 := by rw [HG2.out, if_pos h16]
      subst hGe
      have t1 : ((dep p : Int) == 16) = true := by rw [h16]; rfl
      have t2 : decide ((dep p : Int) = 16) = true := decide_eq_true (by omega)
      clear HG2 h16
      go_wp2_with fail
      go_ret2
      exact ⟨hb02, .inr ⟨by decide, rfl⟩⟩
    · have hGe : G = 0 := by rw [HG2.out, if_neg h16]
      subst hGe
      have t1 : ((dep p : Int) == 16) = false := beq_eq_false_iff_ne.2 (by omega)
      have t2 : decide ((dep p : Int) = 16) = false := decide_eq_false (by omega)
      clear HG2 h16
      go_wp2_with fail
      go_ret2
      exact ⟨hb02, .inl ⟨rfl, v, rfl, HV.out⟩⟩
/-- A source as a value. -/
abbrev srcC (f : Int) (p : Prt) (a : Option Addr) (c : Nat) : Array Value := #[.int .i64 f, .int .u8 p.kind, .bool p.yes, .bool p.neg, .string p.mag, .string p.raw, .slice a p.items.length c]
set_option maxHeartbeats 2000000 in
set_option maxRecDepth 20000 in
theorem itemOf_own (f : Int) (hf0 : f < 0) (p : Prt) (hf : Fits p) (a : Option Addr) (c lo n₀ : Nat) (w : World) (hn₀ : n₀ ≤ w.heap.size) (hin : PIn w lo n₀ p a) (u : Value) :
    Calls Tryd.prog 43 #[.agg #[.int .i64 f, .int .u8 p.kind, .bool p.yes, .bool p.neg, .string p.mag, .string p.raw, .slice a p.items.length c], u] w (OwnPost (ownW p) p w) := by
  have hb1 := (Below.refl w.heap.size w).alloc (Nat.le_refl _) (.cells (srcC f p a c) 52)
  have hB1 := Blk.new w 52 (srcC f p a c)
  have how := ownItem_any p hf a c lo n₀ (w.alloc (.cells (srcC f p a c) 52)) (Nat.le_trans hn₀ hb1.size) (hin.keep hb1 hn₀)
  have t1 : decide (f < 0) = true := decide_eq_true hf0
  unfold srcC at *
  clear hin hf
  generalize p.items.length = pl at *
  go_enter Tryd.func43, Tryd.ntmps43
  go_upto_region 1 with fail
  generalize w.alloc (.cells #[.int .i64 f, .int .u8 p.kind, .bool p.yes, .bool p.neg, .string p.mag, .string p.raw, .slice a pl c] 52) = w1 at *
  have c0 := hB1.cell 0
  have c1 := hB1.cell 1
  have c2 := hB1.cell 2
  have c3 := hB1.cell 3
  have c4 := hB1.cell 4
  have c5 := hB1.cell 5
  have c6 := hB1.cell 6
  simp only [List.getElem?_toArray, List.getElem?_cons_zero, List.getElem?_cons_succ] at c0 c1 c2 c3 c4 c5 c6
  clear hB1
  go_wp2_with fail
  refine how.mono ?_
  clear how c0 c1 c2 c3 c4 c5 c6
  rintro e w2 ⟨hb2, hp⟩
  have hb02 := hb1.trans (hb2.mono hb1.size)
  have hs1 := hb1.size
  rcases hp with ⟨h1, v, rfl, hv⟩ | ⟨h1, rfl⟩
  · have HV : Hid (VIn w2 w.heap.size w2.heap.size v p) := hv.mono (Nat.le_refl _) hs1
    have HH : Hid (ownW p = 0) := h1
    clear hv h1
    go_wp2_with fail
    go_ret2
    exact ⟨hb02, .inl ⟨HH.out, v, rfl, HV.out⟩⟩
  · have HH : Hid (ownW p ≠ 0) := h1
    clear h1
    go_wp2_with fail
    go_ret2
    exact ⟨hb02, .inr ⟨HH.out, rfl⟩⟩
set_option maxHeartbeats 2000000 in
set_option maxRecDepth 20000 in
theorem itemOf_old (j : Nat) (p : Prt) (a : Option Addr) (c : Nat) (g h off ln cc : Nat) (v : Value) (w : World) (hj : j < ln) (hl : ln ≤ 281474976710656) (h0 : w.cell? ⟨g, 0, none⟩ = some (.slice (some ⟨h, off, none⟩) ln cc)) (h1 : w.cell? ⟨h, off + j, none⟩ = some v) :
    Calls Tryd.prog 43 #[.agg #[.int .i64 (j : Int), .int .u8 p.kind, .bool p.yes, .bool p.neg, .string p.mag, .string p.raw, .slice a p.items.length c], .iface 83 (.pointer (some ⟨g, 0, none⟩))] w fun e w' => e = .returned (.tuple #[v, .nilIface]) ∧ Below w.heap.size w w' := by
  have hb1 := (Below.refl w.heap.size w).alloc (Nat.le_refl _) (.cells (srcC (j : Int) p a c) 52)
  have hB1 := Blk.new w 52 (srcC (j : Int) p a c)
  have hg1 : (w.alloc (.cells (srcC (j : Int) p a c) 52)).cell? ⟨g, 0, none⟩ = some (.slice (some ⟨h, off, none⟩) ln cc) := (World.cell?_alloc_lt _ _ _ (World.block_lt_of_cell? w _ h0)).trans h0
  have hh1 : (w.alloc (.cells (srcC (j : Int) p a c) 52)).cell? ⟨h, off + j, none⟩ = some v := (World.cell?_alloc_lt _ _ _ (World.block_lt_of_cell? w _ h1)).trans h1
  have t1 : decide ((j : Int) < 0) = false := decide_eq_false (by omega)
  have t3 : decide ((ln : Int) ≤ (j : Int)) = false := decide_eq_false (by omega)
  have t4 : decide (ln ≤ j) = false := decide_eq_false (by omega)
  unfold srcC at *
  clear h0 h1
  generalize p.items.length = pl at *
  have m1 := mLen ⟨g, 0, none⟩
  have m2 := mAt ⟨g, 0, none⟩
  go_enter Tryd.func43, Tryd.ntmps43
  go_upto_region 1 with fail
  generalize w.alloc (.cells #[.int .i64 (j : Int), .int .u8 p.kind, .bool p.yes, .bool p.neg, .string p.mag, .string p.raw, .slice a pl c] 52) = w1 at *
  have c0 := hB1.cell 0
  simp only [List.getElem?_toArray, List.getElem?_cons_zero] at c0
  clear hB1
  have HLN : Hid (∀ k, Calls Tryd.prog 90 #[.pointer (some ⟨g, 0, none⟩)] (w1.drewN k) fun e w' => e = .returned (.int .i64 ln) ∧ w' = w1.drewN k) := fun k => len_any g _ ln cc (w1.drewN k) hg1 hl
  have HAT : Hid (∀ k, Calls Tryd.prog 88 #[.pointer (some ⟨g, 0, none⟩), .int .i64 j] (w1.drewN k) fun e w' => e = .returned v ∧ w' = w1.drewN k) := fun k => at_in g h off ln cc j v (w1.drewN k) hj hl hg1 hh1
  clear hg1 hh1
  go_upto_region 3 with fail
  go_quiet (first | (go_at_call 90; refine Calls.quiet_of_same (HLN.out _)))
  go_wp2_with fail
  refine (HAT.out _).mono ?_
  rintro _ _ ⟨rfl, rfl⟩
  go_wp2_with fail
  go_ret2
  exact ⟨rfl, ⟨hb1.os, hb1.tape, hb1.output, hb1.size, hb1.block⟩⟩
end Go.Proofs.YtnjfkijekohdkaaDoor
