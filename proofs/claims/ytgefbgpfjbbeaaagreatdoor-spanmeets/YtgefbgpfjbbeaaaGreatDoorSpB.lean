/- What span's beginItems does with the document's example (a contract; nothing is claimed here). -/
import Derived.Test.YtgefbgpfjbbeaaaGreatDoorSpA
import Derived.Test.YtgefbgpfjbbeaaaGreatDoorJ10
namespace Go.Proofs.YtgefbgpfjbbeaaaGreatDoor
open Go.RowKit Go.Vf

/-- The two fields in memory. -/
def twoF : Array Value := #[.string ⟨#[97]⟩, .int .u8 2, .bool false, .int .u8 0, .bool false, .bool false, .string ⟨#[]⟩, .bool false, .string ⟨#[]⟩, .int .i64 0, .int .i64 0, .bool false, .bool false, .slice none 0 0, .string ⟨#[98]⟩, .int .u8 3, .bool false, .int .u8 0, .bool false, .bool false, .string ⟨#[]⟩, .bool false, .string ⟨#[]⟩, .int .i64 9, .int .i64 0, .bool false, .bool false, .slice none 0 0]
theorem two_at {W : World} {A : Nat} (h : Blk W A 50 twoF) : FIn W 0 (A + 1) [.mk oA [], .mk oB []] (some ⟨A, 0, none⟩) := by
  refine .cons (fun _ => none) (fun _ => 0) (Nat.zero_le _) (by omega) (fun j hj => ?_) (fun j hj => ?_) (fun j hj => ?_)
  · rcases j with _ | _ | j
    · exact ⟨h.cell 0, h.cell 1, h.cell 2, h.cell 3, h.cell 4, h.cell 5, h.cell 6, h.cell 7, h.cell 8, h.cell 9, h.cell 10, h.cell 11, h.cell 12, h.cell 13⟩
    · exact ⟨h.cell 14, h.cell 15, h.cell 16, h.cell 17, h.cell 18, h.cell 19, h.cell 20, h.cell 21, h.cell 22, h.cell 23, h.cell 24, h.cell 25, h.cell 26, h.cell 27⟩
    · simp at hj; omega
  · rcases j with _ | _ | j
    · exact Nat.le_refl _
    · exact Nat.le_refl _
    · simp at hj; omega
  · rcases j with _ | _ | j
    · exact .nil
    · exact .nil
    · simp at hj; omega
/-- The tuple of one in memory. -/
structure Tup1 (W : World) (g h off c : Nat) (d : Value) : Prop where
  row : Blk W g 147 #[.slice (some ⟨h, off, none⟩) 1 c, d]
  lt : h < W.heap.size
  cell : W.cell? ⟨h, off + 0, none⟩ = some (.iface 106 (.agg #[.bool false, .string ⟨#[1]⟩]))
theorem Tup1.old {W W' : World} {g h off c : Nat} {d : Value} (t : Tup1 W g h off c d) (hb : Below W.heap.size W W') : Tup1 W' g h off c d :=
  ⟨t.row.old hb, Nat.lt_of_lt_of_le t.lt hb.size, (hb.cell (p := ⟨h, off + 0, none⟩) t.lt).trans t.cell⟩
def tup1 : Prt := .mk 7 false false ⟨#[]⟩ ⟨#[]⟩ [.mk 2 false false ⟨#[1]⟩ ⟨#[]⟩ []]
theorem tup1_of {W : World} {lo n₀ : Nat} {v : Value} (hn : n₀ ≤ W.heap.size) (h : VIn W lo n₀ v tup1) : ∃ g hh off c d, v = .iface 108 (.pointer (some ⟨g, 0, none⟩)) ∧ Tup1 W g hh off c d := by
  unfold tup1 at h
  cases h with
  | tup V h1 h2 h3 h4 h5 =>
    obtain ⟨hh, off, ha, _, hlt, hc⟩ := h4 0 (by simp)
    have h6 := h5 0 (by simp)
    simp only [List.getElem_cons_zero] at h6
    subst ha
    have h7 : W.cell? ⟨hh, off + 0, none⟩ = some (.iface 106 (.agg #[.bool false, .string ⟨#[1]⟩])) := by
      rw [hc]
      generalize V 0 = x at h6 ⊢
      cases h6 with
      | num b m => rfl
    exact ⟨_, hh, off, _, _, rfl, ⟨h3, by omega, h7⟩⟩
theorem fresh_at {W : World} {B b : Nat} (hB : B ≤ b) (h : Blk W b 157 #[.pointer none, .slice none 0 0]) : Lib.IsBuilder 157 5 B b [] W :=
  Or.inl ⟨hB, _, h, ⟨rfl, Or.inl ⟨rfl, rfl⟩⟩, by simp [Value.ownBlock]⟩
theorem begin_results41 {tmps : Array Value} {w : World} {h : Nat} {a b : Value} (hb : Blk w h 71 #[a, b]) (t6 : tmps[6]?.getD undef = .pointer (some ⟨h, 0, none⟩)) (t7 : tmps[7]?.getD undef = .nilIface) :
    (results Tryz.f41 tmps).run Tryz.prog w = .ok (.tuple #[.agg #[a, b], .nilIface]) w := by
  have c0 := hb.cell 0
  have c1 := hb.cell 1
  simp at c0 c1
  simp [results, Tryz.results41, go_sem, t6, t7, c0, c1]
theorem cA {W : World} {A : Nat} (h : Blk W A 50 twoF) : (W.cell? ⟨A, 0, none⟩ = some (.string ⟨#[97]⟩) ∧ W.cell? ⟨A, 1, none⟩ = some (.int .u8 2) ∧ W.cell? ⟨A, 2, none⟩ = some (.bool false) ∧ W.cell? ⟨A, 3, none⟩ = some (.int .u8 0) ∧ W.cell? ⟨A, 4, none⟩ = some (.bool false) ∧ W.cell? ⟨A, 5, none⟩ = some (.bool false) ∧ W.cell? ⟨A, 6, none⟩ = some (.string ⟨#[]⟩) ∧ W.cell? ⟨A, 7, none⟩ = some (.bool false) ∧ W.cell? ⟨A, 8, none⟩ = some (.string ⟨#[]⟩) ∧ W.cell? ⟨A, 9, none⟩ = some (.int .i64 0) ∧ W.cell? ⟨A, 10, none⟩ = some (.int .i64 0) ∧ W.cell? ⟨A, 11, none⟩ = some (.bool false) ∧ W.cell? ⟨A, 12, none⟩ = some (.bool false) ∧ W.cell? ⟨A, 13, none⟩ = some (.slice none 0 0)) :=
  ⟨h.cell 0, h.cell 1, h.cell 2, h.cell 3, h.cell 4, h.cell 5, h.cell 6, h.cell 7, h.cell 8, h.cell 9, h.cell 10, h.cell 11, h.cell 12, h.cell 13⟩
theorem cB {W : World} {A : Nat} (h : Blk W A 50 twoF) : (W.cell? ⟨A, 14, none⟩ = some (.string ⟨#[98]⟩) ∧ W.cell? ⟨A, 15, none⟩ = some (.int .u8 3) ∧ W.cell? ⟨A, 16, none⟩ = some (.bool false) ∧ W.cell? ⟨A, 17, none⟩ = some (.int .u8 0) ∧ W.cell? ⟨A, 18, none⟩ = some (.bool false) ∧ W.cell? ⟨A, 19, none⟩ = some (.bool false) ∧ W.cell? ⟨A, 20, none⟩ = some (.string ⟨#[]⟩) ∧ W.cell? ⟨A, 21, none⟩ = some (.bool false) ∧ W.cell? ⟨A, 22, none⟩ = some (.string ⟨#[]⟩) ∧ W.cell? ⟨A, 23, none⟩ = some (.int .i64 9) ∧ W.cell? ⟨A, 24, none⟩ = some (.int .i64 0) ∧ W.cell? ⟨A, 25, none⟩ = some (.bool false) ∧ W.cell? ⟨A, 26, none⟩ = some (.bool false) ∧ W.cell? ⟨A, 27, none⟩ = some (.slice none 0 0)) :=
  ⟨h.cell 14, h.cell 15, h.cell 16, h.cell 17, h.cell 18, h.cell 19, h.cell 20, h.cell 21, h.cell 22, h.cell 23, h.cell 24, h.cell 25, h.cell 26, h.cell 27⟩
set_option maxHeartbeats 4000000 in
set_option maxRecDepth 20000 in
theorem beginItems_one (tb A g hh off c : Nat) (d : Value) (w : World) (hA : Blk w A 50 twoF) (hT : Tup1 w g hh off c d) :
    Calls Tryz.prog 41 #[.pointer (some ⟨tb, 0, none⟩), .slice (some ⟨A, 0, none⟩) 2 2, .iface 108 (.pointer (some ⟨g, 0, none⟩))] w fun e w' => e = .returned (.tuple #[.agg #[.string ⟨#[18, 129, 1]⟩, .int .i64 1], .nilIface]) ∧ Below w.heap.size w w' := by
  have hml := mLenU ⟨g, 0, none⟩
  have hma := mAtU ⟨g, 0, none⟩
  have hb1 := (Below.refl w.heap.size w).alloc (Nat.le_refl _) (.cells #[.string ⟨#[]⟩, .int .i64 0] 71)
  have hR1 := Blk.new w 71 #[.string ⟨#[]⟩, .int .i64 0]
  have hs1 := alloc_size w (.cells #[.string ⟨#[]⟩, .int .i64 0] 71)
  have hb2 := (Below.refl _ (w.alloc (.cells #[.string ⟨#[]⟩, .int .i64 0] 71))).alloc (Nat.le_refl _) (.cells #[.pointer none, .slice none 0 0] 157)
  have hB2 := Blk.new (w.alloc (.cells #[.string ⟨#[]⟩, .int .i64 0] 71)) 157 #[.pointer none, .slice none 0 0]
  have hl1 := fun W (hb : Below w.heap.size w W) => lenTup g (some ⟨hh, off, none⟩) 1 c d W (hT.old hb).row
  go_enter Tryz.func41, Tryz.ntmps41
  go_wp2_with fail
  refine (hl1 _ hb1).mono ?_
  rintro _ _ ⟨rfl, rfl⟩
  go_upto_region 4 with fail
  have hb02 := hb1.trans (hb2.mono hb1.size)
  rw [hs1] at hB2 hb2
  generalize w.alloc (.cells #[.string ⟨#[]⟩, .int .i64 0] 71) = w1 at hb1 hR1 hs1 hb2 hB2 hb02 ⊢
  generalize w1.alloc (.cells #[.pointer none, .slice none 0 0] 157) = w2 at hb2 hB2 hb02 ⊢
  go_wp2_with fail
  refine (hl1 _ hb02).mono ?_
  rintro _ _ ⟨rfl, rfl⟩
  go_wp2_with fail
  go_loopw [23] (fun iv wr => ∃ j : Nat, j ≤ 1 ∧ iv = .int .i64 (j : Int) ∧ Below (w.heap.size + 1) w1 wr ∧ Hid (j = 0 → Blk wr (w.heap.size + 1) 157 #[.pointer none, .slice none 0 0]) ∧ Hid (j = 1 → Lib.IsBuilder 157 5 (w.heap.size + 1) (w.heap.size + 1) (Lib.byteCells [18, 129, 1]) wr)) (fun iv _ => 1 - (intOf iv).toNat)
  case atStart => exact ⟨0, by omega, rfl, hb2, fun _ => hB2, fun h => by cases h⟩
  case round =>
    obtain ⟨j, hj, hiv, hbr, h0, h1⟩ := hrel
    have hbw : Below w.heap.size w wr := hb1.trans (hbr.mono (Nat.le_succ _))
    have hsr := hbr.size
    rcases j with _ | _ | j
    · have hiv' : _ = Value.int .i64 0 := hiv
      subst hiv'
      have hB := h0.out rfl
      clear h0 h1 hb2 hB2 hb02
      have hat : ∀ y, Below wr.heap.size wr y → Calls Tryz.prog 309 #[.pointer (some ⟨g, 0, none⟩), .int .i64 0] y fun e w' => e = .returned (.iface 106 (.agg #[.bool false, .string ⟨#[1]⟩])) ∧ Below y.heap.size y w' := fun y hy => by
        have ht := hT.old (hbw.trans (hy.mono hbw.size))
        refine (atTup g hh off 1 c 0 _ d (by omega) (by omega) y ht.row ht.cell).mono ?_
        rintro _ _ ⟨rfl, rfl⟩
        exact ⟨rfl, Below.refl _ _⟩
      have hput := fun W => fieldPutA tb W
      unfold fV at hput
      simp only [oA] at hput
      go_upto_region 7 with fail
      have HKeepp : Hid (∀ x y, Below wr.heap.size wr x → Below x.heap.size x y → Below wr.heap.size wr y) := fun x y h1 h2 => h1.trans (h2.mono h1.size)
      refine wp_region_held_drew (S := fun x => Below wr.heap.size wr x) (by kernel_rfl) ((Below.refl _ _).drew) (fun hHeldp => ?_)
      refine wpAnyH_takeD (i := 0) (some 27) (v := .pointer (some ⟨tb, 0, none⟩)) rfl rfl (by kernel_rfl) (by kernel_rfl) (by kernel_rfl) (fun _ _ _ h => h) (Or.inl ⟨by kernel_rfl, ?hyp1⟩) (by assumption) ?restp1
      case hyp1 => (intro x hSx; (try dsimp only at hSx); go_simp; first | done | with_reducible rfl | assumption)
      try simp only [Act.put, List.setIfInBounds_toArray, List.set_cons_zero, List.set_cons_succ]
      refine wpAnyH_takeD (i := 1) (some 28) (v := .slice (some ⟨A, 0, none⟩) 2 2) rfl rfl (by kernel_rfl) (by kernel_rfl) (by kernel_rfl) (fun _ _ _ h => h) (Or.inl ⟨by kernel_rfl, ?hyp2⟩) (by assumption) ?restp2
      case hyp2 => (intro x hSx; (try dsimp only at hSx); go_simp; first | done | with_reducible rfl | assumption)
      try simp only [Act.put, List.setIfInBounds_toArray, List.set_cons_zero, List.set_cons_succ]
      refine wpAnyH_takeD (i := 2) (some 29) (v := .int .i64 0) rfl rfl (by kernel_rfl) (by kernel_rfl) (by kernel_rfl) (fun _ _ _ h => h) (Or.inl ⟨by kernel_rfl, ?hyp3⟩) (by assumption) ?restp3
      case hyp3 => (intro x hSx; (try dsimp only at hSx); go_simp; first | done | with_reducible rfl | assumption)
      try simp only [Act.put, List.setIfInBounds_toArray, List.set_cons_zero, List.set_cons_succ]
      refine wpAnyH_takeD (i := 3) (some 30) (v := .pointer (some ⟨A, 0, none⟩)) rfl rfl (by kernel_rfl) (by kernel_rfl) (by kernel_rfl) (fun _ _ _ h => h) (Or.inl ⟨by kernel_rfl, ?hyp4⟩) (by assumption) ?restp4
      case hyp4 => (intro x hSx; (try dsimp only at hSx); go_simp; first | done | with_reducible rfl | assumption)
      try simp only [Act.put, List.setIfInBounds_toArray, List.set_cons_zero, List.set_cons_succ]
      refine wpAnyH_takeD (i := 4) (some 31) (v := .agg #[.string ⟨#[97]⟩, .int .u8 2, .bool false, .int .u8 0, .bool false, .bool false, .string ⟨#[]⟩, .bool false, .string ⟨#[]⟩, .int .i64 0, .int .i64 0, .bool false, .bool false, .slice none 0 0]) rfl rfl (by kernel_rfl) (by kernel_rfl) (by kernel_rfl) (fun _ _ _ h => h) (Or.inl ⟨by kernel_rfl, ?hyp5⟩) (by assumption) ?restp5
      case hyp5 => (intro x hSx; obtain ⟨p0, p1, p2, p3, p4, p5, p6, p7, p8, p9, p10, p11, p12, p13⟩ := cA (hA.old (hbw.trans (hSx.mono hbw.size))); (try dsimp only at hSx); go_simp; first | done | with_reducible rfl | assumption)
      try simp only [Act.put, List.setIfInBounds_toArray, List.set_cons_zero, List.set_cons_succ]
      refine wpAnyH_takeD (i := 5) (some 32) (v := .iface 108 (.pointer (some ⟨g, 0, none⟩))) rfl rfl (by kernel_rfl) (by kernel_rfl) (by kernel_rfl) (fun _ _ _ h => h) (Or.inl ⟨by kernel_rfl, ?hyp6⟩) (by assumption) ?restp6
      case hyp6 => (intro x hSx; (try dsimp only at hSx); go_simp; first | done | with_reducible rfl | assumption)
      try simp only [Act.put, List.setIfInBounds_toArray, List.set_cons_zero, List.set_cons_succ]
      refine wpAnyH_takeD (i := 6) (some 33) (v := .int .i64 0) rfl rfl (by kernel_rfl) (by kernel_rfl) (by kernel_rfl) (fun _ _ _ h => h) (Or.inl ⟨by kernel_rfl, ?hyp7⟩) (by assumption) ?restp7
      case hyp7 => (intro x hSx; (try dsimp only at hSx); go_simp; first | done | with_reducible rfl | assumption)
      try simp only [Act.put, List.setIfInBounds_toArray, List.set_cons_zero, List.set_cons_succ]
      refine wpAnyH_ready (rs := [7]) (by kernel_rfl) (by simp) ?_
      refine AllReadyH.cons rfl (fun K hK => ?_) AllReadyH.nil
      go_simp
      go_wp2_with (go_at_call 309; refine (hat _ hHeldp).mono ?_; rintro e yp8 ⟨rfl, hbp8⟩)
      refine hK.out _ _ (HKeepp.out _ _ hHeldp hbp8) (fun hHp8 => ?_)
      clear hK K
      try simp only [Act.put, List.setIfInBounds_toArray, List.set_cons_zero, List.set_cons_succ]
      refine wpAnyH_ready (rs := [8]) (by kernel_rfl) (by simp) ?_
      refine AllReadyH.cons rfl (fun K hK => ?_) AllReadyH.nil
      go_simp
      go_wp2_with (go_at_call 44; refine (hput _).mono ?_; rintro e yp9 ⟨rfl, hbp9⟩)
      refine hK.out _ _ (HKeepp.out _ _ hHp8 hbp9) (fun hHp9 => ?_)
      clear hK K
      try simp only [Act.put, List.setIfInBounds_toArray, List.set_cons_zero, List.set_cons_succ]
      refine wpAnyH_takeD (i := 9) (some 26) (v := .tuple #[.string ⟨#[18, 129, 1]⟩, .nilIface]) rfl rfl (by kernel_rfl) (by kernel_rfl) (by kernel_rfl) (fun _ _ _ h => h) (Or.inl ⟨by kernel_rfl, ?hyp10⟩) (by assumption) ?restp10
      case hyp10 => (intro x hSx; (try dsimp only at hSx); go_simp; first | done | with_reducible rfl | assumption)
      try simp only [Act.put, List.setIfInBounds_toArray, List.set_cons_zero, List.set_cons_succ]
      refine wpAnyH_takeD (i := 10) (some 36) (v := .string ⟨#[18, 129, 1]⟩) rfl rfl (by kernel_rfl) (by kernel_rfl) (by kernel_rfl) (fun _ _ _ h => h) (Or.inl ⟨by kernel_rfl, ?hyp11⟩) (by assumption) ?restp11
      case hyp11 => (intro x hSx; (try dsimp only at hSx); go_simp; first | done | with_reducible rfl | assumption)
      try simp only [Act.put, List.setIfInBounds_toArray, List.set_cons_zero, List.set_cons_succ]
      refine wpAnyH_takeD (i := 11) (some 37) (v := .nilIface) rfl rfl (by kernel_rfl) (by kernel_rfl) (by kernel_rfl) (fun _ _ _ h => h) (Or.inl ⟨by kernel_rfl, ?hyp12⟩) (by assumption) ?restp12
      case hyp12 => (intro x hSx; (try dsimp only at hSx); go_simp; first | done | with_reducible rfl | assumption)
      try simp only [Act.put, List.setIfInBounds_toArray, List.set_cons_zero, List.set_cons_succ]
      refine wpAnyH_takeD (i := 12) (some 10) (v := .string ⟨#[18, 129, 1]⟩) rfl rfl (by kernel_rfl) (by kernel_rfl) (by kernel_rfl) (fun _ _ _ h => h) (Or.inl ⟨by kernel_rfl, ?hyp13⟩) (by assumption) ?restp13
      case hyp13 => (intro x hSx; (try dsimp only at hSx); go_simp; first | done | with_reducible rfl | assumption)
      try simp only [Act.put, List.setIfInBounds_toArray, List.set_cons_zero, List.set_cons_succ]
      refine wpAnyH_takeD (i := 13) (some 11) (v := .nilIface) rfl rfl (by kernel_rfl) (by kernel_rfl) (by kernel_rfl) (fun _ _ _ h => h) (Or.inl ⟨by kernel_rfl, ?hyp14⟩) (by assumption) ?restp14
      case hyp14 => (intro x hSx; (try dsimp only at hSx); go_simp; first | done | with_reducible rfl | assumption)
      try simp only [Act.put, List.setIfInBounds_toArray, List.set_cons_zero, List.set_cons_succ]
      refine wpAnyH_done (by kernel_rfl) ?_ _
      have hB4 := hB.old hHp9
      have hs4 := hHp9.size
      have hbr4 : Below (w.heap.size + 1) w1 yp9 := hbr.trans (hHp9.mono (Nat.le_of_lt hB.lt))
      have hws := writeString_any (w.heap.size + 1) (w.heap.size + 1) [] ⟨#[18, 129, 1]⟩ _ (fresh_at (Nat.le_refl _) hB4) (by decide) (Nat.le_of_lt hB4.lt)
      clear hat hput hB hB4
      go_wp2_with fail
      refine hws.mono ?_
      rintro _ w5 ⟨rfl, hB5, hb5⟩
      have hrel5 : Below (w.heap.size + 1) w1 w5 := hbr4.trans hb5
      clear hws hb5
      go_wp2_with fail
      go_roundw
      case rel => exact ⟨1, by omega, rfl, hrel5, (fun h => absurd h (by decide)), fun _ => Or.inr hB5⟩
      case measure => simp [intOf]
    · have hiv' : _ = Value.int .i64 1 := hiv
      subst hiv'
      have hib := h1.out rfl
      have hst := Tryz.Builder_String_any (w.heap.size + 1) (w.heap.size + 1) [18, 129, 1] wr hib (by omega)
      have hRr := hR1.below hbr (by omega)
      clear h0 h1 hib hb2 hB2 hb02
      go_wp2_with fail
      refine hst.mono ?_
      rintro _ w5 ⟨rfl, hb5⟩
      have hbw5 : Below w.heap.size w w5 := hbw.trans (hb5.mono (Nat.le_succ _))
      have hR5 := hRr.below hb5 (by omega)
      clear hst hRr hR1
      go_wp2_with fail
      refine (hl1 _ hbw5).mono ?_
      rintro _ _ ⟨rfl, rfl⟩
      have r0 := hR5.cell 0
      have r1 := hR5.cell 1
      have f0 := hR5.frozen 0
      have f1 := hR5.frozen 1
      go_wp2_with fail
      refine bodyPost_ret (begin_results41 ((hR5.set 0 _).set 1 _) rfl rfl) rfl ?_
      exact ⟨rfl, (hbw5.setCell (p := ⟨w.heap.size, 0, none⟩) (Nat.le_refl _) _).setCell (p := ⟨w.heap.size, 1, none⟩) (Nat.le_refl _) _⟩
    · omega

end Go.Proofs.YtgefbgpfjbbeaaaGreatDoor
