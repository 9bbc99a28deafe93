/- What span's reach does with the document's example (contracts; nothing is claimed here). -/
import Derived.Test.YtgefbgpfjbbeaaaGreatDoorSpC
import Derived.Deep.MidRow
namespace Go.Proofs.YtgefbgpfjbbeaaaGreatDoor
open Go.RowKit Go.Vf

theorem Blk.range {W : World} {b : Nat} {t : TypeId} {l : List Value} (h : Blk W b t l.toArray) : W.rangeAt b 0 l := fun j v hv => by
  rw [Nat.zero_add, h.cell j]
  simpa using hv
theorem Blk.there {W : World} {b : Nat} {t : TypeId} {cs : Array Value} (h : Blk W b t cs) : W.there b 0 cs.size := fun j hj => by
  refine ⟨?_, h.frozen _⟩
  rw [h.cell, Nat.zero_add]
  simp [hj]
theorem setCells_ne {b g : Nat} (hne : b ≠ g) : ∀ (vs : List Value) (o : Nat) (W : World), (W.setCells g o vs).heap[b]? = W.heap[b]?
  | [], _, _ => rfl
  | v :: r, o, W => by rw [World.setCells, setCells_ne hne r]; exact Below.heap_setCell W ⟨g, o, none⟩ v b hne
theorem Blk.setAll {W : World} {b g : Nat} {t : TypeId} {cs : Array Value} (h : Blk W b t cs) (hne : b ≠ g) (vs : List Value) : Blk (W.setCells g 0 vs) b t cs := (setCells_ne hne vs 0 W).trans h
theorem range_old {W W' : World} {b o n : Nat} {l : List Value} (h : W.rangeAt b o l) (hb : Below n W W') (hn : b < n) : W'.rangeAt b o l := fun j v hv => (hb.cell (p := ⟨b, o + j, none⟩) hn).trans (h j v hv)
theorem two_second {W : World} {A : Nat} (h : Blk W A 50 twoF) : W.rangeAt A 14 [.string ⟨#[98]⟩, .int .u8 3, .bool false, .int .u8 0, .bool false, .bool false, .string ⟨#[]⟩, .bool false, .string ⟨#[]⟩, .int .i64 9, .int .i64 0, .bool false, .bool false, .slice none 0 0] := fun j v hv => by
  have hj : j < 14 := by
    have := (List.getElem?_eq_some_iff.1 hv).1
    simpa using this
  rw [h.cell (14 + j)]
  rcases j with _ | _ | _ | _ | _ | _ | _ | _ | _ | _ | _ | _ | _ | _ | j
  all_goals first | exact hv | omega
theorem next_results {tmps : Array Value} {w : World} {h : Nat} {l : List Value} (hr : w.rangeAt h 0 l) (hl : l.length = 17) (t6 : tmps[6]?.getD undef = .pointer (some ⟨h, 0, none⟩)) (t7 : tmps[7]?.getD undef = .nilIface) :
    (results Tryz.f25 tmps).run Tryz.prog w = .ok (.tuple #[.agg l.toArray, .nilIface]) w := by
  have hi : (Tryz.prog.info? 76).map (·.size) = some l.length := by rw [hl]; kernel_rfl
  simp [results, Tryz.results25, t6, t7, asAddr, run_loadVar_mid w h 0 76 l _ hr Tryz.underlying76 rfl hi]
set_option maxHeartbeats 2000000 in
set_option maxRecDepth 20000 in
theorem reach_one (tb A g : Nat) (w : World) (hA : Blk w A 50 twoF) (hV : TupV w g) :
    Calls Tryz.prog 25 #[.pointer (some ⟨tb, 0, none⟩), .agg #[.int .i64 64, .slice (some ⟨A, 0, none⟩) 2 2], .iface 108 (.pointer (some ⟨g, 0, none⟩))] w fun e w' => e = .returned (.tuple #[.agg #[.pointer (some ⟨tb, 0, none⟩), .string ⟨#[98]⟩, .int .u8 3, .bool false, .int .u8 0, .bool false, .bool false, .string ⟨#[]⟩, .bool false, .string ⟨#[]⟩, .int .i64 9, .int .i64 0, .bool false, .bool false, .slice none 0 0, .int .i64 1, .string ⟨#[18, 129, 1]⟩], .nilIface]) ∧ Below w.heap.size w w' := by
  have hb1 := (Below.refl w.heap.size w).alloc (Nat.le_refl _) (.cells #[.int .i64 64, .slice (some ⟨A, 0, none⟩) 2 2] 52)
  have hX1 := Blk.new w 52 #[.int .i64 64, .slice (some ⟨A, 0, none⟩) 2 2]
  have hs1 := alloc_size w (.cells #[.int .i64 64, .slice (some ⟨A, 0, none⟩) 2 2] 52)
  have hb12 := (Below.refl _ (w.alloc (.cells #[.int .i64 64, .slice (some ⟨A, 0, none⟩) 2 2] 52))).alloc (Nat.le_refl _) (.cells #[.pointer none, .string ⟨#[]⟩, .int .u8 0, .bool false, .int .u8 0, .bool false, .bool false, .string ⟨#[]⟩, .bool false, .string ⟨#[]⟩, .int .i64 0, .int .i64 0, .bool false, .bool false, .slice none 0 0, .int .i64 0, .string ⟨#[]⟩] 76)
  have hR2 := Blk.new (w.alloc (.cells #[.int .i64 64, .slice (some ⟨A, 0, none⟩) 2 2] 52)) 76 #[.pointer none, .string ⟨#[]⟩, .int .u8 0, .bool false, .int .u8 0, .bool false, .bool false, .string ⟨#[]⟩, .bool false, .string ⟨#[]⟩, .int .i64 0, .int .i64 0, .bool false, .bool false, .slice none 0 0, .int .i64 0, .string ⟨#[]⟩]
  rw [hs1] at hR2
  have hX2 := hX1.old hb12
  have hb02 := hb1.trans (hb12.mono hb1.size)
  have hbe := begin_one tb A g _ (hA.old hb02) (hV.old hb02)
  have x0 := hX2.cell 0
  have x1 := hX2.cell 1
  clear hb12 hX1 hs1 hb1
  go_enter Tryz.func25, Tryz.ntmps25
  go_wp2_with fail
  refine hbe.mono ?_
  rintro _ w3 ⟨rfl, hb3⟩
  have hb03 := hb02.trans (hb3.mono hb02.size)
  have hX3 := hX2.old hb3
  have hR3 := hR2.old hb3
  have hne3 : w3.heap.size ≠ w.heap.size + 1 := by have := hR3.lt; omega
  have hb4 := (Below.refl w3.heap.size w3).alloc (Nat.le_refl _) (.cells #[.string ⟨#[18, 129, 1]⟩, .int .i64 1] 71)
  have hK4 := Blk.new w3 71 #[.string ⟨#[18, 129, 1]⟩, .int .i64 1]
  have hR4 := hR3.old hb4
  have hX4 := hX3.old hb4
  have hb04 := hb03.trans (hb4.mono hb03.size)
  clear hbe hb3 hb02 hR2 x0 x1 hR3 hb03 hb4 hX3 hX2
  have x0 := hX4.cell 0
  have x1 := hX4.cell 1
  have k0 := hK4.cell 0
  have k1 := hK4.cell 1
  go_upto_region 6 with fail
  generalize w3.alloc (.cells #[.string ⟨#[18, 129, 1]⟩, .int .i64 1] 71) = w4 at hK4 hR4 hX4 hb04 x0 x1 k0 k1 ⊢
  replace hR4 : Blk w4.drew (w.heap.size + 1) 76 #[.pointer none, .string ⟨#[]⟩, .int .u8 0, .bool false, .int .u8 0, .bool false, .bool false, .string ⟨#[]⟩, .bool false, .string ⟨#[]⟩, .int .i64 0, .int .i64 0, .bool false, .bool false, .slice none 0 0, .int .i64 0, .string ⟨#[]⟩] := hR4
  clear x0 x1 k0 k1
  refine wp_region_held_drew (S := fun x => Below w.heap.size w x ∧ Blk x w.heap.size 52 #[.int .i64 64, .slice (some ⟨A, 0, none⟩) 2 2] ∧ Blk x w3.heap.size 71 #[.string ⟨#[18, 129, 1]⟩, .int .i64 1]) (by kernel_rfl) (⟨hb04.drew, hX4, hK4⟩) (fun hHeldp => ?_)
  refine wpAnyH_takeD (i := 0) (some 31) (v := .pointer (some ⟨tb, 0, none⟩)) rfl rfl (by kernel_rfl) (by kernel_rfl) (by kernel_rfl) (fun _ _ _ h => h) (Or.inl ⟨by kernel_rfl, ?hyp1⟩) (by assumption) ?restp1
  case hyp1 => (intro x hSx; (try dsimp only at hSx); go_simp; first | done | with_reducible rfl | assumption | rfl)
  try simp only [Act.put, List.setIfInBounds_toArray, List.set_cons_zero, List.set_cons_succ]
  refine wpAnyH_takeD (i := 1) (some 32) (v := .pointer (some ⟨w.heap.size, 1, none⟩)) rfl rfl (by kernel_rfl) (by kernel_rfl) (by kernel_rfl) (fun _ _ _ h => h) (Or.inl ⟨by kernel_rfl, ?hyp2⟩) (by assumption) ?restp2
  case hyp2 => (intro x hSx; (try dsimp only at hSx); go_simp; first | done | with_reducible rfl | assumption | rfl)
  try simp only [Act.put, List.setIfInBounds_toArray, List.set_cons_zero, List.set_cons_succ]
  refine wpAnyH_takeD (i := 2) (some 33) (v := .slice (some ⟨A, 0, none⟩) 2 2) rfl rfl (by kernel_rfl) (by kernel_rfl) (by kernel_rfl) (fun _ _ _ h => h) (Or.inl ⟨by kernel_rfl, ?hyp3⟩) (by assumption) ?restp3
  case hyp3 => (intro x hSx; have q0 := hSx.2.1.cell 0; have q1 := hSx.2.1.cell 1; have q2 := hSx.2.2.cell 0; have q3 := hSx.2.2.cell 1; (try dsimp only at hSx); go_simp; first | done | with_reducible rfl | assumption | rfl)
  try simp only [Act.put, List.setIfInBounds_toArray, List.set_cons_zero, List.set_cons_succ]
  refine wpAnyH_takeD (i := 3) (some 34) (v := .pointer (some ⟨w3.heap.size, 1, none⟩)) rfl rfl (by kernel_rfl) (by kernel_rfl) (by kernel_rfl) (fun _ _ _ h => h) (Or.inl ⟨by kernel_rfl, ?hyp4⟩) (by assumption) ?restp4
  case hyp4 => (intro x hSx; (try dsimp only at hSx); go_simp; first | done | with_reducible rfl | assumption | rfl)
  try simp only [Act.put, List.setIfInBounds_toArray, List.set_cons_zero, List.set_cons_succ]
  refine wpAnyH_takeD (i := 4) (some 35) (v := .int .i64 1) rfl rfl (by kernel_rfl) (by kernel_rfl) (by kernel_rfl) (fun _ _ _ h => h) (Or.inl ⟨by kernel_rfl, ?hyp5⟩) (by assumption) ?restp5
  case hyp5 => (intro x hSx; have q0 := hSx.2.1.cell 0; have q1 := hSx.2.1.cell 1; have q2 := hSx.2.2.cell 0; have q3 := hSx.2.2.cell 1; (try dsimp only at hSx); go_simp; first | done | with_reducible rfl | assumption | rfl)
  try simp only [Act.put, List.setIfInBounds_toArray, List.set_cons_zero, List.set_cons_succ]
  refine wpAnyH_takeD (i := 5) (some 36) (v := .pointer (some ⟨A, 14, none⟩)) rfl rfl (by kernel_rfl) (by kernel_rfl) (by kernel_rfl) (fun _ _ _ h => h) (Or.inl ⟨by kernel_rfl, ?hyp6⟩) (by assumption) ?restp6
  case hyp6 => (intro x hSx; (try dsimp only at hSx); go_simp; first | done | with_reducible rfl | assumption | rfl)
  try simp only [Act.put, List.setIfInBounds_toArray, List.set_cons_zero, List.set_cons_succ]
  refine wpAnyH_takeD (i := 6) (some 37) (v := .agg #[.string ⟨#[98]⟩, .int .u8 3, .bool false, .int .u8 0, .bool false, .bool false, .string ⟨#[]⟩, .bool false, .string ⟨#[]⟩, .int .i64 9, .int .i64 0, .bool false, .bool false, .slice none 0 0]) rfl rfl (by kernel_rfl) (by kernel_rfl) (by kernel_rfl) (fun _ _ _ h => h) (yieldsIf_load_mid (by kernel_rfl) 50 _ rfl (A) 14 rfl [.string ⟨#[98]⟩, .int .u8 3, .bool false, .int .u8 0, .bool false, .bool false, .string ⟨#[]⟩, .bool false, .string ⟨#[]⟩, .int .i64 9, .int .i64 0, .bool false, .bool false, .slice none 0 0] _ (fun x hSx => two_second (hA.old hSx.1)) Tryz.underlying50 rfl (by kernel_rfl)) (by assumption) ?_
  try simp only [Act.put, List.setIfInBounds_toArray, List.set_cons_zero, List.set_cons_succ]
  refine wpAnyH_takeD (i := 7) (some 38) (v := .pointer (some ⟨w3.heap.size, 1, none⟩)) rfl rfl (by kernel_rfl) (by kernel_rfl) (by kernel_rfl) (fun _ _ _ h => h) (Or.inl ⟨by kernel_rfl, ?hyp8⟩) (by assumption) ?restp8
  case hyp8 => (intro x hSx; (try dsimp only at hSx); go_simp; first | done | with_reducible rfl | assumption | rfl)
  try simp only [Act.put, List.setIfInBounds_toArray, List.set_cons_zero, List.set_cons_succ]
  refine wpAnyH_takeD (i := 8) (some 39) (v := .int .i64 1) rfl rfl (by kernel_rfl) (by kernel_rfl) (by kernel_rfl) (fun _ _ _ h => h) (Or.inl ⟨by kernel_rfl, ?hyp9⟩) (by assumption) ?restp9
  case hyp9 => (intro x hSx; have q0 := hSx.2.1.cell 0; have q1 := hSx.2.1.cell 1; have q2 := hSx.2.2.cell 0; have q3 := hSx.2.2.cell 1; (try dsimp only at hSx); go_simp; first | done | with_reducible rfl | assumption | rfl)
  try simp only [Act.put, List.setIfInBounds_toArray, List.set_cons_zero, List.set_cons_succ]
  refine wpAnyH_takeD (i := 9) (some 40) (v := .pointer (some ⟨w3.heap.size, 0, none⟩)) rfl rfl (by kernel_rfl) (by kernel_rfl) (by kernel_rfl) (fun _ _ _ h => h) (Or.inl ⟨by kernel_rfl, ?hyp10⟩) (by assumption) ?restp10
  case hyp10 => (intro x hSx; (try dsimp only at hSx); go_simp; first | done | with_reducible rfl | assumption | rfl)
  try simp only [Act.put, List.setIfInBounds_toArray, List.set_cons_zero, List.set_cons_succ]
  refine wpAnyH_takeD (i := 10) (some 41) (v := .string ⟨#[18, 129, 1]⟩) rfl rfl (by kernel_rfl) (by kernel_rfl) (by kernel_rfl) (fun _ _ _ h => h) (Or.inl ⟨by kernel_rfl, ?hyp11⟩) (by assumption) ?restp11
  case hyp11 => (intro x hSx; have q0 := hSx.2.1.cell 0; have q1 := hSx.2.1.cell 1; have q2 := hSx.2.2.cell 0; have q3 := hSx.2.2.cell 1; (try dsimp only at hSx); go_simp; first | done | with_reducible rfl | assumption | rfl)
  try simp only [Act.put, List.setIfInBounds_toArray, List.set_cons_zero, List.set_cons_succ]
  refine wpAnyH_takeD (i := 11) (some 42) (v := .agg #[.pointer (some ⟨tb, 0, none⟩), .string ⟨#[98]⟩, .int .u8 3, .bool false, .int .u8 0, .bool false, .bool false, .string ⟨#[]⟩, .bool false, .string ⟨#[]⟩, .int .i64 9, .int .i64 0, .bool false, .bool false, .slice none 0 0, .int .i64 1, .string ⟨#[18, 129, 1]⟩]) rfl rfl (by kernel_rfl) (by kernel_rfl) (by kernel_rfl) (fun _ _ _ h => h) (Or.inl ⟨by kernel_rfl, ?hyp12⟩) (by assumption) ?restp12
  case hyp12 => (intro x hSx; (try dsimp only at hSx); go_simp; first | done | with_reducible rfl | assumption | rfl)
  try simp only [Act.put, List.setIfInBounds_toArray, List.set_cons_zero, List.set_cons_succ]
  refine wpAnyH_ready (rs := [12]) (by kernel_rfl) (by simp) ?_
  refine AllReadyH.cons rfl (fun K hK => ?_) AllReadyH.nil
  refine wp_store_mid 76 _ _ rfl (w.heap.size + 1) 0 #[.pointer (some ⟨tb, 0, none⟩), .string ⟨#[98]⟩, .int .u8 3, .bool false, .int .u8 0, .bool false, .bool false, .string ⟨#[]⟩, .bool false, .string ⟨#[]⟩, .int .i64 9, .int .i64 0, .bool false, .bool false, .slice none 0 0, .int .i64 1, .string ⟨#[18, 129, 1]⟩] rfl rfl hR4.there (by kernel_rfl) (by kernel_rfl) ?_
  refine hK.out _ _ (⟨below_setCells (w.heap.size + 1) (Nat.le_succ _) _ 0 hHeldp.1, hHeldp.2.1.setAll (by omega) _, hHeldp.2.2.setAll hne3 _⟩) (fun hHp13 => ?_)
  clear hK K
  try simp only [Act.put, List.setIfInBounds_toArray]
  refine wpAnyH_takeD (i := 13) (some 7) (v := .nilIface) rfl rfl (by kernel_rfl) (by kernel_rfl) (by kernel_rfl) (fun _ _ _ h => h) (Or.inl ⟨by kernel_rfl, ?hyp14⟩) (by assumption) ?restp14
  case hyp14 => (intro x hSx; (try dsimp only at hSx); go_simp; first | done | with_reducible rfl | assumption | rfl)
  try simp only [Act.put]
  refine wpAnyH_done (by kernel_rfl) ?_ _
  have hr := World.rangeAt_setCells_same w4.drew (w.heap.size + 1) 0 [.pointer (some ⟨tb, 0, none⟩), .string ⟨#[98]⟩, .int .u8 3, .bool false, .int .u8 0, .bool false, .bool false, .string ⟨#[]⟩, .bool false, .string ⟨#[]⟩, .int .i64 9, .int .i64 0, .bool false, .bool false, .slice none 0 0, .int .i64 1, .string ⟨#[18, 129, 1]⟩] hR4.there
  go_wp2_with fail
  refine bodyPost_ret (next_results hr rfl rfl rfl) rfl ?_
  exact ⟨rfl, hHp13.1⟩

end Go.Proofs.YtgefbgpfjbbeaaaGreatDoor
