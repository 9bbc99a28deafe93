/- What span.Starts does with the document's example; Has, Empty (contracts; nothing is claimed here). -/
import Derived.Test.YtgefbgpfjbbeaaaGreatDoorSpE
namespace Go.Proofs.YtgefbgpfjbbeaaaGreatDoor
open Go.RowKit Go.Vf

theorem span_results16 {tmps : Array Value} {w : World} {h : Nat} {a b c : Value} (hb : Blk w h 24 #[a, b, c]) (t8 : tmps[8]?.getD undef = .pointer (some ⟨h, 0, none⟩)) (t9 : tmps[9]?.getD undef = .nilIface) :
    (results Tryz.f16 tmps).run Tryz.prog w = .ok (.tuple #[.agg #[a, b, c], .nilIface]) w := by
  have c0 := hb.cell 0
  have c1 := hb.cell 1
  have c2 := hb.cell 2
  simp at c0 c1 c2
  simp [results, Tryz.results16, go_sem, t8, t9, c0, c1, c2]
set_option maxHeartbeats 2000000 in
set_option maxRecDepth 20000 in
theorem starts_one (tb A g : Nat) (w : World) (hA : Blk w A 50 twoF) (hV : TupV w g) :
    Calls Tryz.prog 16 #[.pointer (some ⟨tb, 0, none⟩), .agg #[.int .i64 64, .slice (some ⟨A, 0, none⟩) 2 2], .iface 108 (.pointer (some ⟨g, 0, none⟩)), .string ⟨#[97, 0]⟩] w fun e w' => e = .returned (.tuple #[.agg #[.string ⟨#[18, 129, 1, 19, 97, 0, 255]⟩, .string ⟨#[18, 129, 1, 19, 97, 1]⟩, .bool false], .nilIface]) ∧ Below w.heap.size w w' := by
  have hb1 := (Below.refl w.heap.size w).alloc (Nat.le_refl _) (.cells #[.int .i64 64, .slice (some ⟨A, 0, none⟩) 2 2] 52)
  have hX1 := Blk.new w 52 #[.int .i64 64, .slice (some ⟨A, 0, none⟩) 2 2]
  have hs1 := alloc_size w (.cells #[.int .i64 64, .slice (some ⟨A, 0, none⟩) 2 2] 52)
  have hb12 := (Below.refl _ (w.alloc (.cells #[.int .i64 64, .slice (some ⟨A, 0, none⟩) 2 2] 52))).alloc (Nat.le_refl _) (.cells #[.string ⟨#[]⟩, .string ⟨#[]⟩, .bool false] 24)
  have hR2 := Blk.new (w.alloc (.cells #[.int .i64 64, .slice (some ⟨A, 0, none⟩) 2 2] 52)) 24 #[.string ⟨#[]⟩, .string ⟨#[]⟩, .bool false]
  rw [hs1] at hR2
  have hX2 := hX1.old hb12
  have hb02 := hb1.trans (hb12.mono hb1.size)
  have hre := reach_one tb A g _ (hA.old hb02) (hV.old hb02)
  have x0 := hX2.cell 0
  have x1 := hX2.cell 1
  have hie := fun W => isEscaped_one tb W
  have haw := fun W => allWith_any ⟨#[18, 129, 1, 19, 97, 0, 255]⟩ (by decide) W
  rw [show bs ((nextL (⟨#[18, 129, 1, 19, 97, 0, 255]⟩ : ByteArray).data.toList).getD []) = ⟨#[18, 129, 1, 19, 97, 1]⟩ by decide, show (!(nextL (⟨#[18, 129, 1, 19, 97, 0, 255]⟩ : ByteArray).data.toList).isSome) = false by decide] at haw
  clear hb12 hX1 hs1 hb1 hX2
  go_enter Tryz.func16, Tryz.ntmps16
  go_wp2_with fail
  refine hre.mono ?_
  rintro _ w3 ⟨rfl, hb3⟩
  have hb03 := hb02.trans (hb3.mono hb02.size)
  have hR3 := hR2.old hb3
  have hne3 : w3.heap.size ≠ w.heap.size + 1 := by have := hR3.lt; omega
  have hb4 := (Below.refl w3.heap.size w3).alloc (Nat.le_refl _) (.cells #[.pointer (some ⟨tb, 0, none⟩), .string ⟨#[98]⟩, .int .u8 3, .bool false, .int .u8 0, .bool false, .bool false, .string ⟨#[]⟩, .bool false, .string ⟨#[]⟩, .int .i64 9, .int .i64 0, .bool false, .bool false, .slice none 0 0, .int .i64 1, .string ⟨#[18, 129, 1]⟩] 76)
  have hK4 := Blk.new w3 76 #[.pointer (some ⟨tb, 0, none⟩), .string ⟨#[98]⟩, .int .u8 3, .bool false, .int .u8 0, .bool false, .bool false, .string ⟨#[]⟩, .bool false, .string ⟨#[]⟩, .int .i64 9, .int .i64 0, .bool false, .bool false, .slice none 0 0, .int .i64 1, .string ⟨#[18, 129, 1]⟩]
  have hR4 := hR3.old hb4
  have hb04 := hb03.trans (hb4.mono hb03.size)
  clear hre hb3 hb02 hR2 x0 x1 hR3 hb03 hb4
  go_upto_region 4 with fail
  generalize w3.alloc (.cells #[.pointer (some ⟨tb, 0, none⟩), .string ⟨#[98]⟩, .int .u8 3, .bool false, .int .u8 0, .bool false, .bool false, .string ⟨#[]⟩, .bool false, .string ⟨#[]⟩, .int .i64 9, .int .i64 0, .bool false, .bool false, .slice none 0 0, .int .i64 1, .string ⟨#[18, 129, 1]⟩] 76) = w4 at hK4 hR4 hb04 ⊢
  refine wp_region_lit ?_
  refine wpList_load_mid rfl 76 _ rfl w3.heap.size 0 rfl [.pointer (some ⟨tb, 0, none⟩), .string ⟨#[98]⟩, .int .u8 3, .bool false, .int .u8 0, .bool false, .bool false, .string ⟨#[]⟩, .bool false, .string ⟨#[]⟩, .int .i64 9, .int .i64 0, .bool false, .bool false, .slice none 0 0, .int .i64 1, .string ⟨#[18, 129, 1]⟩] _ hK4.range Tryz.underlying76 rfl (by kernel_rfl) ?_
  try simp only [Act.put, List.setIfInBounds_toArray, List.set_cons_zero, List.set_cons_succ]
  go_wp2_with fail
  refine (hie _).mono ?_
  rintro _ w5 ⟨rfl, hb5⟩
  have hb05 := hb04.trans (hb5.mono hb04.size)
  have hK5 := hK4.old hb5
  have hR5 : Blk w5.drew (w.heap.size + 1) 24 #[.string ⟨#[]⟩, .string ⟨#[]⟩, .bool false] := hR4.old hb5.drew
  clear hie hb5 hb04 hK4 hR4
  go_upto_region 6 with fail
  refine wp_region_held_drew (S := fun x => Below w.heap.size w x ∧ Blk x w3.heap.size 76 #[.pointer (some ⟨tb, 0, none⟩), .string ⟨#[98]⟩, .int .u8 3, .bool false, .int .u8 0, .bool false, .bool false, .string ⟨#[]⟩, .bool false, .string ⟨#[]⟩, .int .i64 9, .int .i64 0, .bool false, .bool false, .slice none 0 0, .int .i64 1, .string ⟨#[18, 129, 1]⟩]) (by kernel_rfl) (⟨hb05.drew, hK5⟩) (fun hHeldp => ?_)
  refine wpAnyH_takeD (i := 0) (some 33) (v := .pointer (some ⟨w3.heap.size, 16, none⟩)) rfl rfl (by kernel_rfl) (by kernel_rfl) (by kernel_rfl) (fun _ _ _ h => h) (Or.inl ⟨by kernel_rfl, ?hyp1⟩) (by assumption) ?restp1
  case hyp1 => (intro x hSx; (try dsimp only at hSx); go_simp; first | done | with_reducible rfl | assumption | rfl)
  try simp only [Act.put, List.setIfInBounds_toArray, List.set_cons_zero, List.set_cons_succ]
  refine wpAnyH_takeD (i := 1) (some 34) (v := .string ⟨#[18, 129, 1]⟩) rfl rfl (by kernel_rfl) (by kernel_rfl) (by kernel_rfl) (fun _ _ _ h => h) (Or.inl ⟨by kernel_rfl, ?hyp2⟩) (by assumption) ?restp2
  case hyp2 => (intro x hSx; have q0 := hSx.2.cell 16; (try dsimp only at hSx); go_simp; first | done | with_reducible rfl | assumption | rfl)
  try simp only [Act.put, List.setIfInBounds_toArray, List.set_cons_zero, List.set_cons_succ]
  refine wpAnyH_takeD (i := 2) (some 35) (v := .agg #[.pointer (some ⟨tb, 0, none⟩), .string ⟨#[98]⟩, .int .u8 3, .bool false, .int .u8 0, .bool false, .bool false, .string ⟨#[]⟩, .bool false, .string ⟨#[]⟩, .int .i64 9, .int .i64 0, .bool false, .bool false, .slice none 0 0, .int .i64 1, .string ⟨#[18, 129, 1]⟩]) rfl rfl (by kernel_rfl) (by kernel_rfl) (by kernel_rfl) (fun _ _ _ h => h) (yieldsIf_load_mid (by kernel_rfl) 76 _ rfl (w3.heap.size) 0 rfl [.pointer (some ⟨tb, 0, none⟩), .string ⟨#[98]⟩, .int .u8 3, .bool false, .int .u8 0, .bool false, .bool false, .string ⟨#[]⟩, .bool false, .string ⟨#[]⟩, .int .i64 9, .int .i64 0, .bool false, .bool false, .slice none 0 0, .int .i64 1, .string ⟨#[18, 129, 1]⟩] _ (fun x hSx => Blk.range hSx.2) Tryz.underlying76 rfl (by kernel_rfl)) (by assumption) ?_
  try simp only [Act.put, List.setIfInBounds_toArray, List.set_cons_zero, List.set_cons_succ]
  refine wpAnyH_takeD (i := 5) (some 38) (v := .agg #[.pointer (some ⟨tb, 0, none⟩), .string ⟨#[98]⟩, .int .u8 3, .bool false, .int .u8 0, .bool false, .bool false, .string ⟨#[]⟩, .bool false, .string ⟨#[]⟩, .int .i64 9, .int .i64 0, .bool false, .bool false, .slice none 0 0, .int .i64 1, .string ⟨#[18, 129, 1]⟩]) rfl rfl (by kernel_rfl) (by kernel_rfl) (by kernel_rfl) (fun _ _ _ h => h) (yieldsIf_load_mid (by kernel_rfl) 76 _ rfl (w3.heap.size) 0 rfl [.pointer (some ⟨tb, 0, none⟩), .string ⟨#[98]⟩, .int .u8 3, .bool false, .int .u8 0, .bool false, .bool false, .string ⟨#[]⟩, .bool false, .string ⟨#[]⟩, .int .i64 9, .int .i64 0, .bool false, .bool false, .slice none 0 0, .int .i64 1, .string ⟨#[18, 129, 1]⟩] _ (fun x hSx => Blk.range hSx.2) Tryz.underlying76 rfl (by kernel_rfl)) (by assumption) ?_
  try simp only [Act.put, List.setIfInBounds_toArray, List.set_cons_zero, List.set_cons_succ]
  refine wpAnyH_takeD (i := 6) (some 39) (v := .string ⟨#[97, 0]⟩) rfl rfl (by kernel_rfl) (by kernel_rfl) (by kernel_rfl) (fun _ _ _ h => h) (Or.inl ⟨by kernel_rfl, ?hyp5⟩) (by assumption) ?restp5
  case hyp5 => (intro x hSx; (try dsimp only at hSx); go_simp; first | done | with_reducible rfl | assumption | rfl)
  try simp only [Act.put, List.setIfInBounds_toArray, List.set_cons_zero, List.set_cons_succ]
  refine wpAnyH_ready (rs := [3]) (by kernel_rfl) (by simp) ?_
  refine AllReadyH.cons rfl (fun K hK => ?_) AllReadyH.nil
  go_simp
  go_wp2_with (go_at_call 27; refine (tag_one tb _).mono ?_; rintro e yp6 ⟨rfl, hbp6⟩)
  have hRa := hR5.old hbp6
  refine hK.out _ _ (⟨hHeldp.1.trans (hbp6.mono hHeldp.1.size), hHeldp.2.old hbp6⟩) (fun hHp6 => ?_)
  clear hK K
  try simp only [Act.put, List.setIfInBounds_toArray, List.set_cons_zero, List.set_cons_succ]
  refine wpAnyH_takeD (i := 4) (some 37) (v := .string ⟨#[18, 129, 1, 19]⟩) rfl rfl (by kernel_rfl) (by kernel_rfl) (by kernel_rfl) (fun _ _ _ h => h) (Or.inl ⟨by kernel_rfl, ?hyp7⟩) (by assumption) ?restp7
  case hyp7 => (intro x hSx; (try dsimp only at hSx); go_simp; first | done | with_reducible rfl | assumption | rfl)
  try simp only [Act.put, List.setIfInBounds_toArray, List.set_cons_zero, List.set_cons_succ]
  refine wpAnyH_ready (rs := [7]) (by kernel_rfl) (by simp) ?_
  refine AllReadyH.cons rfl (fun K hK => ?_) AllReadyH.nil
  go_simp
  go_wp2_with (go_at_call 28; refine (payload_one tb _).mono ?_; rintro e yp8 ⟨rfl, hbp8⟩)
  have hRb := hRa.old hbp8
  refine hK.out _ _ (⟨hHp6.1.trans (hbp8.mono hHp6.1.size), hHp6.2.old hbp8⟩) (fun hHp8 => ?_)
  clear hK K
  try simp only [Act.put, List.setIfInBounds_toArray, List.set_cons_zero, List.set_cons_succ]
  refine wpAnyH_takeD (i := 8) (some 41) (v := .string ⟨#[18, 129, 1, 19, 97, 0, 255]⟩) rfl rfl (by kernel_rfl) (by kernel_rfl) (by kernel_rfl) (fun _ _ _ h => h) (Or.inl ⟨by kernel_rfl, ?hyp9⟩) (by assumption) ?restp9
  case hyp9 => (intro x hSx; (try dsimp only at hSx); go_simp; first | done | with_reducible rfl | assumption | rfl)
  try simp only [Act.put, List.setIfInBounds_toArray, List.set_cons_zero, List.set_cons_succ]
  refine wpAnyH_ready (rs := [9]) (by kernel_rfl) (by simp) ?_
  refine AllReadyH.cons rfl (fun K hK => ?_) AllReadyH.nil
  go_simp
  go_wp2_with (go_at_call 24; refine (haw _).mono ?_; rintro e yp10 ⟨rfl, hbp10⟩)
  have hR9 := hRb.old hbp10
  have r0 := hR9.cell 0
  have r1 := hR9.cell 1
  have r2 := hR9.cell 2
  have f0 := hR9.frozen 0
  have f1 := hR9.frozen 1
  have f2 := hR9.frozen 2
  refine hK.out _ _ (⟨hHp8.1.trans (hbp10.mono hHp8.1.size), hHp8.2.old hbp10⟩) (fun hHp10 => ?_)
  clear hK K
  try simp only [Act.put, List.setIfInBounds_toArray, List.set_cons_zero, List.set_cons_succ]
  refine wpAnyH_ready (rs := [10]) (by kernel_rfl) (by simp) ?_
  refine AllReadyH.cons rfl (fun K hK => ?_) AllReadyH.nil
  go_simp
  refine hK.out _ _ (⟨((hHp10.1.setCell (p := ⟨w.heap.size + 1, 0, none⟩) (Nat.le_succ _) _).setCell (p := ⟨w.heap.size + 1, 1, none⟩) (Nat.le_succ _) _).setCell (p := ⟨w.heap.size + 1, 2, none⟩) (Nat.le_succ _) _, ((hHp10.2.other (p := ⟨w.heap.size + 1, 0, none⟩) hne3 _).other (p := ⟨w.heap.size + 1, 1, none⟩) hne3 _).other (p := ⟨w.heap.size + 1, 2, none⟩) hne3 _⟩) (fun hHp11 => ?_)
  clear hK K
  try simp only [Act.put, List.setIfInBounds_toArray, List.set_cons_zero, List.set_cons_succ]
  refine wpAnyH_takeD (i := 11) (some 9) (v := .nilIface) rfl rfl (by kernel_rfl) (by kernel_rfl) (by kernel_rfl) (fun _ _ _ h => h) (Or.inl ⟨by kernel_rfl, ?hyp12⟩) (by assumption) ?restp12
  case hyp12 => (intro x hSx; (try dsimp only at hSx); go_simp; first | done | with_reducible rfl | assumption | rfl)
  try simp only [Act.put, List.setIfInBounds_toArray, List.set_cons_zero, List.set_cons_succ]
  refine wpAnyH_done (by kernel_rfl) ?_ _
  have hRF := ((hR9.set 0 (.string ⟨#[18, 129, 1, 19, 97, 0, 255]⟩)).set 1 (.string ⟨#[18, 129, 1, 19, 97, 1]⟩)).set 2 (.bool false)
  go_wp2_with fail
  refine bodyPost_ret (span_results16 hRF rfl rfl) rfl ?_
  exact ⟨rfl, hHp11.1⟩
set_option maxRecDepth 20000 in
theorem has_one (w : World) : Calls Tryz.prog 11 #[.agg #[.string ⟨#[18, 129, 1]⟩, .string ⟨#[18, 129, 2]⟩, .bool false], .string ⟨#[18, 129, 1]⟩] w fun e w' => e = .returned (.bool true) ∧ Below w.heap.size w w' := by
  have hb1 := (Below.refl w.heap.size w).alloc (Nat.le_refl _) (.cells #[.string ⟨#[18, 129, 1]⟩, .string ⟨#[18, 129, 2]⟩, .bool false] 24)
  go_enter Tryz.func11, Tryz.ntmps11
  go_wp2_with fail
  rw [show Op.bytesLess [18, 129, 1] [18, 129, 2] = true by decide]
  go_ret
  exact ⟨rfl, hb1⟩
set_option maxRecDepth 20000 in
theorem empty_one (w : World) : Calls Tryz.prog 9 #[.agg #[.string ⟨#[18, 129, 1]⟩, .string ⟨#[18, 129, 2]⟩, .bool false]] w fun e w' => e = .returned (.bool false) ∧ Below w.heap.size w w' := by
  have hb1 := (Below.refl w.heap.size w).alloc (Nat.le_refl _) (.cells #[.string ⟨#[18, 129, 1]⟩, .string ⟨#[18, 129, 2]⟩, .bool false] 24)
  go_enter Tryz.func9, Tryz.ntmps9
  go_wp2_with fail
  rw [show Op.bytesLess [18, 129, 2] [18, 129, 1] = false by decide]
  go_ret
  exact ⟨rfl, hb1⟩

end Go.Proofs.YtgefbgpfjbbeaaaGreatDoor
