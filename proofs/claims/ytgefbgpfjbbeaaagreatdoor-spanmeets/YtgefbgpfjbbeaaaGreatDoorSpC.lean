/- What span's begin, allWith, Prefix do with the document's example (contracts; nothing is claimed here). -/
import Derived.Test.YtgefbgpfjbbeaaaGreatDoorSpB
import Derived.Test.YtgefbgpfjbbeaaaGreatDoorJ11
namespace Go.Proofs.YtgefbgpfjbbeaaaGreatDoor
open Go.RowKit Go.Vf

theorem ti_108 (a : Addr) (w : World) : (Instr.typeAssert (.iface 108 (.pointer (some a))) 36 117 false).run Tryz.prog w = .ok (.iface 108 (.pointer (some a))) w := by kernel_rfl
/-- The tuple of one as a value. -/
structure TupV (W : World) (g : Nat) : Prop where
  val : ∃ lo n₀, n₀ ≤ W.heap.size ∧ VIn W lo n₀ (.iface 108 (.pointer (some ⟨g, 0, none⟩))) tup1
  one : ∃ hh off c d, Tup1 W g hh off c d
theorem TupV.old {W W' : World} {g : Nat} (t : TupV W g) (hb : Below W.heap.size W W') : TupV W' g := by
  obtain ⟨⟨lo, n₀, hn, hv⟩, hh, off, c, d, h1⟩ := t
  exact ⟨⟨lo, n₀, Nat.le_trans hn hb.size, hv.old hb hn⟩, hh, off, c, d, h1.old hb⟩
theorem TupV.of {W : World} {lo n₀ : Nat} {v : Value} (hn : n₀ ≤ W.heap.size) (h : VIn W lo n₀ v tup1) : ∃ g, v = .iface 108 (.pointer (some ⟨g, 0, none⟩)) ∧ TupV W g := by
  obtain ⟨g, hh, off, c, d, rfl, h1⟩ := tup1_of hn h
  exact ⟨g, rfl, ⟨lo, n₀, hn, h⟩, hh, off, c, d, h1⟩
theorem begin_results23 {tmps : Array Value} {w : World} {h : Nat} {a b : Value} (hb : Blk w h 71 #[a, b]) (t6 : tmps[6]?.getD undef = .pointer (some ⟨h, 0, none⟩)) (t7 : tmps[7]?.getD undef = .nilIface) :
    (results Tryz.f23 tmps).run Tryz.prog w = .ok (.tuple #[.agg #[a, b], .nilIface]) w := by
  have c0 := hb.cell 0
  have c1 := hb.cell 1
  simp at c0 c1
  simp [results, Tryz.results23, go_sem, t6, t7, c0, c1]
set_option maxHeartbeats 4000000 in
set_option maxRecDepth 20000 in
theorem begin_one (tb A g : Nat) (w : World) (hA : Blk w A 50 twoF) (hV : TupV w g) :
    Calls Tryz.prog 23 #[.pointer (some ⟨tb, 0, none⟩), .agg #[.int .i64 64, .slice (some ⟨A, 0, none⟩) 2 2], .iface 108 (.pointer (some ⟨g, 0, none⟩))] w fun e w' => e = .returned (.tuple #[.agg #[.string ⟨#[18, 129, 1]⟩, .int .i64 1], .nilIface]) ∧ Below w.heap.size w w' := by
  have hti := ti_108 ⟨g, 0, none⟩
  have hb1 := (Below.refl w.heap.size w).alloc (Nat.le_refl _) (.cells #[.int .i64 64, .slice (some ⟨A, 0, none⟩) 2 2] 52)
  have hX1 := Blk.new w 52 #[.int .i64 64, .slice (some ⟨A, 0, none⟩) 2 2]
  have hs1 := alloc_size w (.cells #[.int .i64 64, .slice (some ⟨A, 0, none⟩) 2 2] 52)
  have hb12 := (Below.refl _ (w.alloc (.cells #[.int .i64 64, .slice (some ⟨A, 0, none⟩) 2 2] 52))).alloc (Nat.le_refl _) (.cells #[.string ⟨#[]⟩, .int .i64 0] 71)
  have hR2 := Blk.new (w.alloc (.cells #[.int .i64 64, .slice (some ⟨A, 0, none⟩) 2 2] 52)) 71 #[.string ⟨#[]⟩, .int .i64 0]
  rw [hs1] at hR2
  have hX2 := hX1.old hb12
  have hb02 := hb1.trans (hb12.mono hb1.size)
  have hsc : ∀ W, Below w.heap.size w W → Calls Tryz.prog 39 #[.agg #[.int .i64 64, .slice (some ⟨A, 0, none⟩) 2 2]] W (SCheckPost (chkS bndQ 64 [.mk oA [], .mk oB []]) W) := fun W hW => scheck_any 64 [.mk oA [], .mk oB []] (some ⟨A, 0, none⟩) 2 0 (A + 1) W (by simp) (fun x hx => by
    rcases List.mem_cons.1 hx with rfl | hx
    · exact oA_fits
    · rw [List.mem_singleton.1 hx]; exact oB_fits) (by simp) (Nat.lt_of_lt_of_le hA.lt hW.size) (two_at (hA.old hW))
  have hwa : ∀ W, Below w.heap.size w W → Calls Tryz.prog 40 #[.iface 108 (.pointer (some ⟨g, 0, none⟩)), .int .u8 7] W fun e w' => e = .returned (.tuple #[.iface 108 (.pointer (some ⟨g, 0, none⟩)), .nilIface]) ∧ Below W.heap.size W w' := fun W hW => by
    obtain ⟨lo, n₀, hn, hv⟩ := (hV.old hW).val
    exact want_ok (k := 7) (by decide) (by decide) rfl lo n₀ W hv
  have hit : ∀ W, Below w.heap.size w W → Calls Tryz.prog 41 #[.pointer (some ⟨tb, 0, none⟩), .slice (some ⟨A, 0, none⟩) 2 2, .iface 108 (.pointer (some ⟨g, 0, none⟩))] W fun e w' => e = .returned (.tuple #[.agg #[.string ⟨#[18, 129, 1]⟩, .int .i64 1], .nilIface]) ∧ Below W.heap.size W w' := fun W hW => by
    obtain ⟨hh, off, c, d, h1⟩ := (hV.old hW).one
    exact beginItems_one tb A g hh off c d W (hA.old hW) h1
  have h0 := oAB_chk
  generalize chkS bndQ 64 [.mk oA [], .mk oB []] = q at hsc h0
  have x0 := hX2.cell 0
  have x1 := hX2.cell 1
  clear hb12 hX1 hs1 hb1
  go_enter Tryz.func23, Tryz.ntmps23
  go_wp2_with fail
  refine (hsc _ hb02).mono ?_
  rintro e w3 ⟨hb3, ⟨_, rfl⟩ | ⟨hne, _⟩⟩
  case inr => exact absurd h0 hne
  have hb03 := hb02.trans (hb3.mono hb02.size)
  have hX3 := hX2.old hb3
  have hR3 := hR2.old hb3
  clear hsc hb3 hb02 hX2 hR2 h0 x0 x1
  go_wp2_with fail
  refine (hwa _ hb03).mono ?_
  rintro _ w4 ⟨rfl, hb4⟩
  have hb04 := hb03.trans (hb4.mono hb03.size)
  have hX4 := hX3.old hb4
  have hR4 : Blk w4.drew (w.heap.size + 1) 71 #[.string ⟨#[]⟩, .int .i64 0] := hR3.old hb4.drew
  clear hwa hb4 hb03 hX3 hR3
  go_upto_region 9 with fail
  refine wp_region_held_drew (S := fun x => Below w.heap.size w x ∧ Blk x w.heap.size 52 #[.int .i64 64, .slice (some ⟨A, 0, none⟩) 2 2]) (by kernel_rfl) (⟨hb04.drew, hX4⟩) (fun hHeldp => ?_)
  refine wpAnyH_takeD (i := 0) (some 35) (v := .pointer (some ⟨tb, 0, none⟩)) rfl rfl (by kernel_rfl) (by kernel_rfl) (by kernel_rfl) (fun _ _ _ h => h) (Or.inl ⟨by kernel_rfl, ?hyp1⟩) (by assumption) ?restp1
  case hyp1 => (intro x hSx; (try dsimp only at hSx); go_simp; first | done | with_reducible rfl | assumption)
  try simp only [Act.put, List.setIfInBounds_toArray, List.set_cons_zero, List.set_cons_succ]
  refine wpAnyH_takeD (i := 1) (some 36) (v := .pointer (some ⟨w.heap.size, 1, none⟩)) rfl rfl (by kernel_rfl) (by kernel_rfl) (by kernel_rfl) (fun _ _ _ h => h) (Or.inl ⟨by kernel_rfl, ?hyp2⟩) (by assumption) ?restp2
  case hyp2 => (intro x hSx; (try dsimp only at hSx); go_simp; first | done | with_reducible rfl | assumption)
  try simp only [Act.put, List.setIfInBounds_toArray, List.set_cons_zero, List.set_cons_succ]
  refine wpAnyH_takeD (i := 2) (some 37) (v := .slice (some ⟨A, 0, none⟩) 2 2) rfl rfl (by kernel_rfl) (by kernel_rfl) (by kernel_rfl) (fun _ _ _ h => h) (Or.inl ⟨by kernel_rfl, ?hyp3⟩) (by assumption) ?restp3
  case hyp3 => (intro x hSx; have q0 := hSx.2.cell 0; have q1 := hSx.2.cell 1; (try dsimp only at hSx); go_simp; first | done | with_reducible rfl | assumption)
  try simp only [Act.put, List.setIfInBounds_toArray, List.set_cons_zero, List.set_cons_succ]
  refine wpAnyH_takeD (i := 3) (some 38) (v := .iface 108 (.pointer (some ⟨g, 0, none⟩))) rfl rfl (by kernel_rfl) (by kernel_rfl) (by kernel_rfl) (fun _ _ _ h => h) (Or.inl ⟨by kernel_rfl, ?hyp4⟩) (by assumption) ?restp4
  case hyp4 => (intro x hSx; (try dsimp only at hSx); go_simp; first | done | with_reducible rfl | assumption)
  try simp only [Act.put, List.setIfInBounds_toArray, List.set_cons_zero, List.set_cons_succ]
  refine wpAnyH_takeD (i := 4) (some 39) (v := .iface 108 (.pointer (some ⟨g, 0, none⟩))) rfl rfl (by kernel_rfl) (by kernel_rfl) (by kernel_rfl) (fun _ _ _ h => h) (Or.inl ⟨by kernel_rfl, ?hyp5⟩) (by assumption) ?restp5
  case hyp5 => (intro x hSx; (try dsimp only at hSx); go_simp; first | done | with_reducible rfl | assumption)
  try simp only [Act.put, List.setIfInBounds_toArray, List.set_cons_zero, List.set_cons_succ]
  refine wpAnyH_ready (rs := [5]) (by kernel_rfl) (by simp) ?_
  refine AllReadyH.cons rfl (fun K hK => ?_) AllReadyH.nil
  go_simp
  go_wp2_with (go_at_call 41; refine (hit _ hHeldp.1).mono ?_; rintro e yp6 ⟨rfl, hbp6⟩)
  have hbyy := hbp6
  refine hK.out _ _ (⟨hHeldp.1.trans (hbp6.mono hHeldp.1.size), hHeldp.2.old hbp6⟩) (fun hHp6 => ?_)
  clear hK K
  try simp only [Act.put, List.setIfInBounds_toArray, List.set_cons_zero, List.set_cons_succ]
  refine wpAnyH_takeD (i := 6) (some 41) (v := .agg #[.string ⟨#[18, 129, 1]⟩, .int .i64 1]) rfl rfl (by kernel_rfl) (by kernel_rfl) (by kernel_rfl) (fun _ _ _ h => h) (Or.inl ⟨by kernel_rfl, ?hyp7⟩) (by assumption) ?restp7
  case hyp7 => (intro x hSx; (try dsimp only at hSx); go_simp; first | done | with_reducible rfl | assumption)
  try simp only [Act.put, List.setIfInBounds_toArray, List.set_cons_zero, List.set_cons_succ]
  refine wpAnyH_takeD (i := 7) (some 42) (v := .nilIface) rfl rfl (by kernel_rfl) (by kernel_rfl) (by kernel_rfl) (fun _ _ _ h => h) (Or.inl ⟨by kernel_rfl, ?hyp8⟩) (by assumption) ?restp8
  case hyp8 => (intro x hSx; (try dsimp only at hSx); go_simp; first | done | with_reducible rfl | assumption)
  try simp only [Act.put, List.setIfInBounds_toArray, List.set_cons_zero, List.set_cons_succ]
  refine wpAnyH_ready (rs := [8]) (by kernel_rfl) (by simp) ?_
  refine AllReadyH.cons rfl (fun K hK => ?_) AllReadyH.nil
  have hRy := hR4.old hbyy
  have r0 := hRy.cell 0
  have r1 := hRy.cell 1
  have f0 := hRy.frozen 0
  have f1 := hRy.frozen 1
  go_simp
  refine hK.out _ _ (⟨(hHp6.1.setCell (p := ⟨w.heap.size + 1, 0, none⟩) (Nat.le_succ _) _).setCell (p := ⟨w.heap.size + 1, 1, none⟩) (Nat.le_succ _) _, (hHp6.2.other (p := ⟨w.heap.size + 1, 0, none⟩) (by show w.heap.size ≠ w.heap.size + 1; omega) _).other (p := ⟨w.heap.size + 1, 1, none⟩) (by show w.heap.size ≠ w.heap.size + 1; omega) _⟩) (fun hHp9 => ?_)
  clear hK K
  try simp only [Act.put, List.setIfInBounds_toArray, List.set_cons_zero, List.set_cons_succ]
  refine wpAnyH_takeD (i := 9) (some 7) (v := .nilIface) rfl rfl (by kernel_rfl) (by kernel_rfl) (by kernel_rfl) (fun _ _ _ h => h) (Or.inl ⟨by kernel_rfl, ?hyp10⟩) (by assumption) ?restp10
  case hyp10 => (intro x hSx; (try dsimp only at hSx); go_simp; first | done | with_reducible rfl | assumption)
  try simp only [Act.put, List.setIfInBounds_toArray, List.set_cons_zero, List.set_cons_succ]
  refine wpAnyH_done (by kernel_rfl) ?_ _
  have hRF := (hRy.set 0 (.string ⟨#[18, 129, 1]⟩)).set 1 (.int .i64 1)
  go_wp2_with fail
  refine bodyPost_ret (begin_results23 hRF rfl rfl) rfl ?_
  exact ⟨rfl, hHp9.1⟩
theorem span_results24 {tmps : Array Value} {w : World} {h : Nat} {a b c : Value} (hb : Blk w h 24 #[a, b, c]) (t2 : tmps[2]?.getD undef = .pointer (some ⟨h, 0, none⟩)) :
    (results Tryz.f24 tmps).run Tryz.prog w = .ok (.agg #[a, b, c]) w := by
  have c0 := hb.cell 0
  have c1 := hb.cell 1
  have c2 := hb.cell 2
  simp at c0 c1 c2
  simp [results, Tryz.results24, go_sem, t2, c0, c1, c2]
set_option maxHeartbeats 2000000 in
set_option maxRecDepth 20000 in
theorem allWith_any (s : ByteArray) (hs : s.size ≤ 4294967296) (w : World) :
    Calls Tryz.prog 24 #[.string s] w fun e w' => e = .returned (.agg #[.string s, .string (bs ((nextL s.data.toList).getD [])), .bool (!(nextL s.data.toList).isSome)]) ∧ Below w.heap.size w w' := by
  have hb1 := (Below.refl w.heap.size w).alloc (Nat.le_refl _) (.cells #[.string ⟨#[]⟩, .string ⟨#[]⟩, .bool false] 24)
  have hR1 := Blk.new w 24 #[.string ⟨#[]⟩, .string ⟨#[]⟩, .bool false]
  have hnx := next_any s (w.alloc (.cells #[.string ⟨#[]⟩, .string ⟨#[]⟩, .bool false] 24)) hs
  generalize bs ((nextL s.data.toList).getD []) = T at hnx ⊢
  generalize (nextL s.data.toList).isSome = b at hnx ⊢
  clear hs
  go_enter Tryz.func24, Tryz.ntmps24
  go_wp2_with fail
  refine hnx.mono ?_
  rintro _ w2 ⟨rfl, hb2⟩
  have hb02 := hb1.trans (hb2.mono hb1.size)
  have hR2 := hR1.old hb2
  have r0 := hR2.cell 0
  have r1 := hR2.cell 1
  have r2 := hR2.cell 2
  have f0 := hR2.frozen 0
  have f1 := hR2.frozen 1
  have f2 := hR2.frozen 2
  have hRF := ((hR2.set 0 (.string s)).set 1 (.string T)).set 2 (.bool (!b))
  clear hnx hb1 hb2 hR1
  go_wp2_with fail
  refine bodyPost_ret (span_results24 hRF rfl) rfl ?_
  exact ⟨rfl, ((hb02.setCell (p := ⟨w.heap.size, 0, none⟩) (Nat.le_refl _) _).setCell (p := ⟨w.heap.size, 1, none⟩) (Nat.le_refl _) _).setCell (p := ⟨w.heap.size, 2, none⟩) (Nat.le_refl _) _⟩
theorem span_results15 {tmps : Array Value} {w : World} {h : Nat} {a b c : Value} (hb : Blk w h 24 #[a, b, c]) (t6 : tmps[6]?.getD undef = .pointer (some ⟨h, 0, none⟩)) (t7 : tmps[7]?.getD undef = .nilIface) :
    (results Tryz.f15 tmps).run Tryz.prog w = .ok (.tuple #[.agg #[a, b, c], .nilIface]) w := by
  have c0 := hb.cell 0
  have c1 := hb.cell 1
  have c2 := hb.cell 2
  simp at c0 c1 c2
  simp [results, Tryz.results15, go_sem, t6, t7, c0, c1, c2]
set_option maxHeartbeats 2000000 in
set_option maxRecDepth 20000 in
theorem prefix_one (tb A g : Nat) (w : World) (hA : Blk w A 50 twoF) (hV : TupV w g) :
    Calls Tryz.prog 15 #[.pointer (some ⟨tb, 0, none⟩), .agg #[.int .i64 64, .slice (some ⟨A, 0, none⟩) 2 2], .iface 108 (.pointer (some ⟨g, 0, none⟩))] w fun e w' => e = .returned (.tuple #[.agg #[.string ⟨#[18, 129, 1]⟩, .string ⟨#[18, 129, 2]⟩, .bool false], .nilIface]) ∧ Below w.heap.size w w' := by
  have hb1 := (Below.refl w.heap.size w).alloc (Nat.le_refl _) (.cells #[.int .i64 64, .slice (some ⟨A, 0, none⟩) 2 2] 52)
  have hX1 := Blk.new w 52 #[.int .i64 64, .slice (some ⟨A, 0, none⟩) 2 2]
  have hs1 := alloc_size w (.cells #[.int .i64 64, .slice (some ⟨A, 0, none⟩) 2 2] 52)
  have hb12 := (Below.refl _ (w.alloc (.cells #[.int .i64 64, .slice (some ⟨A, 0, none⟩) 2 2] 52))).alloc (Nat.le_refl _) (.cells #[.string ⟨#[]⟩, .string ⟨#[]⟩, .bool false] 24)
  have hR2 := Blk.new (w.alloc (.cells #[.int .i64 64, .slice (some ⟨A, 0, none⟩) 2 2] 52)) 24 #[.string ⟨#[]⟩, .string ⟨#[]⟩, .bool false]
  rw [hs1] at hR2
  have hX2 := hX1.old hb12
  have hb02 := hb1.trans (hb12.mono hb1.size)
  have hbe := begin_one tb A g _ (hA.old hb02) (hV.old hb02)
  have x0 := hX2.cell 0
  have x1 := hX2.cell 1
  have haw := fun W => allWith_any ⟨#[18, 129, 1]⟩ (by decide) W
  rw [show bs ((nextL (⟨#[18, 129, 1]⟩ : ByteArray).data.toList).getD []) = ⟨#[18, 129, 2]⟩ by decide, show (!(nextL (⟨#[18, 129, 1]⟩ : ByteArray).data.toList).isSome) = false by decide] at haw
  clear hb12 hX1 hs1 hb1 hX2
  go_enter Tryz.func15, Tryz.ntmps15
  go_wp2_with fail
  refine hbe.mono ?_
  rintro _ w3 ⟨rfl, hb3⟩
  have hb03 := hb02.trans (hb3.mono hb02.size)
  have hR3 := hR2.old hb3
  have hb4 := (Below.refl w3.heap.size w3).alloc (Nat.le_refl _) (.cells #[.string ⟨#[18, 129, 1]⟩, .int .i64 1] 71)
  have hR4 := hR3.old hb4
  have hb04 := hb03.trans (hb4.mono hb03.size)
  clear hbe hb3 hb02 hR2 x0 x1 hR3 hb03 hb4
  go_wp2_with fail
  refine (haw _).mono ?_
  rintro _ w5 ⟨rfl, hb5⟩
  have hb05 := hb04.trans (hb5.mono hb04.size)
  have hR5 := hR4.old hb5
  have r0 := hR5.cell 0
  have r1 := hR5.cell 1
  have r2 := hR5.cell 2
  have f0 := hR5.frozen 0
  have f1 := hR5.frozen 1
  have f2 := hR5.frozen 2
  have hRF := ((hR5.set 0 (.string ⟨#[18, 129, 1]⟩)).set 1 (.string ⟨#[18, 129, 2]⟩)).set 2 (.bool false)
  clear haw hb5 hb04 hR4
  go_wp2_with fail
  refine bodyPost_ret (span_results15 hRF rfl rfl) rfl ?_
  exact ⟨rfl, ((hb05.setCell (p := ⟨w.heap.size + 1, 0, none⟩) (Nat.le_succ _) _).setCell (p := ⟨w.heap.size + 1, 1, none⟩) (Nat.le_succ _) _).setCell (p := ⟨w.heap.size + 1, 2, none⟩) (Nat.le_succ _) _⟩

end Go.Proofs.YtgefbgpfjbbeaaaGreatDoor
