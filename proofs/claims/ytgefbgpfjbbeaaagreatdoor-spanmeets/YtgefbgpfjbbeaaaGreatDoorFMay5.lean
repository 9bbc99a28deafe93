/- What schema's maySay does at kind 5 (a contract; nothing is claimed here). -/
import Derived.Test.YtgefbgpfjbbeaaaGreatDoorJ6
namespace Go.Proofs.YtgefbgpfjbbeaaaGreatDoor
open Go.RowKit Go.Vf

set_option maxHeartbeats 4000000 in
set_option maxRecDepth 20000 in
theorem maySay_5 (name : ByteArray) (down : Bool) (nulls : Int) (bnd ln : Bool) (lm : ByteArray) (hn : Bool) (hm : ByteArray) (most str : Int) (shf bck : Bool) (a : Option Addr) (n c : Nat) (hnn : n ≤ 281474976710656) (_hl : lm.size ≤ 17179869184) (_hh : hm.size ≤ 17179869184) (hnu : nulls ≤ 2) (w : World) :
    Calls Tryz.prog 117 #[fV ⟨name, 5, down, nulls, bnd, ln, lm, hn, hm, most, str, shf, bck⟩ a n c] w fun e w' => e = .returned (.bool ((decide (0 ≤ most) && decide (most ≤ 65536)) && saysN ⟨name, 5, down, nulls, bnd, ln, lm, hn, hm, 0, str, shf, bck⟩ n)) ∧ Below w.heap.size w w' := by
  have hN0 := Blk.new w 50 (cellsF ⟨name, 5, down, nulls, bnd, ln, lm, hn, hm, most, str, shf, bck⟩ a n c)
  have hb0 := (Below.refl w.heap.size w).alloc (Nat.le_refl _) (.cells (cellsF ⟨name, 5, down, nulls, bnd, ln, lm, hn, hm, most, str, shf, bck⟩ a n c) 50)
  obtain ⟨c0, c1, c2, c3, c4, c5, c6, c7, c8, c9, c10, c11, c12, c13⟩ := cells14 hN0
  have t3 : decide ((2 : Int) < nulls) = false := by simp; omega
  have hkd := kinds_any
  have hs1 := alloc_size w (.cells (cellsF ⟨name, 5, down, nulls, bnd, ln, lm, hn, hm, most, str, shf, bck⟩ a n c) 50)
  unfold fV
  simp only [cellsF] at hN0 hb0 c0 c1 c2 c3 c4 c5 c6 c7 c8 c9 c10 c11 c12 c13 hs1
  go_enter Tryz.func117, Tryz.ntmps117
  go_upto_region 3 with fail
  generalize w.alloc (.cells #[.string name, .int .u8 5, .bool down, .int .u8 nulls, .bool bnd, .bool ln, .string lm, .bool hn, .string hm, .int .i64 most, .int .i64 str, .bool shf, .bool bck, .slice a n c] 50) = w1 at hN0 hb0 c0 c1 c2 c3 c4 c5 c6 c7 c8 c9 c10 c11 c12 c13 hs1 ⊢
  have hlt : w.heap.size < w1.heap.size := hN0.lt
  clear hs1
  go_cut [3] from 18 (fun v wx => KVar w1 (.string ⟨#[110, 97, 109, 101]⟩) (.func (.func 179) #[] #[]) (.func (.func 180) #[] #[]) (.func (.func 181) #[] #[]) (.func (.func 182) #[] #[]) v wx)
  case first =>
    have hc1 : ∀ x, Below w1.heap.size w1 x → x.cell? ⟨w.heap.size, 1, none⟩ = some (.int .u8 5) := fun x h => (h.cell (p := ⟨w.heap.size, 1, none⟩) hlt).trans c1
    have HKeep : Hid (∀ x y, Below w1.heap.size w1 x → Below x.heap.size x y → Below w1.heap.size w1 y) := fun x y h1 h2 => h1.trans (h2.mono h1.size)
    clear c0 c1 c2 c3 c4 c5 c6 c7 c8 c9 c10 c11 c12 c13
    refine wp_region_held_drew (S := fun x => Below w1.heap.size w1 x) (by kernel_rfl) ((Below.refl _ _).drew) (fun hHeld => ?_)
    refine wpAnyH_takeD (i := 1) (some 19) (v := .pointer (some ⟨w.heap.size, 1, none⟩)) rfl rfl (by kernel_rfl) (by kernel_rfl) (by kernel_rfl) (fun _ _ _ h => h) (Or.inl ⟨by kernel_rfl, ?hy1⟩) (by assumption) ?rest1
    case hy1 => (intro x hSx; (try dsimp only at hSx); go_simp; first | done | with_reducible rfl)
    try simp only [Act.put, List.setIfInBounds_toArray, List.set_cons_zero, List.set_cons_succ]
    refine wpAnyH_takeD (i := 2) (some 20) (v := .int .u8 5) rfl rfl (by kernel_rfl) (by kernel_rfl) (by kernel_rfl) (fun _ _ _ h => h) (Or.inl ⟨by kernel_rfl, ?hy2⟩) (by assumption) ?rest2
    case hy2 => (intro x hSx; have hq := hc1 _ hSx; (try dsimp only at hSx); go_simp; first | done | with_reducible rfl)
    try simp only [Act.put, List.setIfInBounds_toArray, List.set_cons_zero, List.set_cons_succ]
    refine wpAnyH_ready (rs := [0, 5]) (by kernel_rfl) (by simp) ?_
    refine AllReadyH.cons rfl (fun K hK => ?_) (AllReadyH.cons rfl (fun K hK => ?_) AllReadyH.nil)
    · skip
      go_simp
      go_wp2_with (go_at_call 150; refine (hkd _).mono ?_; rintro e y ⟨g, rfl, hg, hKd, hby⟩)
      refine hK.out _ _ (HKeep.out _ _ hHeld hby) (fun hH1 => ?_)
      clear hK K
      try simp only [Act.put, List.setIfInBounds_toArray, List.set_cons_zero, List.set_cons_succ]
      obtain ⟨q0, q1, q2, q3, q4⟩ := kind_at5 hKd
      have hgl := hKd.lt
      refine wpAnyH_takeD (i := 3) (some 21) (v := .pointer (some ⟨g, 25, none⟩)) rfl rfl (by kernel_rfl) (by kernel_rfl) (by kernel_rfl) (fun _ _ _ h => h) (Or.inl ⟨by kernel_rfl, ?hy3⟩) (by assumption) ?rest3
      case hy3 => (intro x hSx; (try dsimp only at hSx); go_simp; first | done | with_reducible rfl)
      try simp only [Act.put, List.setIfInBounds_toArray, List.set_cons_zero, List.set_cons_succ]
      refine wpAnyH_ready (rs := [4, 5]) (by kernel_rfl) (by simp) ?_
      refine AllReadyH.cons rfl (fun K hK => ?_) (AllReadyH.cons rfl (fun K hK => ?_) AllReadyH.nil)
      · skip
        go_simp
        refine hK.out _ _ hH1 (fun hH2 => ?_)
        clear hK K
        try simp only [Act.put, List.setIfInBounds_toArray, List.set_cons_zero, List.set_cons_succ]
        refine wpAnyH_ready (rs := [5]) (by kernel_rfl) (by simp) ?_
        refine AllReadyH.cons rfl (fun K hK => ?_) AllReadyH.nil
        go_simp
        refine hK.out _ _ (hH2.alloc hH2.size _) (fun hH3 => ?_)
        clear hK K
        try simp only [Act.put, List.setIfInBounds_toArray, List.set_cons_zero, List.set_cons_succ]
        obtain ⟨n0, n1, n2, n3, n4, n5, n6, n7, n8, n9⟩ := kv_new y
        refine wpAnyH_ready (rs := [6]) (by kernel_rfl) (by simp) ?_
        refine AllReadyH.cons rfl (fun K hK => ?_) AllReadyH.nil
        go_simp
        refine hK.out _ _ (hH2.alloc hH2.size _) (fun hEnd => ?_)
        clear hK K
        try simp only [Act.put, List.setIfInBounds_toArray, List.set_cons_zero, List.set_cons_succ]
        refine wpAnyH_done (by kernel_rfl) ?_ _
        go_wp2_with fail
        go_meet
        case rel => exact kvar_new _ _ _ _ _ hH2
      · skip
        go_simp
        refine hK.out _ _ (hH1.alloc hH1.size _) (fun hH2 => ?_)
        clear hK K
        try simp only [Act.put, List.setIfInBounds_toArray, List.set_cons_zero, List.set_cons_succ]
        obtain ⟨n0, n1, n2, n3, n4, n5, n6, n7, n8, n9⟩ := kv_new y
        refine wpAnyH_ready (rs := [4]) (by kernel_rfl) (by simp) ?_
        refine AllReadyH.cons rfl (fun K hK => ?_) AllReadyH.nil
        go_simp
        refine hK.out _ _ hH2 (fun hH3 => ?_)
        clear hK K
        try simp only [Act.put, List.setIfInBounds_toArray, List.set_cons_zero, List.set_cons_succ]
        refine wpAnyH_ready (rs := [6]) (by kernel_rfl) (by simp) ?_
        refine AllReadyH.cons rfl (fun K hK => ?_) AllReadyH.nil
        go_simp
        refine hK.out _ _ (hH1.alloc hH1.size _) (fun hEnd => ?_)
        clear hK K
        try simp only [Act.put, List.setIfInBounds_toArray, List.set_cons_zero, List.set_cons_succ]
        refine wpAnyH_done (by kernel_rfl) ?_ _
        go_wp2_with fail
        go_meet
        case rel => exact kvar_new _ _ _ _ _ hH1
    · skip
      go_simp
      refine hK.out _ _ (hHeld.alloc hHeld.size _) (fun hH1 => ?_)
      clear hK K
      try simp only [Act.put, List.setIfInBounds_toArray, List.set_cons_zero, List.set_cons_succ]
      refine wpAnyH_ready (rs := [0]) (by kernel_rfl) (by simp) ?_
      refine AllReadyH.cons rfl (fun K hK => ?_) AllReadyH.nil
      go_simp
      go_wp2_with (go_at_call 150; refine (hkd _).mono ?_; rintro e y ⟨g, rfl, hg, hKd, hby⟩)
      refine hK.out _ _ (HKeep.out _ _ hH1 hby) (fun hH2 => ?_)
      clear hK K
      try simp only [Act.put, List.setIfInBounds_toArray, List.set_cons_zero, List.set_cons_succ]
      obtain ⟨q0, q1, q2, q3, q4⟩ := kind_at5 hKd
      have hgl := hKd.lt
      obtain ⟨n0, n1, n2, n3, n4, n5, n6, n7, n8, n9⟩ := kv_kept hby
      refine wpAnyH_takeD (i := 3) (some 21) (v := .pointer (some ⟨g, 25, none⟩)) rfl rfl (by kernel_rfl) (by kernel_rfl) (by kernel_rfl) (fun _ _ _ h => h) (Or.inl ⟨by kernel_rfl, ?hyb3⟩) (by assumption) ?restb3
      case hyb3 => (intro x hSx; (try dsimp only at hSx); go_simp; first | done | with_reducible rfl)
      try simp only [Act.put, List.setIfInBounds_toArray, List.set_cons_zero, List.set_cons_succ]
      refine wpAnyH_ready (rs := [4]) (by kernel_rfl) (by simp) ?_
      refine AllReadyH.cons rfl (fun K hK => ?_) AllReadyH.nil
      go_simp
      refine hK.out _ _ hH2 (fun hH3 => ?_)
      clear hK K
      try simp only [Act.put, List.setIfInBounds_toArray, List.set_cons_zero, List.set_cons_succ]
      refine wpAnyH_ready (rs := [6]) (by kernel_rfl) (by simp) ?_
      refine AllReadyH.cons rfl (fun K hK => ?_) AllReadyH.nil
      go_simp
      refine hK.out _ _ ((((((hH2.setCell (Nat.le_refl _) _).setCell (Nat.le_refl _) _).setCell (Nat.le_refl _) _).setCell (Nat.le_refl _) _).setCell (Nat.le_refl _) _)) (fun hEnd => ?_)
      clear hK K
      try simp only [Act.put, List.setIfInBounds_toArray, List.set_cons_zero, List.set_cons_succ]
      refine wpAnyH_done (by kernel_rfl) ?_ _
      go_wp2_with fail
      go_meet
      case rel => exact kvar_set _ _ _ _ _ (((Below.refl _ (World.alloc w1 _)).drew).trans hby)
  case rest =>
    obtain ⟨g, rfl, hg, hK, hb2⟩ := hcut
    have hNc := hN0.old hb2
    obtain ⟨d0, d1, d2, d3, d4, d5, d6, d7, d8, d9, d10, d11, d12, d13⟩ := hNc.c14
    have hgl := hK.lt
    have hkl := hNc.lt
    have hN2 : Blk (wc.alloc (.cells #[.string name, .int .u8 5, .bool down, .int .u8 nulls, .bool bnd, .bool ln, .string lm, .bool hn, .string hm, .int .i64 most, .int .i64 str, .bool shf, .bool bck, .slice a n c] 50)) wc.heap.size 50 (cellsF ⟨name, 5, down, nulls, bnd, ln, lm, hn, hm, most, str, shf, bck⟩ a n c) := Blk.new wc 50 _
    have hb3 : Below wc.heap.size wc (wc.alloc (.cells #[.string name, .int .u8 5, .bool down, .int .u8 nulls, .bool bnd, .bool ln, .string lm, .bool hn, .string hm, .int .i64 most, .int .i64 str, .bool shf, .bool bck, .slice a n c] 50)) := (Below.refl wc.heap.size wc).alloc (Nat.le_refl _) _
    have hK3 := hK.old hb3
    have hN3 := hNc.old hb3
    have hs3 := alloc_size wc (.cells #[.string name, .int .u8 5, .bool down, .int .u8 nulls, .bool bnd, .bool ln, .string lm, .bool hn, .string hm, .int .i64 most, .int .i64 str, .bool shf, .bool bck, .slice a n c] 50)
    have hst := stripMost_any wc.heap.size ⟨name, 5, down, nulls, bnd, ln, lm, hn, hm, most, str, shf, bck⟩ a n c (wc.alloc (.cells #[.string name, .int .u8 5, .bool down, .int .u8 nulls, .bool bnd, .bool ln, .string lm, .bool hn, .string hm, .int .i64 most, .int .i64 str, .bool shf, .bool bck, .slice a n c] 50)) hN2
    have f2 := hK3.cell 2
    clear c0 c1 c2 c3 c4 c5 c6 c7 c8 c9 c10 c11 c12 c13 hkd hN0
    go_upto_region 5 with fail
    clear d0 d1 d2 d3 d4 d5 d6 d7 d8 d9 d10 d11 d12 d13
    generalize wc.alloc (.cells #[.string name, .int .u8 5, .bool down, .int .u8 nulls, .bool bnd, .bool ln, .string lm, .bool hn, .string hm, .int .i64 most, .int .i64 str, .bool shf, .bool bck, .slice a n c] 50) = w3 at hN2 hb3 hK3 hN3 hs3 hst f2 ⊢
    go_wp2_with fail
    refine hst.mono ?_
    rintro _ w4 ⟨rfl, hb4, hB4⟩
    skip
    have hb04 : Below w.heap.size w w4 := ((hb0.trans (hb2.mono hb0.size)).trans (hb3.mono (by have := hb0.size; have := hb2.size; omega))).trans (hb4.mono (by have := hb0.size; have := hb2.size; omega))
    have hK4 := hK3.below hb4 hgl
    have hN4 := hN3.below hb4 hkl
    have g1 := hK4.cell 1
    obtain ⟨d0, d1, d2, d3, d4, d5, d6, d7, d8, d9, d10, d11, d12, d13⟩ := hN4.c14
    have hri := mostRight_any ⟨name, 5, down, nulls, bnd, ln, lm, hn, hm, most, str, shf, bck⟩ a n c w4
    unfold fV at hri
    dsimp only at hri
    clear hst hN2 hb3 hK3 hN3 hK hNc f2 hb4
    go_wp2_with fail
    refine hri.mono ?_
    rintro _ w5 ⟨rfl, hb5⟩
    have hb05 := hb04.trans (hb5.mono hb04.size)
    have hB5 := hB4.old hb5
    have hsn := saysNothing_any ⟨name, 5, down, nulls, bnd, ln, lm, hn, hm, 0, str, shf, bck⟩ a n c (by omega) w5
    unfold fV at hsn
    simp only [cellsF] at hB5
    dsimp only at hsn
    obtain ⟨e0, e1, e2, e3, e4, e5, e6, e7, e8, e9, e10, e11, e12, e13⟩ := hB5.c14
    clear d0 d1 d2 d3 d4 d5 d6 d7 d8 d9 d10 d11 d12 d13 hri hB4 hB5 hN4 hK4
    cases hz : (decide (0 ≤ most) && decide (most ≤ 65536)) with
    | false =>
      go_wp2_with fail
      go_ret
      exact ⟨by rw [hz]; rfl, hb05⟩
    | true =>
      go_wp2_with fail
      refine hsn.mono ?_
      rintro _ w6 ⟨rfl, hb6⟩
      go_wp2_with fail
      go_ret
      exact ⟨by rw [hz]; rfl, hb05.trans (hb6.mono hb05.size)⟩

end Go.Proofs.YtgefbgpfjbbeaaaGreatDoor
