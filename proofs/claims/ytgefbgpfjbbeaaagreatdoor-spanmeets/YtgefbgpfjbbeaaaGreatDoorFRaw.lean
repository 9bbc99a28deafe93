/- What fit's unfit does with bytes that fit (a contract; nothing is claimed here). -/
import Derived.Test.YtgefbgpfjbbeaaaGreatDoorFLea
namespace Go.Proofs.YtgefbgpfjbbeaaaGreatDoor
open Go.RowKit Go.Vf

set_option maxHeartbeats 4000000 in
set_option maxRecDepth 20000 in
theorem unfit_bytes (o : Go.Vf.Own) (a : Option Addr) (n c : Nat) (r : ByteArray) (hk : o.kind = 3) (hm : (r.size : Int) ≤ o.most) (w : World) :
    Calls Tryz.prog 92 #[fV o a n c, .iface 111 (.agg #[.int .u8 3, .string r])] w (ErrPost none w) := by
  have hb1 := (Below.refl w.heap.size w).alloc (Nat.le_refl _) (.cells (cellsF o a n c) 50)
  have hN1 := Blk.new w 50 (cellsF o a n c)
  have hw := want_ok (p := .mk 3 false false ⟨#[]⟩ r []) (k := o.kind) (by omega) (by omega) hk.symm 0 0 (w.alloc (.cells (cellsF o a n c) 50)) (VIn.raw (w := w.alloc (.cells (cellsF o a n c) 50)) (lo := 0) (n₀ := 0) 3 r rfl)
  have hub := fun W => unfitBytes_ok o a n c r hk hm W
  have t1 := ta58_85 3 r
  have hmb := mBytesR 3 r
  unfold fV at hub ⊢
  obtain ⟨c0, c1, c2, c3, c4, c5, c6, c7, c8, c9, c10, c11, c12, c13⟩ := cells14 hN1
  simp only [cellsF] at hb1 hw c0 c1 c2 c3 c4 c5 c6 c7 c8 c9 c10 c11 c12 c13 hN1
  clear hk hm
  go_enter Tryz.func92, Tryz.ntmps92
  go_wp2_with fail
  refine hw.mono ?_
  rintro _ w2 ⟨rfl, hb2⟩
  have hb02 := hb1.trans (hb2.mono hb1.size)
  have hN2 := hN1.old hb2
  clear c0 c1 c2 c3 c4 c5 c6 c7 c8 c9 c10 c11 c12 c13 hw
  have HKeep : Hid (∀ x y, Below w2.heap.size w2 x → Below x.heap.size x y → Below w2.heap.size w2 y) := fun x y h1 h2 => h1.trans (h2.mono h1.size)
  go_upto_region 9 with fail
  refine wp_region_held_drew (S := fun x => Below w2.heap.size w2 x) (by kernel_rfl) ((Below.refl _ _).drew) (fun hHeld => ?_)
  refine wpAnyH_takeD (i := 0) (some 30) (v := .agg #[.string o.name, .int .u8 o.kind, .bool o.down, .int .u8 o.nulls, .bool o.bnd, .bool o.ln, .string o.lm, .bool o.hn, .string o.hm, .int .i64 o.most, .int .i64 o.str, .bool o.shf, .bool o.bck, .slice a n c]) rfl rfl (by kernel_rfl) (by kernel_rfl) (by kernel_rfl) (fun _ _ _ h => h) (Or.inl ⟨by kernel_rfl, ?hy0⟩) (by assumption) ?rest0
  case hy0 => (intro x hSx; obtain ⟨p0, p1, p2, p3, p4, p5, p6, p7, p8, p9, p10, p11, p12, p13⟩ := (hN2.old hSx).c14; (try dsimp only at hSx); go_simp; first | done | with_reducible rfl)
  try simp only [Act.put, List.setIfInBounds_toArray, List.set_cons_zero, List.set_cons_succ]
  refine wpAnyH_takeD (i := 1) (some 31) (v := .iface 111 (.agg #[.int .u8 3, .string r])) rfl rfl (by kernel_rfl) (by kernel_rfl) (by kernel_rfl) (fun _ _ _ h => h) (Or.inl ⟨by kernel_rfl, ?hy1⟩) (by assumption) ?rest1
  case hy1 => (intro x hSx; (try dsimp only at hSx); go_simp; first | done | with_reducible rfl)
  try simp only [Act.put, List.setIfInBounds_toArray, List.set_cons_zero, List.set_cons_succ]
  refine wpAnyH_ready (rs := [2]) (by kernel_rfl) (by simp) ?_
  refine AllReadyH.cons rfl (fun K hK => ?_) AllReadyH.nil
  go_simp
  go_wp2_with (go_at_call 314; refine (bytesRaw 3 r _).mono ?_; rintro e y2 ⟨rfl, hb3⟩)
  refine hK.out _ _ (HKeep.out _ _ hHeld hb3) (fun hHeld2 => ?_)
  clear hK K
  try simp only [Act.put, List.setIfInBounds_toArray, List.set_cons_zero, List.set_cons_succ]
  refine wpAnyH_ready (rs := [3]) (by kernel_rfl) (by simp) ?_
  refine AllReadyH.cons rfl (fun K hK => ?_) AllReadyH.nil
  go_simp
  go_wp2_with (go_at_call 131; refine (hub _).mono ?_; rintro e y3 ⟨rfl, hb4⟩)
  have hbF := HKeep.out _ _ hHeld2 hb4
  have hb0F := hb02.trans (hbF.mono hb02.size)
  refine hK.out _ _ hbF (fun hHeld3 => ?_)
  clear hK K
  try simp only [Act.put, List.setIfInBounds_toArray, List.set_cons_zero, List.set_cons_succ]
  refine wpAnyH_takeD (i := 4) (some 4) (v := .nilIface) rfl rfl (by kernel_rfl) (by kernel_rfl) (by kernel_rfl) (fun _ _ _ h => h) (Or.inl ⟨by kernel_rfl, ?hyz⟩) (by assumption) ?restz
  case hyz => (intro x hSx; (try dsimp only at hSx); go_simp; first | done | with_reducible rfl)
  try simp only [Act.put, List.setIfInBounds_toArray, List.set_cons_zero, List.set_cons_succ]
  refine wpAnyH_done (by kernel_rfl) ?_ _
  clear hub
  go_wp2_with fail
  go_ret
  exact ⟨hb0F, rfl⟩

end Go.Proofs.YtgefbgpfjbbeaaaGreatDoor
