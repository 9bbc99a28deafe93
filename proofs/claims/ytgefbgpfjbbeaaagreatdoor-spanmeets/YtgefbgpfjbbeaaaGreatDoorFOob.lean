/- What fit's outOfBounds does (a contract; nothing is claimed here). -/
import Derived.Test.YtgefbgpfjbbeaaaGreatDoorJ7
import Derived.Test.YtgefbgpfjbbeaaaGreatDoorJ6
namespace Go.Proofs.YtgefbgpfjbbeaaaGreatDoor
open Go.RowKit Go.Vf

theorem taNumN (b : Bool) (m : ByteArray) (w : World) : (Instr.typeAssert (.iface 106 (.agg #[.bool b, .string m])) 36 244 true).run Tryz.prog w = .ok (.tuple #[.iface 106 (.agg #[.bool b, .string m]), .bool true]) w := by kernel_rfl
def oobR (o : Go.Vf.Own) (b : Bool) (m : ByteArray) : Bool := o.bnd && (decide (0 < cmpN o.ln o.lm.data.toList b m.data.toList) || decide (0 < cmpN b m.data.toList o.hn o.hm.data.toList))
set_option maxHeartbeats 4000000 in
set_option maxRecDepth 20000 in
theorem outOf_num (o : Go.Vf.Own) (a : Option Addr) (n c : Nat) (b : Bool) (m : ByteArray) (hs1 : o.lm.size ≤ 17179869184) (hs2 : o.hm.size ≤ 17179869184) (hs3 : m.size ≤ 17179869184) (hk : chk b m.data.toList = 0) (hq : o.bnd = true → chk o.ln o.lm.data.toList = 0 ∧ chk o.hn o.hm.data.toList = 0) (w : World) :
    Calls Tryz.prog 133 #[fV o a n c, .iface 106 (.agg #[.bool b, .string m])] w fun e w' => e = .returned (.bool (oobR o b m)) ∧ Below w.heap.size w w' := by
  have hb1 := (Below.refl w.heap.size w).alloc (Nat.le_refl _) (.cells (cellsF o a n c) 50)
  have hN1 := Blk.new w 50 (cellsF o a n c)
  have hta := taNumN b m
  have hmn := mNumN b m
  obtain ⟨c0, c1, c2, c3, c4, c5, c6, c7, c8, c9, c10, c11, c12, c13⟩ := cells14 hN1
  unfold fV oobR
  simp only [cellsF] at hb1 hN1 c0 c1 c2 c3 c4 c5 c6 c7 c8 c9 c10 c11 c12 c13
  cases hbd : o.bnd with
  | false =>
    rw [hbd] at c4
    simp only [Bool.false_and]
    rw [hbd] at hb1
    go_enter Tryz.func133, Tryz.ntmps133
    go_wp2_with fail
    go_ret
    exact ⟨rfl, hb1⟩
  | true =>
    obtain ⟨hq1, hq2⟩ := hq hbd
    have ha1 := fun W => above_any o.ln o.lm b m hs1 hs3 hq1 hk W
    have ha2 := fun W => above_any b m o.hn o.hm hs3 hs2 hk hq2 W
    simp only [Bool.true_and]
    generalize decide (0 < cmpN o.ln o.lm.data.toList b m.data.toList) = z1 at ha1 ⊢
    generalize decide (0 < cmpN b m.data.toList o.hn o.hm.data.toList) = z2 at ha2 ⊢
    rw [hbd] at hb1 hN1 c0 c1 c2 c3 c4 c5 c6 c7 c8 c9 c10 c11 c12 c13
    clear hq hq1 hq2 hk
    go_enter Tryz.func133, Tryz.ntmps133
    go_upto_region 3 with fail
    try rw [hbd]
    generalize w.alloc (.cells #[.string o.name, .int .u8 o.kind, .bool o.down, .int .u8 o.nulls, .bool true, .bool o.ln, .string o.lm, .bool o.hn, .string o.hm, .int .i64 o.most, .int .i64 o.str, .bool o.shf, .bool o.bck, .slice a n c] 50) = w1 at hb1 hN1 c0 c1 c2 c3 c4 c5 c6 c7 c8 c9 c10 c11 c12 c13 ⊢
    have hlt := hN1.lt
    have hc : ∀ x, Below w1.heap.size w1 x → x.cell? ⟨w.heap.size, 5, none⟩ = some (.bool o.ln) ∧ x.cell? ⟨w.heap.size, 6, none⟩ = some (.string o.lm) ∧ x.cell? ⟨w.heap.size, 7, none⟩ = some (.bool o.hn) ∧ x.cell? ⟨w.heap.size, 8, none⟩ = some (.string o.hm) := fun x hx => ⟨(hx.cell (p := ⟨w.heap.size, 5, none⟩) hlt).trans c5, (hx.cell (p := ⟨w.heap.size, 6, none⟩) hlt).trans c6, (hx.cell (p := ⟨w.heap.size, 7, none⟩) hlt).trans c7, (hx.cell (p := ⟨w.heap.size, 8, none⟩) hlt).trans c8⟩
    have HKeep : Hid (∀ x y, Below w1.heap.size w1 x → Below x.heap.size x y → Below w1.heap.size w1 y) := fun x y h1 h2 => h1.trans (h2.mono h1.size)
    clear c0 c1 c2 c3 c4 c5 c6 c7 c8 c9 c10 c11 c12 c13 hN1
    refine wp_region_held_drew (S := fun x => Below w1.heap.size w1 x) (by kernel_rfl) ((Below.refl _ _).drew) (fun hHeldx => ?_)
    refine wpAnyH_takeD (i := 0) (some 17) (v := .pointer (some ⟨w.heap.size, 5, none⟩)) rfl rfl (by kernel_rfl) (by kernel_rfl) (by kernel_rfl) (fun _ _ _ h => h) (Or.inl ⟨by kernel_rfl, ?hyx0⟩) (by assumption) ?restx0
    case hyx0 => (intro x hSx; (try dsimp only at hSx); go_simp; first | done | with_reducible rfl)
    try simp only [Act.put, List.setIfInBounds_toArray, List.set_cons_zero, List.set_cons_succ]
    refine wpAnyH_takeD (i := 1) (some 18) (v := .agg #[.bool o.ln, .string o.lm]) rfl rfl (by kernel_rfl) (by kernel_rfl) (by kernel_rfl) (fun _ _ _ h => h) (Or.inl ⟨by kernel_rfl, ?hyx1⟩) (by assumption) ?restx1
    case hyx1 => (intro x hSx; obtain ⟨p5, p6, p7, p8⟩ := hc _ hSx; (try dsimp only at hSx); go_simp; first | done | with_reducible rfl)
    try simp only [Act.put, List.setIfInBounds_toArray, List.set_cons_zero, List.set_cons_succ]
    refine wpAnyH_takeD (i := 2) (some 19) (v := .iface 106 (.agg #[.bool b, .string m])) rfl rfl (by kernel_rfl) (by kernel_rfl) (by kernel_rfl) (fun _ _ _ h => h) (Or.inl ⟨by kernel_rfl, ?hyx2⟩) (by assumption) ?restx2
    case hyx2 => (intro x hSx; (try dsimp only at hSx); go_simp; first | done | with_reducible rfl)
    try simp only [Act.put, List.setIfInBounds_toArray, List.set_cons_zero, List.set_cons_succ]
    refine wpAnyH_ready (rs := [3]) (by kernel_rfl) (by simp) ?_
    refine AllReadyH.cons rfl (fun K hK => ?_) AllReadyH.nil
    go_simp
    go_wp2_with (go_at_call 307; refine (numNum b m _).mono ?_; rintro e yx3 ⟨rfl, hb3⟩)
    refine hK.out _ _ (HKeep.out _ _ hHeldx hb3) (fun hHeldx3 => ?_)
    clear hK K
    try simp only [Act.put, List.setIfInBounds_toArray, List.set_cons_zero, List.set_cons_succ]
    refine wpAnyH_ready (rs := [4]) (by kernel_rfl) (by simp) ?_
    refine AllReadyH.cons rfl (fun K hK => ?_) AllReadyH.nil
    go_simp
    go_wp2_with (go_at_call 164; refine (ha1 _).mono ?_; rintro e yx4 ⟨rfl, hb4⟩)
    refine hK.out _ _ (HKeep.out _ _ hHeldx3 hb4) (fun hHeldx4 => ?_)
    clear hK K
    try simp only [Act.put, List.setIfInBounds_toArray, List.set_cons_zero, List.set_cons_succ]
    refine wpAnyH_takeD (i := 5) (some 22) (v := .bool z1) rfl rfl (by kernel_rfl) (by kernel_rfl) (by kernel_rfl) (fun _ _ _ h => h) (Or.inl ⟨by kernel_rfl, ?hyx5⟩) (by assumption) ?restx5
    case hyx5 => (intro x hSx; (try dsimp only at hSx); go_simp; first | done | with_reducible rfl)
    try simp only [Act.put, List.setIfInBounds_toArray, List.set_cons_zero, List.set_cons_succ]
    cases z1 with
    | true =>
      refine wpAnyH_takeD (i := 6) (some 23) (v := undef) rfl rfl (by kernel_rfl) (by kernel_rfl) (by kernel_rfl) (fun _ _ _ h => h) (Or.inr ⟨by kernel_rfl, rfl⟩) (by assumption) ?_
      try simp only [Act.put, List.setIfInBounds_toArray, List.set_cons_zero, List.set_cons_succ]
      refine wpAnyH_takeD (i := 7) (some 24) (v := undef) rfl rfl (by kernel_rfl) (by kernel_rfl) (by kernel_rfl) (fun _ _ _ h => h) (Or.inr ⟨by kernel_rfl, rfl⟩) (by assumption) ?_
      try simp only [Act.put, List.setIfInBounds_toArray, List.set_cons_zero, List.set_cons_succ]
      refine wpAnyH_takeD (i := 8) (some 25) (v := undef) rfl rfl (by kernel_rfl) (by kernel_rfl) (by kernel_rfl) (fun _ _ _ h => h) (Or.inr ⟨by kernel_rfl, rfl⟩) (by assumption) ?_
      try simp only [Act.put, List.setIfInBounds_toArray, List.set_cons_zero, List.set_cons_succ]
      refine wpAnyH_takeD (i := 9) (some 26) (v := undef) rfl rfl (by kernel_rfl) (by kernel_rfl) (by kernel_rfl) (fun _ _ _ h => h) (Or.inr ⟨by kernel_rfl, rfl⟩) (by assumption) ?_
      try simp only [Act.put, List.setIfInBounds_toArray, List.set_cons_zero, List.set_cons_succ]
      refine wpAnyH_takeD (i := 10) (some 27) (v := undef) rfl rfl (by kernel_rfl) (by kernel_rfl) (by kernel_rfl) (fun _ _ _ h => h) (Or.inr ⟨by kernel_rfl, rfl⟩) (by assumption) ?_
      try simp only [Act.put, List.setIfInBounds_toArray, List.set_cons_zero, List.set_cons_succ]
      refine wpAnyH_takeD (i := 11) (some 28) (v := .bool true) rfl rfl (by kernel_rfl) (by kernel_rfl) (by kernel_rfl) (fun _ _ _ h => h) (Or.inl ⟨by kernel_rfl, ?hyt11⟩) (by assumption) ?restt11
      case hyt11 => (intro x hSx; (try dsimp only at hSx); go_simp; first | done | with_reducible rfl)
      try simp only [Act.put, List.setIfInBounds_toArray, List.set_cons_zero, List.set_cons_succ]
      refine wpAnyH_takeD (i := 12) (some 4) (v := .bool true) rfl rfl (by kernel_rfl) (by kernel_rfl) (by kernel_rfl) (fun _ _ _ h => h) (Or.inl ⟨by kernel_rfl, ?hyt12⟩) (by assumption) ?restt12
      case hyt12 => (intro x hSx; (try dsimp only at hSx); go_simp; first | done | with_reducible rfl)
      try simp only [Act.put, List.setIfInBounds_toArray, List.set_cons_zero, List.set_cons_succ]
      refine wpAnyH_done (by kernel_rfl) ?_ _
      go_wp2_with fail
      go_ret
      exact ⟨rfl, hb1.trans (hHeldx4.mono hb1.size)⟩
    | false =>
      refine wpAnyH_takeD (i := 6) (some 23) (v := .iface 106 (.agg #[.bool b, .string m])) rfl rfl (by kernel_rfl) (by kernel_rfl) (by kernel_rfl) (fun _ _ _ h => h) (Or.inl ⟨by kernel_rfl, ?hyf6⟩) (by assumption) ?restf6
      case hyf6 => (intro x hSx; (try dsimp only at hSx); go_simp; first | done | with_reducible rfl)
      try simp only [Act.put, List.setIfInBounds_toArray, List.set_cons_zero, List.set_cons_succ]
      refine wpAnyH_takeD (i := 8) (some 25) (v := .pointer (some ⟨w.heap.size, 7, none⟩)) rfl rfl (by kernel_rfl) (by kernel_rfl) (by kernel_rfl) (fun _ _ _ h => h) (Or.inl ⟨by kernel_rfl, ?hyf8⟩) (by assumption) ?restf8
      case hyf8 => (intro x hSx; (try dsimp only at hSx); go_simp; first | done | with_reducible rfl)
      try simp only [Act.put, List.setIfInBounds_toArray, List.set_cons_zero, List.set_cons_succ]
      refine wpAnyH_takeD (i := 9) (some 26) (v := .agg #[.bool o.hn, .string o.hm]) rfl rfl (by kernel_rfl) (by kernel_rfl) (by kernel_rfl) (fun _ _ _ h => h) (Or.inl ⟨by kernel_rfl, ?hyf9⟩) (by assumption) ?restf9
      case hyf9 => (intro x hSx; obtain ⟨p5, p6, p7, p8⟩ := hc _ hSx; (try dsimp only at hSx); go_simp; first | done | with_reducible rfl)
      try simp only [Act.put, List.setIfInBounds_toArray, List.set_cons_zero, List.set_cons_succ]
      refine wpAnyH_ready (rs := [7]) (by kernel_rfl) (by simp) ?_
      refine AllReadyH.cons rfl (fun K hK => ?_) AllReadyH.nil
      go_simp
      go_wp2_with (go_at_call 307; refine (numNum b m _).mono ?_; rintro e yf7 ⟨rfl, hb7⟩)
      refine hK.out _ _ (HKeep.out _ _ hHeldx4 hb7) (fun hHeldf7 => ?_)
      clear hK K
      try simp only [Act.put, List.setIfInBounds_toArray, List.set_cons_zero, List.set_cons_succ]
      refine wpAnyH_ready (rs := [10]) (by kernel_rfl) (by simp) ?_
      refine AllReadyH.cons rfl (fun K hK => ?_) AllReadyH.nil
      go_simp
      go_wp2_with (go_at_call 164; refine (ha2 _).mono ?_; rintro e yf10 ⟨rfl, hb10⟩)
      refine hK.out _ _ (HKeep.out _ _ hHeldf7 hb10) (fun hHeldf10 => ?_)
      clear hK K
      try simp only [Act.put, List.setIfInBounds_toArray, List.set_cons_zero, List.set_cons_succ]
      refine wpAnyH_takeD (i := 11) (some 28) (v := .bool z2) rfl rfl (by kernel_rfl) (by kernel_rfl) (by kernel_rfl) (fun _ _ _ h => h) (Or.inl ⟨by kernel_rfl, ?hyf11⟩) (by assumption) ?restf11
      case hyf11 => (intro x hSx; (try dsimp only at hSx); go_simp; first | done | with_reducible rfl)
      try simp only [Act.put, List.setIfInBounds_toArray, List.set_cons_zero, List.set_cons_succ]
      refine wpAnyH_takeD (i := 12) (some 4) (v := .bool z2) rfl rfl (by kernel_rfl) (by kernel_rfl) (by kernel_rfl) (fun _ _ _ h => h) (Or.inl ⟨by kernel_rfl, ?hyf12⟩) (by assumption) ?restf12
      case hyf12 => (intro x hSx; (try dsimp only at hSx); go_simp; first | done | with_reducible rfl)
      try simp only [Act.put, List.setIfInBounds_toArray, List.set_cons_zero, List.set_cons_succ]
      refine wpAnyH_done (by kernel_rfl) ?_ _
      go_wp2_with fail
      go_ret
      exact ⟨rfl, hb1.trans (hHeldf10.mono hb1.size)⟩

theorem outOf_truth (o : Go.Vf.Own) (a : Option Addr) (n c : Nat) (y : Bool) (w : World) :
    Calls Tryz.prog 133 #[fV o a n c, .iface 104 (.agg #[.bool y])] w fun e w' => e = .returned (.bool false) ∧ Below w.heap.size w w' := by
  have hb1 := (Below.refl w.heap.size w).alloc (Nat.le_refl _) (.cells (cellsF o a n c) 50)
  have hta := ta67_81 y
  unfold fV
  simp only [cellsF] at hb1
  go_enter Tryz.func133, Tryz.ntmps133
  go_wp2_with fail
  go_ret
  exact ⟨rfl, hb1⟩

end Go.Proofs.YtgefbgpfjbbeaaaGreatDoor
