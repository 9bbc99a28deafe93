/- Contracts and lemmas (nothing is claimed here). -/
import Derived.Test.YtkjoomdglealmaaGreatDoorJ12
import Derived.Test.YtkjoomdglealmaaGreatDoorJ6
import Derived.Test.YtkjoomdglealmaaGreatDoorJ14
namespace Go.Proofs.YtkjoomdglealmaaGreatDoor
open Go.RowKit Go.Vf

theorem taNumN (b : Bool) (m : ByteArray) (w : World) : (Instr.typeAssert (.iface 130 (.agg #[.bool b, .string m])) 37 203 true).run Tryz.prog w = .ok (.tuple #[.iface 130 (.agg #[.bool b, .string m]), .bool true]) w := by kernel_rfl
def oobR (o : Go.Vf.Own) (b : Bool) (m : ByteArray) : Bool := o.bnd && (decide (0 < cmpN o.ln o.lm.data.toList b m.data.toList) || decide (0 < cmpN b m.data.toList o.hn o.hm.data.toList))
set_option maxHeartbeats 4000000 in
set_option maxRecDepth 20000 in
theorem outOf_num (o : Go.Vf.Own) (a : Option Addr) (n c : Nat) (b : Bool) (m : ByteArray) (hs1 : o.lm.size ≤ 17179869184) (hs2 : o.hm.size ≤ 17179869184) (hs3 : m.size ≤ 17179869184) (hk : chk b m.data.toList = 0) (hq : o.bnd = true → chk o.ln o.lm.data.toList = 0 ∧ chk o.hn o.hm.data.toList = 0) (w : World) :
    Calls Tryz.prog 73 #[fV o a n c, .iface 130 (.agg #[.bool b, .string m])] w fun e w' => e = .returned (.bool (oobR o b m)) ∧ Below w.heap.size w w' := by
  have hb1 := (Below.refl w.heap.size w).alloc (Nat.le_refl _) (.cells (cellsF o a n c) 57)
  have hN1 := Blk.new w 57 (cellsF o a n c)
  have hta := taNumN b m
  have hmn := mNumN b m
  obtain ⟨c0, c1, c2, c3, c4, c5, c6, c7, c8, c9, c10, c11, c12, c13⟩ := cells14 hN1
  unfold fV oobR
  simp only [cellsF] at hb1 hN1 c0 c1 c2 c3 c4 c5 c6 c7 c8 c9 c10 c11 c12 c13
  cases hbd : o.bnd with
  | false =>
    rw [hbd] at c4
    simp only [Bool.false_and]
    rw [hbd] at hb1
    go_enter Tryz.func73, Tryz.ntmps73
    go_wp2_with fail
    go_ret
    exact ⟨rfl, hb1⟩
  | true =>
    obtain ⟨hq1, hq2⟩ := hq hbd
    have ha1 := fun W => above_any o.ln o.lm b m hs1 hs3 hq1 hk W
    have ha2 := fun W => above_any b m o.hn o.hm hs3 hs2 hk hq2 W
    simp only [Bool.true_and]
    generalize decide (0 < cmpN o.ln o.lm.data.toList b m.data.toList) = z1 at ha1 ⊢
    generalize decide (0 < cmpN b m.data.toList o.hn o.hm.data.toList) = z2 at ha2 ⊢
    rw [hbd] at hb1 hN1 c0 c1 c2 c3 c4 c5 c6 c7 c8 c9 c10 c11 c12 c13
    clear hq hq1 hq2 hk
    go_enter Tryz.func73, Tryz.ntmps73
    go_upto_region 3 with fail
    try rw [hbd]
    generalize w.alloc (.cells #[.string o.name, .int .u8 o.kind, .bool o.down, .int .u8 o.nulls, .bool true, .bool o.ln, .string o.lm, .bool o.hn, .string o.hm, .int .i64 o.most, .int .i64 o.str, .bool o.shf, .bool o.bck, .slice a n c] 57) = w1 at hb1 hN1 c0 c1 c2 c3 c4 c5 c6 c7 c8 c9 c10 c11 c12 c13 ⊢
    have hlt := hN1.lt
    have hc : ∀ x, Below w1.heap.size w1 x → x.cell? ⟨w.heap.size, 5, none⟩ = some (.bool o.ln) ∧ x.cell? ⟨w.heap.size, 6, none⟩ = some (.string o.lm) ∧ x.cell? ⟨w.heap.size, 7, none⟩ = some (.bool o.hn) ∧ x.cell? ⟨w.heap.size, 8, none⟩ = some (.string o.hm) := fun x hx => ⟨(hx.cell (p := ⟨w.heap.size, 5, none⟩) hlt).trans c5, (hx.cell (p := ⟨w.heap.size, 6, none⟩) hlt).trans c6, (hx.cell (p := ⟨w.heap.size, 7, none⟩) hlt).trans c7, (hx.cell (p := ⟨w.heap.size, 8, none⟩) hlt).trans c8⟩
    have HKeep : Hid (∀ x y, Below w1.heap.size w1 x → Below x.heap.size x y → Below w1.heap.size w1 y) := fun x y h1 h2 => h1.trans (h2.mono h1.size)
    clear c0 c1 c2 c3 c4 c5 c6 c7 c8 c9 c10 c11 c12 c13 hN1
    refine wp_region_held_drew (S := fun x => Below w1.heap.size w1 x) (by kernel_rfl) ((Below.refl _ _).drew) (fun hHeldx => ?_)
    refine wpAnyH_takeD (i := 0) (some 17) (v := .pointer (some ⟨w.heap.size, 5, none⟩)) rfl rfl (by kernel_rfl) (by kernel_rfl) (by kernel_rfl) (fun _ _ _ h => h) (Or.inl ⟨by kernel_rfl, ?hyx0⟩) (by assumption) ?restx0
    case hyx0 => (intro x hSx; (try dsimp only at hSx); go_simp; first | done | with_reducible rfl)
    try simp only [Act.put, List.setIfInBounds_toArray, List.set_cons_zero, List.set_cons_succ]
    refine wpAnyH_takeD (i := 1) (some 18) (v := .agg #[.bool o.ln, .string o.lm]) rfl rfl (by kernel_rfl) (by kernel_rfl) (by kernel_rfl) (fun _ _ _ h => h) (Or.inl ⟨by kernel_rfl, ?hyx1⟩) (by assumption) ?restx1
    case hyx1 => (intro x hSx; obtain ⟨p5, p6, p7, p8⟩ := hc _ hSx; (try dsimp only at hSx); go_simp; first | done | with_reducible rfl)
    try simp only [Act.put, List.setIfInBounds_toArray, List.set_cons_zero, List.set_cons_succ]
    refine wpAnyH_takeD (i := 2) (some 19) (v := .iface 130 (.agg #[.bool b, .string m])) rfl rfl (by kernel_rfl) (by kernel_rfl) (by kernel_rfl) (fun _ _ _ h => h) (Or.inl ⟨by kernel_rfl, ?hyx2⟩) (by assumption) ?restx2
    case hyx2 => (intro x hSx; (try dsimp only at hSx); go_simp; first | done | with_reducible rfl)
    try simp only [Act.put, List.setIfInBounds_toArray, List.set_cons_zero, List.set_cons_succ]
    refine wpAnyH_ready (rs := [3]) (by kernel_rfl) (by simp) ?_
    refine AllReadyH.cons rfl (fun K hK => ?_) AllReadyH.nil
    go_simp
    go_wp2_with (go_at_call 342; refine (numNum b m _).mono ?_; rintro e yx3 ⟨rfl, hb3⟩)
    refine hK.out _ _ (HKeep.out _ _ hHeldx hb3) (fun hHeldx3 => ?_)
    clear hK K
    try simp only [Act.put, List.setIfInBounds_toArray, List.set_cons_zero, List.set_cons_succ]
    refine wpAnyH_ready (rs := [4]) (by kernel_rfl) (by simp) ?_
    refine AllReadyH.cons rfl (fun K hK => ?_) AllReadyH.nil
    go_simp
    go_wp2_with (go_at_call 110; refine (ha1 _).mono ?_; rintro e yx4 ⟨rfl, hb4⟩)
    refine hK.out _ _ (HKeep.out _ _ hHeldx3 hb4) (fun hHeldx4 => ?_)
    clear hK K
    try simp only [Act.put, List.setIfInBounds_toArray, List.set_cons_zero, List.set_cons_succ]
    refine wpAnyH_takeD (i := 5) (some 22) (v := .bool z1) rfl rfl (by kernel_rfl) (by kernel_rfl) (by kernel_rfl) (fun _ _ _ h => h) (Or.inl ⟨by kernel_rfl, ?hyx5⟩) (by assumption) ?restx5
    case hyx5 => (intro x hSx; (try dsimp only at hSx); go_simp; first | done | with_reducible rfl)
    try simp only [Act.put, List.setIfInBounds_toArray, List.set_cons_zero, List.set_cons_succ]
    cases z1 with
    | true =>
      refine wpAnyH_takeD (i := 6) (some 23) (v := undef) rfl rfl (by kernel_rfl) (by kernel_rfl) (by kernel_rfl) (fun _ _ _ h => h) (Or.inr ⟨by kernel_rfl, rfl⟩) (by assumption) ?_
      try simp only [Act.put, List.setIfInBounds_toArray, List.set_cons_zero, List.set_cons_succ]
      refine wpAnyH_takeD (i := 7) (some 24) (v := undef) rfl rfl (by kernel_rfl) (by kernel_rfl) (by kernel_rfl) (fun _ _ _ h => h) (Or.inr ⟨by kernel_rfl, rfl⟩) (by assumption) ?_
      try simp only [Act.put, List.setIfInBounds_toArray, List.set_cons_zero, List.set_cons_succ]
      refine wpAnyH_takeD (i := 8) (some 25) (v := undef) rfl rfl (by kernel_rfl) (by kernel_rfl) (by kernel_rfl) (fun _ _ _ h => h) (Or.inr ⟨by kernel_rfl, rfl⟩) (by assumption) ?_
      try simp only [Act.put, List.setIfInBounds_toArray, List.set_cons_zero, List.set_cons_succ]
      refine wpAnyH_takeD (i := 9) (some 26) (v := undef) rfl rfl (by kernel_rfl) (by kernel_rfl) (by kernel_rfl) (fun _ _ _ h => h) (Or.inr ⟨by kernel_rfl, rfl⟩) (by assumption) ?_
      try simp only [Act.put, List.setIfInBounds_toArray, List.set_cons_zero, List.set_cons_succ]
      refine wpAnyH_takeD (i := 10) (some 27) (v := undef) rfl rfl (by kernel_rfl) (by kernel_rfl) (by kernel_rfl) (fun _ _ _ h => h) (Or.inr ⟨by kernel_rfl, rfl⟩) (by assumption) ?_
      try simp only [Act.put, List.setIfInBounds_toArray, List.set_cons_zero, List.set_cons_succ]
      refine wpAnyH_takeD (i := 11) (some 28) (v := .bool true) rfl rfl (by kernel_rfl) (by kernel_rfl) (by kernel_rfl) (fun _ _ _ h => h) (Or.inl ⟨by kernel_rfl, ?hyt11⟩) (by assumption) ?restt11
      case hyt11 => (intro x hSx; (try dsimp only at hSx); go_simp; first | done | with_reducible rfl)
      try simp only [Act.put, List.setIfInBounds_toArray, List.set_cons_zero, List.set_cons_succ]
      refine wpAnyH_takeD (i := 12) (some 4) (v := .bool true) rfl rfl (by kernel_rfl) (by kernel_rfl) (by kernel_rfl) (fun _ _ _ h => h) (Or.inl ⟨by kernel_rfl, ?hyt12⟩) (by assumption) ?restt12
      case hyt12 => (intro x hSx; (try dsimp only at hSx); go_simp; first | done | with_reducible rfl)
      try simp only [Act.put, List.setIfInBounds_toArray, List.set_cons_zero, List.set_cons_succ]
      refine wpAnyH_done (by kernel_rfl) ?_ _
      go_wp2_with fail
      go_ret
      exact ⟨rfl, hb1.trans (hHeldx4.mono hb1.size)⟩
    | false =>
      refine wpAnyH_takeD (i := 6) (some 23) (v := .iface 130 (.agg #[.bool b, .string m])) rfl rfl (by kernel_rfl) (by kernel_rfl) (by kernel_rfl) (fun _ _ _ h => h) (Or.inl ⟨by kernel_rfl, ?hyf6⟩) (by assumption) ?restf6
      case hyf6 => (intro x hSx; (try dsimp only at hSx); go_simp; first | done | with_reducible rfl)
      try simp only [Act.put, List.setIfInBounds_toArray, List.set_cons_zero, List.set_cons_succ]
      refine wpAnyH_takeD (i := 8) (some 25) (v := .pointer (some ⟨w.heap.size, 7, none⟩)) rfl rfl (by kernel_rfl) (by kernel_rfl) (by kernel_rfl) (fun _ _ _ h => h) (Or.inl ⟨by kernel_rfl, ?hyf8⟩) (by assumption) ?restf8
      case hyf8 => (intro x hSx; (try dsimp only at hSx); go_simp; first | done | with_reducible rfl)
      try simp only [Act.put, List.setIfInBounds_toArray, List.set_cons_zero, List.set_cons_succ]
      refine wpAnyH_takeD (i := 9) (some 26) (v := .agg #[.bool o.hn, .string o.hm]) rfl rfl (by kernel_rfl) (by kernel_rfl) (by kernel_rfl) (fun _ _ _ h => h) (Or.inl ⟨by kernel_rfl, ?hyf9⟩) (by assumption) ?restf9
      case hyf9 => (intro x hSx; obtain ⟨p5, p6, p7, p8⟩ := hc _ hSx; (try dsimp only at hSx); go_simp; first | done | with_reducible rfl)
      try simp only [Act.put, List.setIfInBounds_toArray, List.set_cons_zero, List.set_cons_succ]
      refine wpAnyH_ready (rs := [7]) (by kernel_rfl) (by simp) ?_
      refine AllReadyH.cons rfl (fun K hK => ?_) AllReadyH.nil
      go_simp
      go_wp2_with (go_at_call 342; refine (numNum b m _).mono ?_; rintro e yf7 ⟨rfl, hb7⟩)
      refine hK.out _ _ (HKeep.out _ _ hHeldx4 hb7) (fun hHeldf7 => ?_)
      clear hK K
      try simp only [Act.put, List.setIfInBounds_toArray, List.set_cons_zero, List.set_cons_succ]
      refine wpAnyH_ready (rs := [10]) (by kernel_rfl) (by simp) ?_
      refine AllReadyH.cons rfl (fun K hK => ?_) AllReadyH.nil
      go_simp
      go_wp2_with (go_at_call 110; refine (ha2 _).mono ?_; rintro e yf10 ⟨rfl, hb10⟩)
      refine hK.out _ _ (HKeep.out _ _ hHeldf7 hb10) (fun hHeldf10 => ?_)
      clear hK K
      try simp only [Act.put, List.setIfInBounds_toArray, List.set_cons_zero, List.set_cons_succ]
      refine wpAnyH_takeD (i := 11) (some 28) (v := .bool z2) rfl rfl (by kernel_rfl) (by kernel_rfl) (by kernel_rfl) (fun _ _ _ h => h) (Or.inl ⟨by kernel_rfl, ?hyf11⟩) (by assumption) ?restf11
      case hyf11 => (intro x hSx; (try dsimp only at hSx); go_simp; first | done | with_reducible rfl)
      try simp only [Act.put, List.setIfInBounds_toArray, List.set_cons_zero, List.set_cons_succ]
      refine wpAnyH_takeD (i := 12) (some 4) (v := .bool z2) rfl rfl (by kernel_rfl) (by kernel_rfl) (by kernel_rfl) (fun _ _ _ h => h) (Or.inl ⟨by kernel_rfl, ?hyf12⟩) (by assumption) ?restf12
      case hyf12 => (intro x hSx; (try dsimp only at hSx); go_simp; first | done | with_reducible rfl)
      try simp only [Act.put, List.setIfInBounds_toArray, List.set_cons_zero, List.set_cons_succ]
      refine wpAnyH_done (by kernel_rfl) ?_ _
      go_wp2_with fail
      go_ret
      exact ⟨rfl, hb1.trans (hHeldf10.mono hb1.size)⟩

theorem outOf_truth (o : Go.Vf.Own) (a : Option Addr) (n c : Nat) (y : Bool) (w : World) :
    Calls Tryz.prog 73 #[fV o a n c, .iface 128 (.agg #[.bool y])] w fun e w' => e = .returned (.bool false) ∧ Below w.heap.size w w' := by
  have hb1 := (Below.refl w.heap.size w).alloc (Nat.le_refl _) (.cells (cellsF o a n c) 57)
  have hta := ta67_81 y
  unfold fV
  simp only [cellsF] at hb1
  go_enter Tryz.func73, Tryz.ntmps73
  go_wp2_with fail
  go_ret
  exact ⟨rfl, hb1⟩

end Go.Proofs.YtkjoomdglealmaaGreatDoor

namespace Go.Proofs.YtkjoomdglealmaaGreatDoor
open Go.RowKit Go.Vf

def WhyAt (w : World) (why : Value) (y : Int) : Prop :=
  (y = 0 ∧ why = .nilIface) ∨ (y = 30 ∧ why = .iface 34 (.int .i64 30)) ∨ (y ≠ 0 ∧ ∃ F a n c, why = .iface 98 (.pointer (some ⟨F, 0, none⟩)) ∧ Blk w F 100 #[.int .i64 y, .int .i64 0, .slice a n c, .nilIface])
def ErrPost (r : Option (Int × Int × List Int × Int)) (w : World) (e : Ending) (w' : World) : Prop :=
  Below w.heap.size w w' ∧ match r with
  | none => e = .returned .nilIface
  | some (c, a, P, y) => ∃ v why, e = .returned v ∧ FaultAt w' w.heap.size v c a P why ∧ WhyAt w' why y
theorem FaultAt.mono {w : World} {b b' : Nat} {v : Value} {c a : Int} {P : List Int} {why : Value} (h : FaultAt w b v c a P why) (hb : b' ≤ b) : FaultAt w b' v c a P why := by
  obtain ⟨F, x, y, h1, h2, h3, h4, h5⟩ := h
  exact ⟨F, x, y, h1, Nat.le_trans hb h2, h3, h4.mono hb, h5⟩
set_option maxHeartbeats 1000000 in
theorem unfit_null (o : Go.Vf.Own) (a : Option Addr) (n c : Nat) (w : World) : Calls Tryz.prog 46 #[fV o a n c, .nilIface] w (ErrPost (if o.nulls = 0 then some (121, 0, [], 0) else none) w) := by
  have hb1 := (Below.refl w.heap.size w).alloc (Nat.le_refl _) (.cells (cellsF o a n c) 57)
  have hN1 := Blk.new w 57 (cellsF o a n c)
  have hu := unfitNull_any o a n c (w.alloc (.cells (cellsF o a n c) 57))
  obtain ⟨c0, c1, c2, c3, c4, c5, c6, c7, c8, c9, c10, c11, c12, c13⟩ := cells14 hN1
  unfold fV at hu ⊢
  simp only [cellsF] at hb1 hu c0 c1 c2 c3 c4 c5 c6 c7 c8 c9 c10 c11 c12 c13
  obtain ⟨R, hR⟩ : ∃ R : Option (Int × Int × List Int × Int), (if o.nulls = 0 then some (121, 0, [], 0) else none) = R := ⟨_, rfl⟩
  obtain ⟨q, hq⟩ : ∃ q : Int, (if o.nulls = 0 then 121 else 0) = q := ⟨_, rfl⟩
  have HQ : Hid ((q = 0 ∧ R = none) ∨ (q = 121 ∧ R = some (121, 0, [], 0))) := by
    by_cases h : o.nulls = 0
    · rw [if_pos h] at hR hq; exact .inr ⟨hq.symm, hR.symm⟩
    · rw [if_neg h] at hR hq; exact .inl ⟨hq.symm, hR.symm⟩
  rw [hR]
  rw [hq] at hu
  clear hR hq hN1
  go_enter Tryz.func46, Tryz.ntmps46
  go_wp2_with fail
  refine hu.mono ?_
  rintro e w2 ⟨hb2, ⟨h0, rfl⟩ | ⟨hne, v, rfl, hF⟩⟩
  · have hRq : R = none := by rcases HQ.out with ⟨_, h⟩ | ⟨h, _⟩; exact h; omega
    clear HQ
    go_wp2_with fail
    go_ret
    exact ⟨hb1.trans (hb2.mono hb1.size), by rw [hRq]; rfl⟩
  · have hRq : q = 121 ∧ R = some (121, 0, [], 0) := by rcases HQ.out with ⟨h, _⟩ | h; exact absurd h hne; exact h
    obtain ⟨hq1, hRq⟩ := hRq
    rw [hq1] at hF
    clear HQ hne hq1
    go_wp2_with fail
    go_ret
    exact ⟨hb1.trans (hb2.mono hb1.size), by rw [hRq]; exact ⟨_, _, rfl, hF.mono hb1.size, .inl ⟨rfl, rfl⟩⟩⟩
set_option maxHeartbeats 2000000 in
set_option maxRecDepth 20000 in
theorem unfit_kind (o : Go.Vf.Own) (a : Option Addr) (n c : Nat) (t : TypeId) (x : Value) (p : Prt) (hk0 : 1 ≤ o.kind) (hk7 : o.kind ≤ 7) (hp0 : 0 ≤ p.kind) (hne : p.kind ≠ o.kind) (lo n₀ : Nat) (w : World) (hn₀ : n₀ ≤ w.heap.size) (h : VIn w lo n₀ (.iface t x) p) :
    Calls Tryz.prog 46 #[fV o a n c, .iface t x] w (ErrPost (some (120, 0, [], 4)) w) := by
  have hb1 := (Below.refl w.heap.size w).alloc (Nat.le_refl _) (.cells (cellsF o a n c) 57)
  have hN1 := Blk.new w 57 (cellsF o a n c)
  have hw := want_any (.iface t x) p o.kind (by omega) (by omega) hp0 lo n₀ _ (h.old hb1 hn₀)
  have hwn : wnt o.kind p.kind = 4 := by rw [wnt, if_neg (by omega), if_neg hne]
  rw [hwn] at hw
  have c1 : (w.alloc (.cells (cellsF o a n c) 57)).cell? ⟨w.heap.size, 1, none⟩ = some (.int .u8 o.kind) := hN1.cell 1
  unfold fV
  simp only [cellsF] at hb1 hw c1
  clear h hN1
  go_enter Tryz.func46, Tryz.ntmps46
  go_wp2_with fail
  refine hw.mono ?_
  rintro e w2 ⟨⟨h0, _⟩ | ⟨_, b, rfl, hB⟩, hb2⟩
  · cases h0
  have hb02 := hb1.trans (hb2.mono hb1.size)
  have hb3 := (Below.refl w2.heap.size w2).alloc (Nat.le_refl _) (.cells #[.int .i64 120, .int .i64 0, .slice none 0 0, .iface 98 (.pointer (some ⟨b, 0, none⟩))] 100)
  have hF := fault_new w w2 hb02 120 0 (.iface 98 (.pointer (some ⟨b, 0, none⟩)))
  have hB3 := hB.old hb3
  clear hw c1
  go_wp2_with fail
  go_ret
  exact ⟨hb02.trans (hb3.mono hb02.size), _, _, rfl, hF, .inr (.inr ⟨by decide, b, _, _, _, rfl, hB3⟩)⟩

theorem want_ok {v : Value} {p : Prt} {k : Int} (hk0 : 1 ≤ k) (hk7 : k ≤ 7) (hp : p.kind = k) (lo n₀ : Nat) (w : World) (h : VIn w lo n₀ v p) : Calls Tryz.prog 70 #[v, .int .u8 k] w fun e w' => e = .returned (.tuple #[v, .nilIface]) ∧ Below w.heap.size w w' := by
  refine (want_any v p k (by omega) (by omega) (by omega) lo n₀ w h).mono ?_
  have hwn : wnt k p.kind = 0 := by rw [wnt, if_neg (by omega), if_pos hp]
  rw [hwn]
  rintro e w' ⟨⟨_, he⟩ | ⟨h0, _⟩, hb⟩
  · exact ⟨he, hb⟩
  · exact absurd rfl h0
set_option maxHeartbeats 2000000 in
set_option maxRecDepth 20000 in
theorem unfit_truth (o : Go.Vf.Own) (a : Option Addr) (n c : Nat) (y : Bool) (hk : o.kind = 1) (w : World) :
    Calls Tryz.prog 46 #[fV o a n c, .iface 128 (.agg #[.bool y])] w (ErrPost none w) := by
  have hb1 := (Below.refl w.heap.size w).alloc (Nat.le_refl _) (.cells (cellsF o a n c) 57)
  have hN1 := Blk.new w 57 (cellsF o a n c)
  have hw := want_ok (p := .mk 1 y false ⟨#[]⟩ ⟨#[]⟩ []) (k := o.kind) (by omega) (by omega) hk.symm 0 0 (w.alloc (.cells (cellsF o a n c) 57)) (VIn.truth (w := w.alloc (.cells (cellsF o a n c) 57)) (lo := 0) (n₀ := 0) y)
  have hob := fun W => outOf_truth o a n c y W
  have t1 := ta58_81 y
  have t2 := ta44_81 y
  unfold fV at hob ⊢
  obtain ⟨c0, c1, c2, c3, c4, c5, c6, c7, c8, c9, c10, c11, c12, c13⟩ := cells14 hN1
  simp only [cellsF] at hb1 hw c0 c1 c2 c3 c4 c5 c6 c7 c8 c9 c10 c11 c12 c13 hN1
  clear hk
  go_enter Tryz.func46, Tryz.ntmps46
  go_wp2_with fail
  refine hw.mono ?_
  rintro _ w2 ⟨rfl, hb2⟩
  have hb02 := hb1.trans (hb2.mono hb1.size)
  have hN2 := hN1.old hb2
  clear c0 c1 c2 c3 c4 c5 c6 c7 c8 c9 c10 c11 c12 c13 hw
  obtain ⟨c0, c1, c2, c3, c4, c5, c6, c7, c8, c9, c10, c11, c12, c13⟩ := hN2.c14
  have hob2 := hob w2
  go_wp2_with fail
  refine hob2.mono ?_
  rintro _ w3 ⟨rfl, hb3⟩
  go_wp2_with fail
  go_ret
  exact ⟨hb02.trans (hb3.mono hb02.size), rfl⟩
set_option maxHeartbeats 2000000 in
set_option maxRecDepth 20000 in
theorem unfit_num (o : Go.Vf.Own) (a : Option Addr) (n c : Nat) (b : Bool) (m : ByteArray) (hk : o.kind = 2) (hs1 : o.lm.size ≤ 17179869184) (hs2 : o.hm.size ≤ 17179869184) (hs3 : m.size ≤ 17179869184) (hm : chk b m.data.toList = 0) (hq : o.bnd = true → chk o.ln o.lm.data.toList = 0 ∧ chk o.hn o.hm.data.toList = 0) (w : World) :
    Calls Tryz.prog 46 #[fV o a n c, .iface 130 (.agg #[.bool b, .string m])] w (ErrPost (if oobR o b m then some (123, 0, [], 0) else none) w) := by
  have hb1 := (Below.refl w.heap.size w).alloc (Nat.le_refl _) (.cells (cellsF o a n c) 57)
  have hN1 := Blk.new w 57 (cellsF o a n c)
  have hw := want_ok (p := .mk 2 false b m ⟨#[]⟩ []) (k := o.kind) (by omega) (by omega) hk.symm 0 0 (w.alloc (.cells (cellsF o a n c) 57)) (VIn.num (w := w.alloc (.cells (cellsF o a n c) 57)) (lo := 0) (n₀ := 0) b m)
  have hob := fun W => outOf_num o a n c b m hs1 hs2 hs3 hm hq W
  have t1 := ta58_83 b m
  have t2 := ta44_83 b m
  unfold fV at hob ⊢
  obtain ⟨c0, c1, c2, c3, c4, c5, c6, c7, c8, c9, c10, c11, c12, c13⟩ := cells14 hN1
  simp only [cellsF] at hb1 hw c0 c1 c2 c3 c4 c5 c6 c7 c8 c9 c10 c11 c12 c13 hN1
  generalize oobR o b m = z at hob ⊢
  obtain ⟨R, hR⟩ : ∃ R : Option (Int × Int × List Int × Int), (if z = true then some (123, 0, [], 0) else none) = R := ⟨_, rfl⟩
  rw [hR]
  have HR : Hid ((if z = true then some (123, 0, [], 0) else none) = R) := hR
  clear hk hR hq hm
  go_enter Tryz.func46, Tryz.ntmps46
  go_wp2_with fail
  refine hw.mono ?_
  rintro _ w2 ⟨rfl, hb2⟩
  have hb02 := hb1.trans (hb2.mono hb1.size)
  have hN2 := hN1.old hb2
  clear c0 c1 c2 c3 c4 c5 c6 c7 c8 c9 c10 c11 c12 c13 hw
  obtain ⟨c0, c1, c2, c3, c4, c5, c6, c7, c8, c9, c10, c11, c12, c13⟩ := hN2.c14
  have hob2 := hob w2
  go_wp2_with fail
  refine hob2.mono ?_
  rintro _ w3 ⟨rfl, hb3⟩
  have hb03 := hb02.trans (hb3.mono hb02.size)
  cases z with
  | true =>
    have hF := fault_new w w3 hb03 123 0 .nilIface
    have hb4 := hb03.alloc hb03.size (.cells #[.int .i64 123, .int .i64 0, .slice none 0 0, .nilIface] 100)
    have hRq : R = some (123, 0, [], 0) := HR.out.symm
    clear HR
    go_wp2_with fail
    go_ret
    exact ⟨hb4, by rw [hRq]; exact ⟨_, _, rfl, hF, .inl ⟨rfl, rfl⟩⟩⟩
  | false =>
    have hRq : R = none := HR.out.symm
    clear HR
    go_wp2_with fail
    go_ret
    exact ⟨hb03, by rw [hRq]; rfl⟩

end Go.Proofs.YtkjoomdglealmaaGreatDoor

namespace Go.Proofs.YtkjoomdglealmaaGreatDoor
open Go.RowKit Go.Vf

def bytE (q at' : Int) : Option (Int × Int × List Int × Int) := if q = 0 then none else some (q, if q = 125 then at' else 0, [], if q = 125 then 30 else 0)
theorem plain_val {q A : Int} {Y : Value} {b : Nat} {e : Ending} {w' : World} (h : (q = 0 ∧ e = .returned .nilIface) ∨ (q ≠ 0 ∧ ∃ v, e = .returned v ∧ FaultAt w' b v q A [] Y)) : ∃ v, e = .returned v ∧ ((q = 0 ∧ v = .nilIface) ∨ (q ≠ 0 ∧ FaultAt w' b v q A [] Y)) := by
  rcases h with ⟨h0, he⟩ | ⟨h0, v, he, hF⟩
  · exact ⟨_, he, .inl ⟨h0, rfl⟩⟩
  · exact ⟨v, he, .inr ⟨h0, hF⟩⟩
set_option maxHeartbeats 4000000 in
set_option maxRecDepth 20000 in
theorem unfit_raw (o : Go.Vf.Own) (a : Option Addr) (n c : Nat) (k : Int) (r : ByteArray) (hkr : isRawK k = true) (hk : o.kind = k) (hk1 : 1 ≤ k) (hk7 : k ≤ 7) (hr : r.size ≤ 281474976710656) (at' : Int) (w : World) (ht : Tabs w) (hU : ∀ W, Tabs W → Calls Tryz.prog 108 #[.string r] W fun e w' => e = .returned (.int .i64 at') ∧ Below W.heap.size W w') :
    Calls Tryz.prog 46 #[fV o a n c, .iface 132 (.agg #[.int .u8 k, .string r])] w (ErrPost (bytE (bytR o r.size at') at') w) := by
  have hb1 := (Below.refl w.heap.size w).alloc (Nat.le_refl _) (.cells (cellsF o a n c) 57)
  have hN1 := Blk.new w 57 (cellsF o a n c)
  have hw := want_ok (p := .mk k false false ⟨#[]⟩ r []) (k := o.kind) (by omega) (by omega) hk.symm 0 0 (w.alloc (.cells (cellsF o a n c) 57)) (VIn.raw (w := w.alloc (.cells (cellsF o a n c) 57)) (lo := 0) (n₀ := 0) k r hkr)
  have hub := fun W hT => unfitBytes_any o a n c r hr at' W hT hU
  have hT1 : Tabs (w.alloc (.cells (cellsF o a n c) 57)) := ht.below ht.size hb1
  have t1 := ta58_85 k r
  have hmb := mBytesR k r
  unfold fV at hub ⊢
  obtain ⟨c0, c1, c2, c3, c4, c5, c6, c7, c8, c9, c10, c11, c12, c13⟩ := cells14 hN1
  simp only [cellsF] at hb1 hw c0 c1 c2 c3 c4 c5 c6 c7 c8 c9 c10 c11 c12 c13 hN1 hT1
  generalize bytR o r.size at' = q at hub ⊢
  obtain ⟨R, hR⟩ : ∃ R, bytE q at' = R := ⟨_, rfl⟩
  rw [hR]
  have HR : Hid (bytE q at' = R) := hR
  clear hk hR hU ht
  go_enter Tryz.func46, Tryz.ntmps46
  go_wp2_with fail
  refine hw.mono ?_
  rintro _ w2 ⟨rfl, hb2⟩
  have hb02 := hb1.trans (hb2.mono hb1.size)
  have hN2 := hN1.old hb2
  have hT2 : Tabs w2 := hT1.below hT1.size hb2
  clear c0 c1 c2 c3 c4 c5 c6 c7 c8 c9 c10 c11 c12 c13 hw
  have HKeep : Hid (∀ x y, Below w2.heap.size w2 x → Below x.heap.size x y → Below w2.heap.size w2 y) := fun x y h1 h2 => h1.trans (h2.mono h1.size)
  have hTT : ∀ x, Below w2.heap.size w2 x → Tabs x := fun x hx => hT2.below hT2.size hx
  go_upto_region 9 with fail
  refine wp_region_held_drew (S := fun x => Below w2.heap.size w2 x) (by kernel_rfl) ((Below.refl _ _).drew) (fun hHeld => ?_)
  refine wpAnyH_takeD (i := 0) (some 30) (v := .agg #[.string o.name, .int .u8 o.kind, .bool o.down, .int .u8 o.nulls, .bool o.bnd, .bool o.ln, .string o.lm, .bool o.hn, .string o.hm, .int .i64 o.most, .int .i64 o.str, .bool o.shf, .bool o.bck, .slice a n c]) rfl rfl (by kernel_rfl) (by kernel_rfl) (by kernel_rfl) (fun _ _ _ h => h) (Or.inl ⟨by kernel_rfl, ?hy0⟩) (by assumption) ?rest0
  case hy0 => (intro x hSx; obtain ⟨p0, p1, p2, p3, p4, p5, p6, p7, p8, p9, p10, p11, p12, p13⟩ := (hN2.old hSx).c14; (try dsimp only at hSx); go_simp; first | done | with_reducible rfl)
  try simp only [Act.put, List.setIfInBounds_toArray, List.set_cons_zero, List.set_cons_succ]
  refine wpAnyH_takeD (i := 1) (some 31) (v := .iface 132 (.agg #[.int .u8 k, .string r])) rfl rfl (by kernel_rfl) (by kernel_rfl) (by kernel_rfl) (fun _ _ _ h => h) (Or.inl ⟨by kernel_rfl, ?hy1⟩) (by assumption) ?rest1
  case hy1 => (intro x hSx; (try dsimp only at hSx); go_simp; first | done | with_reducible rfl)
  try simp only [Act.put, List.setIfInBounds_toArray, List.set_cons_zero, List.set_cons_succ]
  refine wpAnyH_ready (rs := [2]) (by kernel_rfl) (by simp) ?_
  refine AllReadyH.cons rfl (fun K hK => ?_) AllReadyH.nil
  go_simp
  go_wp2_with (go_at_call 344; refine (bytesRaw k r _).mono ?_; rintro e y2 ⟨rfl, hb3⟩)
  refine hK.out _ _ (HKeep.out _ _ hHeld hb3) (fun hHeld2 => ?_)
  clear hK K
  try simp only [Act.put, List.setIfInBounds_toArray, List.set_cons_zero, List.set_cons_succ]
  refine wpAnyH_ready (rs := [3]) (by kernel_rfl) (by simp) ?_
  refine AllReadyH.cons rfl (fun K hK => ?_) AllReadyH.nil
  go_simp
  go_wp2_with (go_at_call 71; refine (hub _ (hTT _ hHeld2)).mono ?_; rintro e y3 ⟨hb4, hpost⟩; obtain ⟨v, rfl, hv⟩ := plain_val hpost)
  have hbF := HKeep.out _ _ hHeld2 hb4
  have hb0F := hb02.trans (hbF.mono hb02.size)
  have hbs := hb02.trans (hHeld2.mono hb02.size)
  rcases hv with ⟨h0, rfl⟩ | ⟨hne, hF⟩
  · refine hK.out _ _ hbF (fun hHeld3 => ?_)
    clear hK K
    try simp only [Act.put, List.setIfInBounds_toArray, List.set_cons_zero, List.set_cons_succ]
    refine wpAnyH_takeD (i := 4) (some 4) (v := .nilIface) rfl rfl (by kernel_rfl) (by kernel_rfl) (by kernel_rfl) (fun _ _ _ h => h) (Or.inl ⟨by kernel_rfl, ?hyz⟩) (by assumption) ?restz
    case hyz => (intro x hSx; (try dsimp only at hSx); go_simp; first | done | with_reducible rfl)
    try simp only [Act.put, List.setIfInBounds_toArray, List.set_cons_zero, List.set_cons_succ]
    refine wpAnyH_done (by kernel_rfl) ?_ _
    have hRq : R = none := by rw [← HR.out, bytE, if_pos h0]
    clear HR hub
    go_wp2_with fail
    go_ret
    exact ⟨hb0F, by first | rfl | (rw [hRq]; rfl)⟩
  · refine hK.out _ _ hbF (fun hHeld3 => ?_)
    clear hK K
    try simp only [Act.put, List.setIfInBounds_toArray, List.set_cons_zero, List.set_cons_succ]
    refine wpAnyH_takeD (i := 4) (some 4) (v := v) rfl rfl (by kernel_rfl) (by kernel_rfl) (by kernel_rfl) (fun _ _ _ h => h) (Or.inl ⟨by kernel_rfl, ?hyq⟩) (by assumption) ?restq
    case hyq => (intro x hSx; (try dsimp only at hSx); go_simp; first | done | with_reducible rfl)
    try simp only [Act.put, List.setIfInBounds_toArray, List.set_cons_zero, List.set_cons_succ]
    refine wpAnyH_done (by kernel_rfl) ?_ _
    have hRq : R = some (q, if q = 125 then at' else 0, [], if q = 125 then 30 else 0) := by rw [← HR.out, bytE, if_neg hne]
    have hWy : ∀ W, WhyAt W (if q = 125 then .iface 34 (.int .i64 30) else .nilIface) (if q = 125 then 30 else 0) := fun W => by
      by_cases h : q = 125
      · rw [if_pos h, if_pos h]; exact .inr (.inl ⟨rfl, rfl⟩)
      · rw [if_neg h, if_neg h]; exact .inl ⟨rfl, rfl⟩
    have HP : Hid (ErrPost R w (.returned v) y3) := by
      show ErrPost R w (.returned v) y3
      rw [hRq]
      exact ⟨hb0F, v, _, rfl, hF.mono hbs.size, hWy _⟩
    clear HR hub hF hWy hRq
    go_wp2_with fail
    go_ret
    exact HP.out

end Go.Proofs.YtkjoomdglealmaaGreatDoor

namespace Go.Proofs.YtkjoomdglealmaaGreatDoor
open Go.RowKit Go.Vf

theorem cell_one (q : Int) (w : World) : ∀ j, j < [q].length → (w.alloc (.cells #[.int .i64 q] 3)).cell? ((⟨w.heap.size, 0, none⟩ : Addr).add j) = some (.int .i64 ([q][j]?.getD 0)) := fun j hj => by
  have hj0 : j = 0 := by simp at hj; omega
  subst hj0
  simp [Addr.add]
theorem IOwn.cellAt {w : World} {base : Nat} {a : Option Addr} {n c : Nat} {zs : List Int} (h : IOwn w base (.slice a n c) zs) {i : Nat} (hi : i < zs.length) : ∃ g, a = some ⟨g, 0, none⟩ ∧ g < w.heap.size ∧ w.cell? ⟨g, i, none⟩ = some (.int .i64 zs[i]) := by
  rcases h.form with ⟨_, e⟩ | ⟨g, cap, e, _, hlt, _, hc, _⟩
  · rw [e] at hi; simp at hi
  · simp only [Value.slice.injEq] at e
    obtain ⟨rfl, _, _⟩ := e
    refine ⟨g, rfl, hlt, ?_⟩
    have := hc i hi
    simpa [List.getElem?_eq_getElem hi] using this
set_option maxHeartbeats 1000000 in
set_option maxRecDepth 20000 in
theorem rInts_any {a : Option Addr} {c : Nat} {zs : List Int} {base : Nat} {w : World} (hin : IOwn w base (.slice a zs.length c) zs) (hl : zs.length ≤ 1000000000000) :
    Calls Tryz.prog 147 #[.slice a zs.length c] w fun e w' => ∃ a' c', e = .returned (.slice a' zs.length c') ∧ IOwn w' w.heap.size (.slice a' zs.length c') zs ∧ Below w.heap.size w w' := by
  generalize hk : zs.length = k at hl ⊢
  have HK : Hid (zs.length = k) := hk
  have HIN : Aside (IOwn w base (.slice a k c) zs) := by rw [hk] at hin; exact hin
  clear hin hk
  go_enter Tryz.func147, Tryz.ntmps147
  go_wp2_with fail
  go_loopw [3, 4] (fun ov iv wr => ∃ (i : Nat) (acc : List Int) (oa : Option Addr) (oc : Nat), i ≤ k ∧ iv = .int .i64 i ∧ ov = .slice oa acc.length oc ∧ Aside (IOwn wr w.heap.size (.slice oa acc.length oc) acc) ∧ Hid (acc ++ zs.drop i = zs ∧ acc.length = i) ∧ Below w.heap.size w wr) (fun _ iv _ => k - (intOf iv).toNat)
  case atStart => exact ⟨0, [], none, 0, by omega, rfl, rfl, IOwn.nil _ _, ⟨by simp, rfl⟩, Below.refl _ _⟩
  case round =>
    obtain ⟨i, acc, oa, oc, hi, rfl, rfl, HO, HA, hbr⟩ := hrel
    by_cases hlt : i < k
    · have hltp : i < zs.length := by rw [HK.out]; exact hlt
      obtain ⟨g, hao, hglt, hcell⟩ := IOwn.cellAt HIN.out hltp
      have hcj := (hbr.cell (p := ⟨g, i, none⟩) hglt).trans hcell
      have HA2 : Hid ((acc ++ [zs[i]]) ++ zs.drop (i + 1) = zs ∧ (acc ++ [zs[i]]).length = i + 1) := ⟨by
        rw [List.append_assoc, List.singleton_append, ← List.drop_eq_getElem_cons hltp]
        exact HA.out.1, by rw [List.length_append, HA.out.2]; rfl⟩
      generalize zs[i] = q at hcj HA2
      subst hao
      have hbA := (Below.refl wr.heap.size wr).alloc (Nat.le_refl _) (.cells #[.int .i64 q] 3)
      have HO2 : Aside (IOwn (wr.alloc (.cells #[.int .i64 q] 3)) w.heap.size (.slice oa acc.length oc) acc) := own_after HO.out hbA
      have hszA : w.heap.size ≤ (wr.alloc (.cells #[.int .i64 q] 3)).heap.size := Nat.le_trans hbr.size hbA.size
      have hl2 : acc.length + [q].length ≤ 1099511627776 := by have := HA.out.2; simp; omega
      have HC : Hid (∀ j, j < [q].length → (wr.alloc (.cells #[.int .i64 q] 3)).cell? ((⟨wr.heap.size, 0, none⟩ : Addr).add j) = some (.int .i64 ([q][j]?.getD 0))) := cell_one q wr
      clear hcell hltp HO HA hbA
      go_wp2_with (first | (at_builtin; refine wpList_append_ints rfl _ _ rfl w.heap.size _ acc rfl HO2.out [q] ⟨wr.heap.size, 0, none⟩ _ rfl HC.out hl2 hszA ?_; intro a4 c4 w4 hown4 hgr4 hnil4 hat4))
      have hb4 : Below w.heap.size w w4 := (hbr.alloc hbr.size _).grown hgr4 hszA (fun j hj => (own_ge HO2.out hj).1)
      have HO4 : Aside (IOwn w4 w.heap.size (.slice a4 (acc ++ [q]).length c4) (acc ++ [q])) := by
        rw [List.length_append]; exact hown4
      clear hown4 hgr4 hnil4 hat4
      go_roundw
      case rel => exact ⟨i + 1, acc ++ [q], a4, c4, by omega, by simp, by simp, HO4, HA2, hb4⟩
      case measure => simp only [intOf]; omega
    · have hfin : acc = zs := by have := HA.out.1; rwa [List.drop_of_length_le (by rw [HK.out]; omega), List.append_nil] at this
      have hk2 : acc.length = k := by rw [hfin, HK.out]
      have HO4 := HO.out
      rw [hk2] at HO4
      rw [hk2]
      clear HA hk2 HO
      go_wp2_with fail
      go_ret
      exact ⟨_, _, rfl, hfin ▸ HO4, hbr⟩

end Go.Proofs.YtkjoomdglealmaaGreatDoor
