/- What fit's unfit does with null, another kind, a truth, a number (contracts; nothing is claimed here). -/
import Derived.Test.YtgefbgpfjbbeaaaGreatDoorJ7
import Derived.Test.YtgefbgpfjbbeaaaGreatDoorFOob
namespace Go.Proofs.YtgefbgpfjbbeaaaGreatDoor
open Go.RowKit Go.Vf

/-- What an error comes of, by its number. -/
def WhyAt (w : World) (why : Value) (y : Int) : Prop :=
  (y = 0 ∧ why = .nilIface) ∨ (y = 30 ∧ why = .iface 32 (.int .i64 30)) ∨ (y ≠ 0 ∧ ∃ F a n c, why = .iface 79 (.pointer (some ⟨F, 0, none⟩)) ∧ Blk w F 82 #[.int .i64 y, .int .i64 0, .slice a n c, .nilIface])
/-- An error of fit's: none, or a Fault. -/
def ErrPost (r : Option (Int × Int × List Int × Int)) (w : World) (e : Ending) (w' : World) : Prop :=
  Below w.heap.size w w' ∧ match r with
  | none => e = .returned .nilIface
  | some (c, a, P, y) => ∃ v why, e = .returned v ∧ FaultAt w' w.heap.size v c a P why ∧ WhyAt w' why y
theorem FaultAt.mono {w : World} {b b' : Nat} {v : Value} {c a : Int} {P : List Int} {why : Value} (h : FaultAt w b v c a P why) (hb : b' ≤ b) : FaultAt w b' v c a P why := by
  obtain ⟨F, x, y, h1, h2, h3, h4, h5⟩ := h
  exact ⟨F, x, y, h1, Nat.le_trans hb h2, h3, h4.mono hb, h5⟩
set_option maxHeartbeats 1000000 in
theorem unfit_null (o : Go.Vf.Own) (a : Option Addr) (n c : Nat) (w : World) : Calls Tryz.prog 92 #[fV o a n c, .nilIface] w (ErrPost (if o.nulls = 0 then some (121, 0, [], 0) else none) w) := by
  have hb1 := (Below.refl w.heap.size w).alloc (Nat.le_refl _) (.cells (cellsF o a n c) 50)
  have hN1 := Blk.new w 50 (cellsF o a n c)
  have hu := unfitNull_any o a n c (w.alloc (.cells (cellsF o a n c) 50))
  obtain ⟨c0, c1, c2, c3, c4, c5, c6, c7, c8, c9, c10, c11, c12, c13⟩ := cells14 hN1
  unfold fV at hu ⊢
  simp only [cellsF] at hb1 hu c0 c1 c2 c3 c4 c5 c6 c7 c8 c9 c10 c11 c12 c13
  obtain ⟨R, hR⟩ : ∃ R : Option (Int × Int × List Int × Int), (if o.nulls = 0 then some (121, 0, [], 0) else none) = R := ⟨_, rfl⟩
  obtain ⟨q, hq⟩ : ∃ q : Int, (if o.nulls = 0 then 121 else 0) = q := ⟨_, rfl⟩
  have HQ : Hid ((q = 0 ∧ R = none) ∨ (q = 121 ∧ R = some (121, 0, [], 0))) := by
    by_cases h : o.nulls = 0
    · rw [if_pos h] at hR hq; exact .inr ⟨hq.symm, hR.symm⟩
    · rw [if_neg h] at hR hq; exact .inl ⟨hq.symm, hR.symm⟩
  rw [hR]
  rw [hq] at hu
  clear hR hq hN1
  go_enter Tryz.func92, Tryz.ntmps92
  go_wp2_with fail
  refine hu.mono ?_
  rintro e w2 ⟨hb2, ⟨h0, rfl⟩ | ⟨hne, v, rfl, hF⟩⟩
  · have hRq : R = none := by rcases HQ.out with ⟨_, h⟩ | ⟨h, _⟩; exact h; omega
    clear HQ
    go_wp2_with fail
    go_ret
    exact ⟨hb1.trans (hb2.mono hb1.size), by rw [hRq]; rfl⟩
  · have hRq : q = 121 ∧ R = some (121, 0, [], 0) := by rcases HQ.out with ⟨h, _⟩ | h; exact absurd h hne; exact h
    obtain ⟨hq1, hRq⟩ := hRq
    rw [hq1] at hF
    clear HQ hne hq1
    go_wp2_with fail
    go_ret
    exact ⟨hb1.trans (hb2.mono hb1.size), by rw [hRq]; exact ⟨_, _, rfl, hF.mono hb1.size, .inl ⟨rfl, rfl⟩⟩⟩
set_option maxHeartbeats 2000000 in
set_option maxRecDepth 20000 in
theorem unfit_kind (o : Go.Vf.Own) (a : Option Addr) (n c : Nat) (t : TypeId) (x : Value) (p : Prt) (hk0 : 1 ≤ o.kind) (hk7 : o.kind ≤ 7) (hp0 : 0 ≤ p.kind) (hne : p.kind ≠ o.kind) (lo n₀ : Nat) (w : World) (hn₀ : n₀ ≤ w.heap.size) (h : VIn w lo n₀ (.iface t x) p) :
    Calls Tryz.prog 92 #[fV o a n c, .iface t x] w (ErrPost (some (120, 0, [], 4)) w) := by
  have hb1 := (Below.refl w.heap.size w).alloc (Nat.le_refl _) (.cells (cellsF o a n c) 50)
  have hN1 := Blk.new w 50 (cellsF o a n c)
  have hw := want_any (.iface t x) p o.kind (by omega) (by omega) hp0 lo n₀ _ (h.old hb1 hn₀)
  have hwn : wnt o.kind p.kind = 4 := by rw [wnt, if_neg (by omega), if_neg hne]
  rw [hwn] at hw
  have c1 : (w.alloc (.cells (cellsF o a n c) 50)).cell? ⟨w.heap.size, 1, none⟩ = some (.int .u8 o.kind) := hN1.cell 1
  unfold fV
  simp only [cellsF] at hb1 hw c1
  clear h hN1
  go_enter Tryz.func92, Tryz.ntmps92
  go_wp2_with fail
  refine hw.mono ?_
  rintro e w2 ⟨⟨h0, _⟩ | ⟨_, b, rfl, hB⟩, hb2⟩
  · cases h0
  have hb02 := hb1.trans (hb2.mono hb1.size)
  have hb3 := (Below.refl w2.heap.size w2).alloc (Nat.le_refl _) (.cells #[.int .i64 120, .int .i64 0, .slice none 0 0, .iface 79 (.pointer (some ⟨b, 0, none⟩))] 82)
  have hF := fault_new w w2 hb02 120 0 (.iface 79 (.pointer (some ⟨b, 0, none⟩)))
  have hB3 := hB.old hb3
  clear hw c1
  go_wp2_with fail
  go_ret
  exact ⟨hb02.trans (hb3.mono hb02.size), _, _, rfl, hF, .inr (.inr ⟨by decide, b, _, _, _, rfl, hB3⟩)⟩

theorem want_ok {v : Value} {p : Prt} {k : Int} (hk0 : 1 ≤ k) (hk7 : k ≤ 7) (hp : p.kind = k) (lo n₀ : Nat) (w : World) (h : VIn w lo n₀ v p) : Calls Tryz.prog 40 #[v, .int .u8 k] w fun e w' => e = .returned (.tuple #[v, .nilIface]) ∧ Below w.heap.size w w' := by
  refine (want_any v p k (by omega) (by omega) (by omega) lo n₀ w h).mono ?_
  have hwn : wnt k p.kind = 0 := by rw [wnt, if_neg (by omega), if_pos hp]
  rw [hwn]
  rintro e w' ⟨⟨_, he⟩ | ⟨h0, _⟩, hb⟩
  · exact ⟨he, hb⟩
  · exact absurd rfl h0
set_option maxHeartbeats 2000000 in
set_option maxRecDepth 20000 in
theorem unfit_truth (o : Go.Vf.Own) (a : Option Addr) (n c : Nat) (y : Bool) (hk : o.kind = 1) (w : World) :
    Calls Tryz.prog 92 #[fV o a n c, .iface 104 (.agg #[.bool y])] w (ErrPost none w) := by
  have hb1 := (Below.refl w.heap.size w).alloc (Nat.le_refl _) (.cells (cellsF o a n c) 50)
  have hN1 := Blk.new w 50 (cellsF o a n c)
  have hw := want_ok (p := .mk 1 y false ⟨#[]⟩ ⟨#[]⟩ []) (k := o.kind) (by omega) (by omega) hk.symm 0 0 (w.alloc (.cells (cellsF o a n c) 50)) (VIn.truth (w := w.alloc (.cells (cellsF o a n c) 50)) (lo := 0) (n₀ := 0) y)
  have hob := fun W => outOf_truth o a n c y W
  have t1 := ta58_81 y
  have t2 := ta44_81 y
  unfold fV at hob ⊢
  obtain ⟨c0, c1, c2, c3, c4, c5, c6, c7, c8, c9, c10, c11, c12, c13⟩ := cells14 hN1
  simp only [cellsF] at hb1 hw c0 c1 c2 c3 c4 c5 c6 c7 c8 c9 c10 c11 c12 c13 hN1
  clear hk
  go_enter Tryz.func92, Tryz.ntmps92
  go_wp2_with fail
  refine hw.mono ?_
  rintro _ w2 ⟨rfl, hb2⟩
  have hb02 := hb1.trans (hb2.mono hb1.size)
  have hN2 := hN1.old hb2
  clear c0 c1 c2 c3 c4 c5 c6 c7 c8 c9 c10 c11 c12 c13 hw
  obtain ⟨c0, c1, c2, c3, c4, c5, c6, c7, c8, c9, c10, c11, c12, c13⟩ := hN2.c14
  have hob2 := hob w2
  go_wp2_with fail
  refine hob2.mono ?_
  rintro _ w3 ⟨rfl, hb3⟩
  go_wp2_with fail
  go_ret
  exact ⟨hb02.trans (hb3.mono hb02.size), rfl⟩
set_option maxHeartbeats 2000000 in
set_option maxRecDepth 20000 in
theorem unfit_num (o : Go.Vf.Own) (a : Option Addr) (n c : Nat) (b : Bool) (m : ByteArray) (hk : o.kind = 2) (hs1 : o.lm.size ≤ 17179869184) (hs2 : o.hm.size ≤ 17179869184) (hs3 : m.size ≤ 17179869184) (hm : chk b m.data.toList = 0) (hq : o.bnd = true → chk o.ln o.lm.data.toList = 0 ∧ chk o.hn o.hm.data.toList = 0) (w : World) :
    Calls Tryz.prog 92 #[fV o a n c, .iface 106 (.agg #[.bool b, .string m])] w (ErrPost (if oobR o b m then some (123, 0, [], 0) else none) w) := by
  have hb1 := (Below.refl w.heap.size w).alloc (Nat.le_refl _) (.cells (cellsF o a n c) 50)
  have hN1 := Blk.new w 50 (cellsF o a n c)
  have hw := want_ok (p := .mk 2 false b m ⟨#[]⟩ []) (k := o.kind) (by omega) (by omega) hk.symm 0 0 (w.alloc (.cells (cellsF o a n c) 50)) (VIn.num (w := w.alloc (.cells (cellsF o a n c) 50)) (lo := 0) (n₀ := 0) b m)
  have hob := fun W => outOf_num o a n c b m hs1 hs2 hs3 hm hq W
  have t1 := ta58_83 b m
  have t2 := ta44_83 b m
  unfold fV at hob ⊢
  obtain ⟨c0, c1, c2, c3, c4, c5, c6, c7, c8, c9, c10, c11, c12, c13⟩ := cells14 hN1
  simp only [cellsF] at hb1 hw c0 c1 c2 c3 c4 c5 c6 c7 c8 c9 c10 c11 c12 c13 hN1
  generalize oobR o b m = z at hob ⊢
  obtain ⟨R, hR⟩ : ∃ R : Option (Int × Int × List Int × Int), (if z = true then some (123, 0, [], 0) else none) = R := ⟨_, rfl⟩
  rw [hR]
  have HR : Hid ((if z = true then some (123, 0, [], 0) else none) = R) := hR
  clear hk hR hq hm
  go_enter Tryz.func92, Tryz.ntmps92
  go_wp2_with fail
  refine hw.mono ?_
  rintro _ w2 ⟨rfl, hb2⟩
  have hb02 := hb1.trans (hb2.mono hb1.size)
  have hN2 := hN1.old hb2
  clear c0 c1 c2 c3 c4 c5 c6 c7 c8 c9 c10 c11 c12 c13 hw
  obtain ⟨c0, c1, c2, c3, c4, c5, c6, c7, c8, c9, c10, c11, c12, c13⟩ := hN2.c14
  have hob2 := hob w2
  go_wp2_with fail
  refine hob2.mono ?_
  rintro _ w3 ⟨rfl, hb3⟩
  have hb03 := hb02.trans (hb3.mono hb02.size)
  cases z with
  | true =>
    have hF := fault_new w w3 hb03 123 0 .nilIface
    have hb4 := hb03.alloc hb03.size (.cells #[.int .i64 123, .int .i64 0, .slice none 0 0, .nilIface] 82)
    have hRq : R = some (123, 0, [], 0) := HR.out.symm
    clear HR
    go_wp2_with fail
    go_ret
    exact ⟨hb4, by rw [hRq]; exact ⟨_, _, rfl, hF, .inl ⟨rfl, rfl⟩⟩⟩
  | false =>
    have hRq : R = none := HR.out.symm
    clear HR
    go_wp2_with fail
    go_ret
    exact ⟨hb03, by rw [hRq]; rfl⟩

end Go.Proofs.YtgefbgpfjbbeaaaGreatDoor
