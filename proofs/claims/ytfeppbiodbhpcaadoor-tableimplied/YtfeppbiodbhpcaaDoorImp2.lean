/- TableImplied's walk (nothing is claimed here). -/
import Derived.Test.YtfeppbiodbhpcaaDoorImpW
namespace Go.Proofs.YtfeppbiodbhpcaaDoor
open Go.RowKit Go.Vf Go.Maps

theorem glob_grown {w w6 w7 : World} {row : Option Nat} (hg : Glob w) (hb : Below w.heap.size w w6) (hr : w6.grownBy w7 row) (hrow : ∀ g, row = some g → w.heap.size ≤ g) : Glob w7 ∧ Below w.heap.size w w7 := by
  have h := hb.trans (grown_cell0 hr hrow hb.size)
  exact ⟨hg.below h, h⟩
theorem same_self (l : List El) : decide (l = l) = true := by simp

set_option maxHeartbeats 4000000 in
set_option maxRecDepth 20000 in
theorem imp_walk (p q : Int) (w : World) (hg : Glob w) : Calls Tryd.prog 5 #[.int .i64 p, .int .i64 q] w fun e w' => e = .returned (.bool true) ∧ Below w.heap.size w w' := by
  have HI : Hid (isPtB p = true → isPtB q = true → ∃ x1 x2 y1 y2 : Int, impR p = [⟨false, x1, 32, 2⟩, ⟨false, x2, 0, 0⟩] ∧ impR q = [⟨false, y1, 32, 2⟩, ⟨false, y2, 0, 0⟩] ∧ (64319 < x1 ∧ x1 ≤ 65535 ∧ x2 ≤ 65535) ∧ ((x1 = y1 ∧ x2 = y2) ↔ p = q)) := fun hp hq => by
    obtain ⟨u, rfl, hu⟩ := isPtB_nat hp
    obtain ⟨v, rfl, hv⟩ := isPtB_nat hq
    have h1 := base_in u
    refine ⟨_, _, _, _, by unfold impR; rw [hp]; rfl, by unfold impR; rw [hq]; rfl, ⟨by omega, by omega, by omega⟩, ⟨fun h => imp_inj (by omega) (by omega) h.1 h.2, fun h => by rw [h]; exact ⟨rfl, rfl⟩⟩⟩
  have HN : Hid (∀ n, isPtB n = false → impR n = []) := fun n h => by unfold impR; rw [h]; rfl
  have HT : Hid (∀ n, isPtB n = true → (impR n).length = 2) := fun n h => by unfold impR; rw [h]; rfl
  have HL : Hid (∀ n, (impR n).length ≤ 2) := fun n => by unfold impR; split <;> simp
  go_enter Tryd.func5, Tryd.ntmps5
  go_wp2_with fail
  refine (implied_any p w).mono ?_
  rintro _ w1 ⟨v1, rfl, o1, b1, _⟩
  go_wp2_with fail
  refine (implied_any q w1).mono ?_
  rintro _ w2 ⟨v2, rfl, o2, b2, _⟩
  go_wp2_with fail
  refine (rImplied_any p w2).mono ?_
  rintro _ w3 ⟨v3, rfl, o3, b3⟩
  have b02 := below_two b1 b2
  have b03 := below_two b02 b3
  have b13 := below_two b2 b3
  have e1 := o1.els.below b13 (Nat.le_refl _)
  go_wp2_with fail
  refine (sameEls_any v1 v3 (impR p) (impR p) _ _ w3 e1 o3.els (by have := HL.out p; omega) (by have := HL.out p; omega)).mono ?_
  rw [same_self]
  rintro _ w4 ⟨rfl, b4⟩
  have b04 := below_two b03 b4
  go_wp2_with fail
  refine (rImplied_any q w4).mono ?_
  rintro _ w5 ⟨v4, rfl, o4, b5⟩
  have b05 := below_two b04 b5
  have b25 := below_two (below_two b3 b4) b5
  have e2 := o2.els.below b25 (Nat.le_refl _)
  go_wp2_with fail
  refine (sameEls_any v2 v4 (impR q) (impR q) _ _ w5 e2 o4.els (by have := HL.out q; omega) (by have := HL.out q; omega)).mono ?_
  rw [same_self]
  rintro _ w6 ⟨rfl, b6⟩
  have b06 := below_two b05 b6
  have b16 := below_two (below_two (below_two b13 b4) b5) b6
  have b26 := below_two b25 b6
  have b36 := below_two (below_two b4 b5) b6
  have e16 := o1.els.below b16 (Nat.le_refl _)
  have e26 := o2.els.below b26 (Nat.le_refl _)
  have e36 := o3.els.below b36 (Nat.le_refl _)
  have x1o : XOwn w6 w.heap.size v1 (impR p).length := xown (own_after o1 b16)
  have hrow : ∀ g, v1.ownBlock = some g → w.heap.size ≤ g := fun g hg => (own_ge o1 hg).1
  have hne : ∀ b off n c, v3 = .slice (some ⟨b, off, none⟩) n c → some b ≠ v1.ownBlock := fun b off n c e hv => by
    have h1 := row_lt o1 hv.symm
    have h2 := (own_ge o3 (j := b) (by rw [e]; rfl)).1
    have := b2.size
    omega
  have HW : Hid (∀ w7, w6.grownBy w7 v1.ownBlock → Glob w7 ∧ Below w.heap.size w w7 ∧ Els w3.heap.size w7 v3 (impR p)) := fun w7 h => ⟨(glob_grown hg b06 h hrow).1, (glob_grown hg b06 h hrow).2, els_grown e36 b36.size h hne⟩
  have hwr : ∀ n, Calls Tryd.prog 22 #[v1] (w6.drewN n) fun e w' => e = .returned (.tuple #[]) ∧ w6.grownBy w' v1.ownBlock := fun n => (written_any w.heap.size v1 (impR p).length (w6.drewN n) (by have := HL.out p; omega) b06.size x1o).mono fun e w' h => ⟨h.1, h.2.os, h.2.tape, h.2.output, h.2.size, h.2.block⟩
  have hL3 : w3.heap.size ≤ w6.heap.size := b36.size
  clear b02 b03 b13 e1 b04 b05 b25 e2 b06 b16 b26 b36 e36 x1o hrow hne o3 o4 b1 b2 b3 b4 b5 b6
  obtain ⟨a1, c1, hv1⟩ := row_val o1
  obtain ⟨a2, c2, hv2⟩ := row_val o2
  subst hv1 hv2
  cases hp : isPtB p with
  | false =>
    have h0 : (impR p).length = 0 := by rw [HN.out p hp]; rfl
    rw [h0] at hwr HW ⊢
    clear HI hp h0 o1 o2 e16 e26
    go_wp2_with fail
    refine (hwr 0).mono ?_
    rintro _ w7 ⟨rfl, hgr7⟩
    obtain ⟨g7, b7, e37⟩ := HW.out w7 hgr7
    have hs7 := hgr7.size
    clear hgr7 hwr
    go_wp2_with fail
    refine (awake_glob w7 g7).mono ?_
    rintro _ w8 ⟨rfl, b8⟩
    have b08 := below_two b7 b8
    have e38 := e37.below b8 (by omega)
    go_wp2_with fail
    refine (implied_any p w8).mono ?_
    rintro _ w9 ⟨v9, rfl, o9, b9, _⟩
    have b09 := below_two b08 b9
    have e39 := e38.below b9 (by have := b8.size; omega)
    go_wp2_with fail
    refine (sameEls_any v9 v3 (impR p) (impR p) _ _ w9 o9.els e39 (by have := HL.out p; omega) (by have := HL.out p; omega)).mono ?_
    rw [same_self]
    rintro _ w10 ⟨rfl, b10⟩
    have bz := below_two b09 b10
    go_wp2
    go_ret
    exact ⟨rfl, bz⟩
  | true =>
    have h2 : (impR p).length = 2 := HT.out p hp
    cases hq : isPtB q with
    | false =>
      have h0 : (impR q).length = 0 := by rw [HN.out q hq]; rfl
      rw [h2] at hwr HW ⊢
      rw [h0]
      clear HI hp hq h0 h2 o1 o2 e16 e26
      go_wp2_with fail
      refine (hwr 0).mono ?_
      rintro _ w7 ⟨rfl, hgr7⟩
      obtain ⟨g7, b7, e37⟩ := HW.out w7 hgr7
      have hs7 := hgr7.size
      clear hgr7 hwr
      go_wp2_with fail
      refine (awake_glob w7 g7).mono ?_
      rintro _ w8 ⟨rfl, b8⟩
      have b08 := below_two b7 b8
      have e38 := e37.below b8 (by omega)
      go_wp2_with fail
      refine (implied_any p w8).mono ?_
      rintro _ w9 ⟨v9, rfl, o9, b9, _⟩
      have b09 := below_two b08 b9
      have e39 := e38.below b9 (by have := b8.size; omega)
      go_wp2_with fail
      refine (sameEls_any v9 v3 (impR p) (impR p) _ _ w9 o9.els e39 (by have := HL.out p; omega) (by have := HL.out p; omega)).mono ?_
      rw [same_self]
      rintro _ w10 ⟨rfl, b10⟩
      have bz := below_two b09 b10
      go_wp2
      go_ret
      exact ⟨rfl, bz⟩
    | true =>
      have h2q : (impR q).length = 2 := HT.out q hq
      obtain ⟨x1, x2, y1, y2, i1, i2, hx, hiff⟩ := HI.out hp hq
      rw [i1] at e16
      rw [i2] at e26
      obtain ⟨ba, oa, rfl, _, m1, _, _⟩ := e16.at (j := 0) (by simp)
      obtain ⟨ba', oa', ea, _, m2, _, _⟩ := e16.at (j := 1) (by simp)
      cases ea
      obtain ⟨bb, ob, rfl, _, m3, _, _⟩ := e26.at (j := 0) (by simp)
      obtain ⟨bb', ob', eb, _, m4, _, _⟩ := e26.at (j := 1) (by simp)
      cases eb
      simp only [List.getElem_cons_zero, List.getElem_cons_succ, Nat.zero_mul, Nat.one_mul, Nat.add_zero] at m1 m2 m3 m4
      rw [h2] at hwr HW ⊢
      rw [h2q]
      obtain ⟨hx1, hx2, hx3⟩ := hx
      have HIFF : Hid ((x1 = y1 ∧ x2 = y2) ↔ p = q) := hiff
      clear HI hp hq h2 h2q o1 o2 e16 e26 i1 i2 hiff
      by_cases h1 : x1 = y1
      · by_cases h2 : x2 = y2
        · have hpq : p = q := HIFF.out.1 ⟨h1, h2⟩
          have k1 : (x1 == y1) = true := by rw [h1]; simp
          have k2 : (x2 == y2) = true := by rw [h2]; simp
          have k3 : (p == q) = true := by rw [hpq]; simp
          clear h1 h2 hpq
          clear HIFF
          go_upto_region 6 with fail
          go_quiet (fail)
          go_wp2_with fail
          refine (hwr _).mono ?_
          rintro _ w7 ⟨rfl, hgr7⟩
          obtain ⟨g7, b7, e37⟩ := HW.out w7 hgr7
          have hs7 := hgr7.size
          clear hgr7 hwr
          go_wp2_with fail
          refine (awake_glob w7 g7).mono ?_
          rintro _ w8 ⟨rfl, b8⟩
          have b08 := below_two b7 b8
          have e38 := e37.below b8 (by omega)
          go_wp2_with fail
          refine (implied_any p w8).mono ?_
          rintro _ w9 ⟨v9, rfl, o9, b9, _⟩
          have b09 := below_two b08 b9
          have e39 := e38.below b9 (by have := b8.size; omega)
          go_wp2_with fail
          refine (sameEls_any v9 v3 (impR p) (impR p) _ _ w9 o9.els e39 (by have := HL.out p; omega) (by have := HL.out p; omega)).mono ?_
          rw [same_self]
          rintro _ w10 ⟨rfl, b10⟩
          have bz := below_two b09 b10
          go_wp2
          go_ret
          exact ⟨rfl, bz⟩
        · have hpq : ¬ p = q := fun e => h2 (HIFF.out.2 e).2
          have k1 : (x1 == y1) = true := by rw [h1]; simp
          have k2 : (x2 == y2) = false := beq_eq_false_iff_ne.2 h2
          have k3 : (p == q) = false := beq_eq_false_iff_ne.2 hpq
          clear h1 h2 hpq
          clear HIFF
          go_upto_region 6 with fail
          go_quiet (fail)
          go_wp2_with fail
          refine (hwr _).mono ?_
          rintro _ w7 ⟨rfl, hgr7⟩
          obtain ⟨g7, b7, e37⟩ := HW.out w7 hgr7
          have hs7 := hgr7.size
          clear hgr7 hwr
          go_wp2_with fail
          refine (awake_glob w7 g7).mono ?_
          rintro _ w8 ⟨rfl, b8⟩
          have b08 := below_two b7 b8
          have e38 := e37.below b8 (by omega)
          go_wp2_with fail
          refine (implied_any p w8).mono ?_
          rintro _ w9 ⟨v9, rfl, o9, b9, _⟩
          have b09 := below_two b08 b9
          have e39 := e38.below b9 (by have := b8.size; omega)
          go_wp2_with fail
          refine (sameEls_any v9 v3 (impR p) (impR p) _ _ w9 o9.els e39 (by have := HL.out p; omega) (by have := HL.out p; omega)).mono ?_
          rw [same_self]
          rintro _ w10 ⟨rfl, b10⟩
          have bz := below_two b09 b10
          go_wp2
          go_ret
          exact ⟨rfl, bz⟩
      · have hpq : ¬ p = q := fun e => h1 (HIFF.out.2 e).1
        have k1 : (x1 == y1) = false := beq_eq_false_iff_ne.2 h1
        have k3 : (p == q) = false := beq_eq_false_iff_ne.2 hpq
        clear h1 hpq
        clear HIFF
        go_upto_region 6 with fail
        go_quiet (fail)
        go_wp2_with fail
        refine (hwr _).mono ?_
        rintro _ w7 ⟨rfl, hgr7⟩
        obtain ⟨g7, b7, e37⟩ := HW.out w7 hgr7
        have hs7 := hgr7.size
        clear hgr7 hwr
        go_wp2_with fail
        refine (awake_glob w7 g7).mono ?_
        rintro _ w8 ⟨rfl, b8⟩
        have b08 := below_two b7 b8
        have e38 := e37.below b8 (by omega)
        go_wp2_with fail
        refine (implied_any p w8).mono ?_
        rintro _ w9 ⟨v9, rfl, o9, b9, _⟩
        have b09 := below_two b08 b9
        have e39 := e38.below b9 (by have := b8.size; omega)
        go_wp2_with fail
        refine (sameEls_any v9 v3 (impR p) (impR p) _ _ w9 o9.els e39 (by have := HL.out p; omega) (by have := HL.out p; omega)).mono ?_
        rw [same_self]
        rintro _ w10 ⟨rfl, b10⟩
        have bz := below_two b09 b10
        go_wp2
        go_ret
        exact ⟨rfl, bz⟩

theorem imp_open (p : Int) (_ : (Lit.int .i64 p).wf = true) (q : Int) (_ : (Lit.int .i64 q).wf = true) (w : World) (hg : Glob w) : Calls Tryd.prog 5 #[.int .i64 p, .int .i64 q] w fun e w' => e = .returned (.bool true) ∧ Below w.heap.size w w' := imp_walk p q w hg

end Go.Proofs.YtfeppbiodbhpcaaDoor
