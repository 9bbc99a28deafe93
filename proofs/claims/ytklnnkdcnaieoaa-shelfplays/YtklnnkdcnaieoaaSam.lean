/- What the statements' same does: are two rows of pairs the same (contracts; nothing is claimed here). -/
import Derived.Test.YtklnnkdcnaieoaaTld
namespace Go.Proofs.Ytklnnkdcnaieoaa
open Go.RowKit Go.Vf

theorem cellsP_at : ∀ (l : List Pr) (i : Nat) (hi : i < l.length), (cellsP l)[i * 2]? = some (.string l[i].1) ∧ (cellsP l)[i * 2 + 1]? = some (.string l[i].2)
  | [], i, hi => absurd hi (by simp)
  | p :: r, 0, _ => ⟨rfl, rfl⟩
  | p :: r, i + 1, hi => by
    have h := cellsP_at r i (by simpa using hi)
    have e : cellsP (p :: r) = [.string p.1, .string p.2] ++ cellsP r := rfl
    rw [e, show (i + 1) * 2 = i * 2 + 2 by omega]
    simpa using h
/-- A pair of a row that is not empty. -/
theorem PRow.at {w : World} {base : Nat} {v : Value} {l : List Pr} (h : PRow w base v l) (hl : 0 < l.length) : ∃ g c, base ≤ g ∧ g < w.heap.size ∧ v = .slice (some ⟨g, 0, none⟩) l.length c ∧ ∀ i (hi : i < l.length), w.cell? ⟨g, i * 2, none⟩ = some (.string l[i].1) ∧ w.cell? ⟨g, i * 2 + 1, none⟩ = some (.string l[i].2) := by
  rcases h.2 with ⟨_, h0⟩ | ⟨g, cap, cur, rfl, hb, hg, _, _, _, ht⟩
  · omega
  · refine ⟨g, cap, hb, (Array.getElem?_eq_some_iff.1 hg).1, rfl, fun i hi => ?_⟩
    have hB : Blk w g 45 cur := hg
    have q := cellsP_at l i hi
    have e : ∀ j u, (cellsP l)[j]? = some u → w.cell? ⟨g, j, none⟩ = some u := by
      intro j u hj
      rw [hB.cell j]
      rw [← ht] at hj
      rw [List.getElem?_take] at hj
      split at hj
      · simpa using hj
      · cases hj
    exact ⟨e _ _ q.1, e _ _ q.2⟩
set_option maxHeartbeats 4000000 in
theorem same_any (w : World) (b1 b2 : Nat) (v1 v2 : Value) (l1 l2 : List Pr) (h1 : PRow w b1 v1 l1) (h2 : PRow w b2 v2 l2) (hl : l1.length ≤ 4294967296) : Calls Try.prog 21 #[v1, v2] w fun e w' => e = .returned (.bool (decide (l1 = l2))) ∧ Below w.heap.size w w' := by
  obtain ⟨R, HR⟩ : ∃ R, Hid (R = decide (l1 = l2)) := ⟨_, rfl⟩
  rw [← HR.out]
  obtain ⟨a1, c1, e1⟩ := h1.shape
  obtain ⟨a2, c2, e2⟩ := h2.shape
  by_cases hll : l1.length = l2.length
  · have HH1 : Hid (PRow w b1 v1 l1) := h1
    have HH2 : Hid (PRow w b2 v2 l2) := h2
    have HLL : Hid (l1.length = l2.length) := hll
    rw [← hll] at e2
    obtain ⟨m, hm⟩ : ∃ m, m = l1.length := ⟨_, rfl⟩
    rw [← hm] at e1 e2
    have Hm : Hid (m = l1.length) := hm
    have hmb : m ≤ 4294967296 := by rw [hm]; exact hl
    subst e1 e2
    clear h1 h2 hll hm hl
    go_enter Try.func21, Try.ntmps21
    go_wp2
    go_loopw [5] (fun i wr => ∃ k : Nat, k ≤ m ∧ i = .int .i64 (k : Int) ∧ Hid (l1.take k = l2.take k) ∧ Hid (Below w.heap.size w wr)) (fun i _ => m - (intOf i).toNat)
    case atStart => exact ⟨0, Nat.zero_le _, rfl, by simp [Hid], Below.refl _ _⟩
    case round =>
      obtain ⟨k, hk, rfl, ht, hb⟩ := hrel
      by_cases hkm : k < m
      · have hk1 : k < l1.length := by rw [← Hm.out]; exact hkm
        have hk2 : k < l2.length := by rw [← HLL.out, ← Hm.out]; exact hkm
        obtain ⟨g1, cc1, _, hg1, q1, p1⟩ := PRow.at (HH1.out.old hb.out) (by omega)
        obtain ⟨g2, cc2, _, hg2, q2, p2⟩ := PRow.at (HH2.out.old hb.out) (by omega)
        obtain ⟨z0, z1⟩ := p1 k hk1
        obtain ⟨z2, z3⟩ := p2 k hk2
        obtain ⟨x1, hx1⟩ : ∃ x, x = l1[k] := ⟨_, rfl⟩
        obtain ⟨x2, hx2⟩ : ∃ x, x = l2[k] := ⟨_, rfl⟩
        rw [← hx1] at z0 z1
        rw [← hx2] at z2 z3
        have HX1 : Hid (x1 = l1[k]) := hx1
        have HX2 : Hid (x2 = l2[k]) := hx2
        injection q1 with q1 _ _
        injection q2 with q2 _ _
        subst q1 q2
        clear p1 p2 hx1 hx2
        obtain ⟨s1, t1⟩ := x1
        obtain ⟨s2, t2⟩ := x2
        dsimp only at z0 z1 z2 z3
        have hki : (k : Int) < (m : Int) := by omega
        go_upto_region 6 with fail
        by_cases hs : s1.toList = s2.toList
        · by_cases htt : t1.toList = t2.toList
          · have HS : Hid (s1 = s2) := ba_ext hs
            have HT : Hid (t1 = t2) := ba_ext htt
            go_region
            go_wp2
            go_roundw
            case rel =>
              refine ⟨k + 1, by omega, by go_num, ?_, hb.out.drew⟩
              show _ = _
              rw [List.take_succ_eq_append_getElem hk1, List.take_succ_eq_append_getElem hk2, ht.out, ← HX1.out, ← HX2.out, HS.out, HT.out]
            case measure =>
              simp [intOf]
              omega
          · skip
            have hne : ¬ l1 = l2 := by
              intro e
              have e2 : ((s1, t1) : Pr) = (s2, t2) := by rw [HX1.out, HX2.out]; simp only [e]
              injection e2 with e2 e3
              exact htt (by rw [e3])
            have HNE : Hid (¬ l1 = l2) := hne
            clear hne
            go_region
            go_wp2
            go_ret
            refine ⟨?_, hb.out.drew⟩
            rw [HR.out, decide_eq_false HNE.out]
            rfl
        · skip
          have hne : ¬ l1 = l2 := by
            intro e
            have e2 : ((s1, t1) : Pr) = (s2, t2) := by rw [HX1.out, HX2.out]; simp only [e]
            injection e2 with e2 e3
            exact hs (by rw [e2])
          have HNE : Hid (¬ l1 = l2) := hne
          clear hne
          go_region
          go_wp2
          go_ret
          refine ⟨?_, hb.out.drew⟩
          rw [HR.out, decide_eq_false HNE.out]
          rfl
      · have hkm2 : k = m := by omega
        have HQ : Hid (l1 = l2) := by
          have := ht.out
          rw [hkm2, Hm.out, List.take_length, HLL.out, List.take_length] at this
          exact this
        subst hkm2
        go_wp2
        go_ret
        refine ⟨?_, hb.out⟩
        rw [HR.out, decide_eq_true HQ.out]
        rfl
  · have HNE : Hid (¬ l1 = l2) := fun e => hll (by rw [e])
    obtain ⟨m1, hm1⟩ : ∃ m, m = l1.length := ⟨_, rfl⟩
    obtain ⟨m2, hm2⟩ : ∃ m, m = l2.length := ⟨_, rfl⟩
    rw [← hm1] at e1
    rw [← hm2] at e2
    have hmm : ¬ (m1 : Int) = (m2 : Int) := by rw [hm1, hm2]; omega
    subst e1 e2
    clear h1 h2 hll hm1 hm2 hl
    go_enter Try.func21, Try.ntmps21
    go_wp2
    go_ret
    refine ⟨?_, Below.refl _ _⟩
    rw [HR.out, decide_eq_false HNE.out]
    rfl
end Go.Proofs.Ytklnnkdcnaieoaa
