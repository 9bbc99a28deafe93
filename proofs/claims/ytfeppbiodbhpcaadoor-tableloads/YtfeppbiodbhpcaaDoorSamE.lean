/- What dovetailref06.SameEntries does of lists that are the same (a contract; nothing is claimed here). -/
import Derived.Test.YtfeppbiodbhpcaaDoorRefA
import Derived.Test.YtfeppbiodbhpcaaDoorRefI
namespace Go.Proofs.YtfeppbiodbhpcaaDoor
open Go.RowKit Go.Vf Go.Maps

set_option maxHeartbeats 2000000 in
theorem sameEls_q (va vb : Value) (a b : List El) (n₁ n₂ : Nat) (w : World) (ha : Els n₁ w va a) (hb : Els n₂ w vb b) (hla : a.length ≤ 4611686018427387904) (_hlb : b.length ≤ 4611686018427387904) :
    Calls Tryd.prog 21 #[va, vb] w fun e w' => e = .returned (.bool (decide (a = b))) ∧ ∃ n, w' = w.drewN n := by
  obtain ⟨aa, ca, rfl⟩ := ha.val
  obtain ⟨ab, cb, rfl⟩ := hb.val
  by_cases hl : a.length = b.length
  · have bl : ((a.length : Int) != (b.length : Int)) = false := by rw [hl]; simp
    generalize hR : decide (a = b) = R
    have HR : Hid (decide (a.drop 0 = b.drop 0) = R) := hR
    have HL : Hid (a.length = b.length) := hl
    clear hl hR
    go_enter Tryd.func21, Tryd.ntmps21
    go_wp2_with fail
    go_loopw [5] (fun i wr => ∃ k : Nat, k ≤ a.length ∧ i = .int .i64 k ∧ Hid (decide (a.drop k = b.drop k) = R) ∧ ∃ n, wr = w.drewN n) (fun i _ => a.length - (intOf i).toNat)
    case atStart => exact ⟨0, by omega, rfl, HR, 0, rfl⟩
    case round =>
      clear HR
      obtain ⟨k, hk, rfl, HK, nd, rfl⟩ := hrel
      by_cases hlt : k < a.length
      · have hltb : k < b.length := by have := HL.out; omega
        obtain ⟨b1, o1, rfl, x0, x1, x2, x3⟩ := ha.at hlt
        obtain ⟨b2, o2, rfl, y0, y1, y2, y3⟩ := hb.at hltb
        have hd : decide (a.drop k = b.drop k) = (decide (a[k] = b[k]) && decide (a.drop (k + 1) = b.drop (k + 1))) := by
          rw [List.drop_eq_getElem_cons hlt, List.drop_eq_getElem_cons hltb, decide_cons]
        have hKK := HK.out
        rw [hd] at hKK
        generalize a[k] = e at x0 x1 x2 x3 hKK
        generalize b[k] = f at y0 y1 y2 y3 hKK
        obtain ⟨e1, e2, e3, e4⟩ := e
        obtain ⟨f1, f2, f3, f4⟩ := f
        simp only at x0 x1 x2 x3 y0 y1 y2 y3
        have heq := fun w => eq_el ⟨e1, e2, e3, e4⟩ ⟨f1, f2, f3, f4⟩ w
        have HKK : Hid ((decide ((⟨e1, e2, e3, e4⟩ : El) = ⟨f1, f2, f3, f4⟩) && decide (a.drop (k + 1) = b.drop (k + 1))) = R) := hKK
        clear hKK HK hd
        go_upto_region 6 with fail
        cases hq : decide ((⟨e1, e2, e3, e4⟩ : El) = ⟨f1, f2, f3, f4⟩) with
        | true =>
          rw [hq] at heq
          have HK2 : Hid (decide (a.drop (k + 1) = b.drop (k + 1)) = R) := by
            show _ = _
            rw [← HKK.out, hq]; rfl
          clear HKK hq
          go_region
          go_wp2
          go_roundw
          case rel => exact ⟨k + 1, by omega, by simp, HK2, nd + 1, rfl⟩
          case measure => simp only [intOf]; omega
        | false =>
          rw [hq] at heq
          have hRf : R = false := by rw [← HKK.out, hq]; rfl
          clear HKK hq
          go_region
          go_wp2
          go_ret
          exact ⟨by rw [hRf]; rfl, nd + 1, rfl⟩
      · have hRt : R = true := by rw [← HK.out, List.drop_of_length_le (by omega), List.drop_of_length_le (by have := HL.out; omega)]; simp
        go_wp2
        go_ret
        exact ⟨by rw [hRt]; rfl, nd, rfl⟩
  · have bl : ((a.length : Int) != (b.length : Int)) = true := by rw [bne_iff_ne]; omega
    have hR : decide (a = b) = false := by simp; intro e; exact hl (by rw [e])
    rw [hR]
    clear hR hl
    go_enter Tryd.func21, Tryd.ntmps21
    go_wp2
    go_ret
    exact ⟨rfl, 0, rfl⟩

theorem ints_drewN {n₀ : Nat} {w : World} {v : Value} {zs : List Int} (h : Ints n₀ w v zs) (n : Nat) : Ints n₀ (w.drewN n) v zs := h
theorem els_drewN {n₀ : Nat} {w : World} {v : Value} {l : List El} (h : Els n₀ w v l) (n : Nat) : Els n₀ (w.drewN n) v l := h
theorem drewN_add (w : World) (n m : Nat) : (w.drewN n).drewN m = w.drewN (n + m) := by
  simp only [World.drewN]
  congr 1
  omega

set_option maxHeartbeats 4000000 in
set_option maxRecDepth 20000 in
theorem sameEnts_any (va vb : Value) (l : List Ent) (n₁ n₂ : Nat) (w : World) (ha : EIn n₁ w va l) (hb : EIn n₂ w vb l) (hll : l.length ≤ 4611686018427387904) (hpl : ∀ x ∈ l, x.1.length ≤ 4611686018427387904 ∧ x.2.length ≤ 4611686018427387904) :
    Calls Tryd.prog 32 #[va, vb] w fun e w' => e = .returned (.bool true) ∧ ∃ n, w' = w.drewN n := by
  obtain ⟨aa, ca, rfl⟩ := ha.val
  obtain ⟨ab, cb, rfl⟩ := hb.val
  go_enter Tryd.func32, Tryd.ntmps32
  go_wp2_with fail
  go_loopw [5] (fun i wr => ∃ k n : Nat, k ≤ l.length ∧ i = .int .i64 k ∧ wr = w.drewN n) (fun i _ => l.length - (intOf i).toNat)
  case atStart => exact ⟨0, 0, by omega, rfl, rfl⟩
  case round =>
    obtain ⟨k, nd, hk, rfl, rfl⟩ := hrel
    by_cases hlt : k < l.length
    · obtain ⟨b1, o1, rfl, pa1, pc1, ea1, ec1, x0, x1, i1, s1⟩ := ha.at hlt
      obtain ⟨b2, o2, rfl, pa2, pc2, ea2, ec2, y0, y1, i2, s2⟩ := hb.at hlt
      obtain ⟨hp1, hp2⟩ := hpl _ (List.getElem_mem hlt)
      generalize hW : w.drewN nd = W
      have hww : ∀ ad, W.cell? ad = w.cell? ad := fun ad => by rw [← hW]; rfl
      rw [← hww] at x0 x1 y0 y1
      have i1' : Ints n₁ W (.slice pa1 (l[k]).1.length pc1) (l[k]).1 := by rw [← hW]; exact ints_drewN i1 nd
      have i2' : Ints n₂ W (.slice pa2 (l[k]).1.length pc2) (l[k]).1 := by rw [← hW]; exact ints_drewN i2 nd
      have s1' : Els n₁ W (.slice ea1 (l[k]).2.length ec1) (l[k]).2 := by rw [← hW]; exact els_drewN s1 nd
      have s2' : Els n₂ W (.slice ea2 (l[k]).2.length ec2) (l[k]).2 := by rw [← hW]; exact els_drewN s2 nd
      have HW : Hid (w.drewN nd = W) := hW
      clear hW hww
      have hA : ∀ n, Calls Tryd.prog 41 #[.slice pa1 (l[k]).1.length pc1, .slice pa2 (l[k]).1.length pc2] (W.drewN n) fun e w' => e = .returned (.int .i64 0) ∧ ∃ m, w' = (W.drewN n).drewN m := fun n => by
        have h := ahead_any n₁ n₂ _ _ _ _ (W.drewN n) (ints_drewN i1' n) (ints_drewN i2' n) hp1 hp1
        rw [aheadL_self] at h
        exact h
      have hS : ∀ n, Calls Tryd.prog 21 #[.slice ea1 (l[k]).2.length ec1, .slice ea2 (l[k]).2.length ec2] (W.drewN n) fun e w' => e = .returned (.bool true) ∧ ∃ m, w' = (W.drewN n).drewN m := fun n => by
        have h := sameEls_q _ _ _ _ n₁ n₂ (W.drewN n) (els_drewN s1' n) (els_drewN s2' n) hp2 hp2
        rw [show decide ((l[k]).2 = (l[k]).2) = true by simp] at h
        exact h
      generalize (l[k]).1.length = m1 at x0 y0 hA hp1
      generalize (l[k]).2.length = m2 at x1 y1 hS hp2
      clear i1 i2 s1 s2 i1' i2' s1' s2'
      go_upto_region 6 with fail
      go_quiet (first | (go_at_call 41; refine Calls.quiet_of (hA _)) | (go_at_call 21; refine Calls.quiet_of (hS _)))
      go_wp2
      go_roundw
      case rel => exact ⟨k + 1, _, by omega, by simp, by rw [← HW.out]; exact drewN_add _ _ _⟩
      case measure => simp only [intOf]; omega
    · go_wp2
      go_ret
      exact ⟨rfl, nd, rfl⟩

end Go.Proofs.YtfeppbiodbhpcaaDoor
