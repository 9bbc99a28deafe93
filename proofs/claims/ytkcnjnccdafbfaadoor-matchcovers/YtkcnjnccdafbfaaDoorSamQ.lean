/- What dovetailref06.SameElements does: it only reads (a contract; nothing is claimed here). -/
import Derived.Test.YtkcnjnccdafbfaaDoorJ14
import Derived.Deep.QuietTactic
import Derived.BigQuiet
namespace Go.Proofs.YtkcnjnccdafbfaaDoor
open Go.RowKit Go.Vf Go.Maps

theorem decide_cons (e f : El) (a b : List El) : decide (e :: a = f :: b) = (decide (e = f) && decide (a = b)) := by
  simp [List.cons.injEq]
theorem eq_el (e f : El) (w : World) : (Op.equalIn 10000 52 (elA e) (elA f)).run Tryd.prog w = .ok (decide (e = f)) w := by
  obtain ⟨e1, e2, e3, e4⟩ := e
  obtain ⟨f1, f2, f3, f4⟩ := f
  have h : ∀ d, (Op.equalIn (d + 1 + 1) 52 (elA ⟨e1, e2, e3, e4⟩) (elA ⟨f1, f2, f3, f4⟩)).run Tryd.prog w = .ok (decide ((⟨e1, e2, e3, e4⟩ : El) = ⟨f1, f2, f3, f4⟩)) w := fun d => by
    simp [go_sem, El.mk.injEq]
    by_cases h1 : e1 = f1 <;> by_cases h2 : e2 = f2 <;> by_cases h3 : e3 = f3 <;> by_cases h4 : e4 = f4 <;> simp [h1, h2, h3, h4]
  exact h 9998
set_option maxHeartbeats 2000000 in
theorem sameEls_q (va vb : Value) (a b : List El) (n₁ n₂ : Nat) (w : World) (ha : Els n₁ w va a) (hb : Els n₂ w vb b) (hla : a.length ≤ 4611686018427387904) (_hlb : b.length ≤ 4611686018427387904) :
    Calls Tryd.prog 14 #[va, vb] w fun e w' => e = .returned (.bool (decide (a = b))) ∧ ∃ n, w' = w.drewN n := by
  obtain ⟨aa, ca, rfl⟩ := ha.val
  obtain ⟨ab, cb, rfl⟩ := hb.val
  by_cases hl : a.length = b.length
  · have bl : ((a.length : Int) != (b.length : Int)) = false := by rw [hl]; simp
    generalize hR : decide (a = b) = R
    have HR : Hid (decide (a.drop 0 = b.drop 0) = R) := hR
    have HL : Hid (a.length = b.length) := hl
    clear hl hR
    go_enter Tryd.func14, Tryd.ntmps14
    go_wp2_with fail
    go_loopw [5] (fun i wr => ∃ k : Nat, k ≤ a.length ∧ i = .int .i64 k ∧ Hid (decide (a.drop k = b.drop k) = R) ∧ ∃ n, wr = w.drewN n) (fun i _ => a.length - (intOf i).toNat)
    case atStart => exact ⟨0, by omega, rfl, HR, 0, rfl⟩
    case round =>
      clear HR
      obtain ⟨k, hk, rfl, HK, nd, rfl⟩ := hrel
      by_cases hlt : k < a.length
      · have hltb : k < b.length := by have := HL.out; omega
        obtain ⟨b1, o1, rfl, x0, x1, x2, x3⟩ := ha.at hlt
        obtain ⟨b2, o2, rfl, y0, y1, y2, y3⟩ := hb.at hltb
        have hd : decide (a.drop k = b.drop k) = (decide (a[k] = b[k]) && decide (a.drop (k + 1) = b.drop (k + 1))) := by
          rw [List.drop_eq_getElem_cons hlt, List.drop_eq_getElem_cons hltb, decide_cons]
        have hKK := HK.out
        rw [hd] at hKK
        generalize a[k] = e at x0 x1 x2 x3 hKK
        generalize b[k] = f at y0 y1 y2 y3 hKK
        obtain ⟨e1, e2, e3, e4⟩ := e
        obtain ⟨f1, f2, f3, f4⟩ := f
        simp only at x0 x1 x2 x3 y0 y1 y2 y3
        have heq := fun w => eq_el ⟨e1, e2, e3, e4⟩ ⟨f1, f2, f3, f4⟩ w
        have HKK : Hid ((decide ((⟨e1, e2, e3, e4⟩ : El) = ⟨f1, f2, f3, f4⟩) && decide (a.drop (k + 1) = b.drop (k + 1))) = R) := hKK
        clear hKK HK hd
        go_upto_region 6 with fail
        cases hq : decide ((⟨e1, e2, e3, e4⟩ : El) = ⟨f1, f2, f3, f4⟩) with
        | true =>
          rw [hq] at heq
          have HK2 : Hid (decide (a.drop (k + 1) = b.drop (k + 1)) = R) := by
            show _ = _
            rw [← HKK.out, hq]; rfl
          clear HKK hq
          go_region
          go_wp2
          go_roundw
          case rel => exact ⟨k + 1, by omega, by simp, HK2, nd + 1, rfl⟩
          case measure => simp only [intOf]; omega
        | false =>
          rw [hq] at heq
          have hRf : R = false := by rw [← HKK.out, hq]; rfl
          clear HKK hq
          go_region
          go_wp2
          go_ret
          exact ⟨by rw [hRf]; rfl, nd + 1, rfl⟩
      · have hRt : R = true := by rw [← HK.out, List.drop_of_length_le (by omega), List.drop_of_length_le (by have := HL.out; omega)]; simp
        go_wp2
        go_ret
        exact ⟨by rw [hRt]; rfl, nd, rfl⟩
  · have bl : ((a.length : Int) != (b.length : Int)) = true := by rw [bne_iff_ne]; omega
    have hR : decide (a = b) = false := by simp; intro e; exact hl (by rw [e])
    rw [hR]
    clear hR hl
    go_enter Tryd.func14, Tryd.ntmps14
    go_wp2
    go_ret
    exact ⟨rfl, 0, rfl⟩

end Go.Proofs.YtkcnjnccdafbfaaDoor
