/- What dovetailref04.SameMarks does of the same marks (a contract; nothing is claimed here). -/
import Derived.Test.YtpmckfmjegehgaaGreatDoorPrint2
import Derived.Test.YtpmckfmjegehgaaGreatDoorSame
namespace Go.Proofs.YtpmckfmjegehgaaGreatDoor
open Go.RowKit Go.Vf Go.Maps

set_option maxHeartbeats 4000000 in
set_option maxRecDepth 20000 in
theorem sameMarks_any (va vb : Value) (l : List PM) (n₁ n₂ : Nat) (w : World) (ha : MIn n₁ w va l) (hb : MIn n₂ w vb l) (hll : l.length ≤ 4611686018427387904) (hpl : ∀ m ∈ l, m.parts.length ≤ 4611686018427387904) :
    Calls Tryz.prog 20 #[va, vb] w fun e w' => e = .returned (.bool true) ∧ Below w.heap.size w w' := by
  rcases Nat.eq_zero_or_pos l.length with h0 | h0
  · obtain ⟨x, c, rfl⟩ := ha.val
    obtain ⟨y, d, rfl⟩ := hb.val
    rw [h0]
    clear ha hb h0 hll hpl
    go_enter Tryz.func20, Tryz.ntmps20
    go_wp2
    go_loopw [5] (fun i wr => i = .int .i64 0 ∧ wr = w) (fun _ _ => 0)
    case atStart => exact ⟨rfl, rfl⟩
    case round =>
      obtain ⟨rfl, rfl⟩ := hrel
      go_wp2
      go_ret
      exact ⟨rfl, Below.refl _ _⟩
  · rcases ha with ⟨_, _, _, h⟩ | ⟨b1, o1, c1, rfl, hb1, hc1⟩
    · rw [h] at h0; simp at h0
    rcases hb with ⟨_, _, _, h⟩ | ⟨b2, o2, c2, rfl, hb2, hc2⟩
    · rw [h] at h0; simp at h0
    obtain ⟨L, hL⟩ : ∃ L, L = l.length := ⟨_, rfl⟩
    have HL : Hid (L = l.length) := hL
    rw [← hL] at hll h0 ⊢
    have HC1 : Hid (∀ j (hj : j < l.length), ∃ pa pk pc, w.cell? ⟨b1, o1 + j * 3, none⟩ = some (.int .i64 l[j].point) ∧ w.cell? ⟨b1, o1 + j * 3 + 1, none⟩ = some (.int .i64 l[j].cls) ∧ w.cell? ⟨b1, o1 + j * 3 + 2, none⟩ = some (.slice pa pk pc) ∧ Ints n₁ w (.slice pa pk pc) l[j].parts) := hc1
    have HC2 : Hid (∀ j (hj : j < l.length), ∃ pa pk pc, w.cell? ⟨b2, o2 + j * 3, none⟩ = some (.int .i64 l[j].point) ∧ w.cell? ⟨b2, o2 + j * 3 + 1, none⟩ = some (.int .i64 l[j].cls) ∧ w.cell? ⟨b2, o2 + j * 3 + 2, none⟩ = some (.slice pa pk pc) ∧ Ints n₂ w (.slice pa pk pc) l[j].parts) := hc2
    clear hL hc1 hc2
    go_enter Tryz.func20, Tryz.ntmps20
    go_wp2
    go_loopw [5, 6] (fun i _ wr => ∃ k : Nat, k ≤ L ∧ i = .int .i64 k ∧ Below w.heap.size w wr ∧ (∀ a, wr.cell? a = w.cell? a)) (fun i _ _ => L - (intOf i).toNat)
    case atStart => exact ⟨0, Nat.zero_le _, rfl, Below.refl _ _, fun _ => rfl⟩
    case round =>
      obtain ⟨k, hk, rfl, hbel, hsame⟩ := hrel
      by_cases hlt : k < L
      · have hltl : k < l.length := by rw [← HL.out]; exact hlt
        obtain ⟨pa, pk, pc, x0, x1, x2, x3⟩ := HC1.out k hltl
        obtain ⟨qa, qk, qc, y0, y1, y2, y3⟩ := HC2.out k hltl
        have hpk := hpl _ (List.getElem_mem hltl)
        generalize l[k] = m at x0 x1 x3 y0 y1 y3 hpk
        obtain ⟨_, _, e1⟩ := x3.val
        obtain ⟨_, _, e2⟩ := y3.val
        cases e1
        cases e2
        have HX : Hid (w.cell? ⟨b1, o1 + k * 3 + 2, none⟩ = some (.slice pa m.parts.length pc) ∧ w.cell? ⟨b2, o2 + k * 3 + 2, none⟩ = some (.slice qa m.parts.length qc)) := ⟨x2, y2⟩
        rw [← hsame] at x0 x1 x2 y0 y1 y2
        have HS : Hid (∀ a, wr.cell? a = w.cell? a) := hsame
        have t1 : (m.point != m.point) = false := by simp
        have t2 : (m.cls != m.cls) = false := by simp
        clear hsame
        go_upto_region 6 with fail
        go_quiet (fail)
        go_wp2
        go_loopw [6] (fun i wr' => ∃ h : Nat, h ≤ m.parts.length ∧ i = .int .i64 h ∧ Below w.heap.size w wr' ∧ (∀ a, wr'.cell? a = w.cell? a)) (fun i _ => m.parts.length - (intOf i).toNat)
        case atStart => exact ⟨0, Nat.zero_le _, rfl, hbel.trans (below_drewN wr _ _), fun a => HS.out a⟩
        case round =>
          obtain ⟨h, hh, rfl, hbel', hsame⟩ := hrel
          have x2' := (hsame _).trans HX.out.1
          have y2' := (hsame _).trans HX.out.2
          have HS' : Hid (∀ a, wr.cell? a = w.cell? a) := hsame
          by_cases hlt' : h < m.parts.length
          · obtain ⟨g1, f1, e1, _, _, z1⟩ := x3.cell (fun e => by rw [e] at hlt'; simp at hlt')
            obtain ⟨g2, f2, e2, _, _, z2⟩ := y3.cell (fun e => by rw [e] at hlt'; simp at hlt')
            subst e1 e2
            have c1 := (hsame _).trans (z1 h hlt')
            have c2 := (hsame _).trans (z2 h hlt')
            clear z1 z2 hsame x2 y2 x0 x1 y0 y1
            generalize m.parts[h]?.getD 0 = q at c1 c2
            have t3 : (q != q) = false := by simp
            go_wp2
            go_quiet (fail)
            go_wp2
            go_roundw
            case rel => exact ⟨h + 1, by omega, by go_num, hbel'.trans (below_drewN wr _ _), fun a => HS'.out a⟩
            case measure => simp only [intOf]; omega
          · obtain rfl : h = m.parts.length := by omega
            clear x2 y2 x0 x1 y0 y1 hsame
            go_wp2
            go_roundw
            case rel => exact ⟨k + 1, by omega, by go_num, hbel', HS'.out⟩
            case measure => simp only [intOf]; omega
      · obtain rfl : k = L := by omega
        go_wp2
        go_ret
        exact ⟨rfl, hbel⟩

end Go.Proofs.YtpmckfmjegehgaaGreatDoor
