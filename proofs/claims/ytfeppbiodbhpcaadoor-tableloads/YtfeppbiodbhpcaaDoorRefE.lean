/- What dovetailref06.element does (a contract; nothing is claimed here). -/
import Derived.Test.YtfeppbiodbhpcaaDoorRefR
namespace Go.Proofs.YtfeppbiodbhpcaaDoor
open Go.RowKit Go.Vf Go.Maps

theorem one_size (b : UInt8) : (⟨#[b]⟩ : ByteArray).size = 1 := rfl
theorem pointS_six (u : Nat) (hu : u < 16 ^ 6) : (pointS u).length ≤ 6 := by
  have h := upHex_len u 6 hu (by omega)
  rw [pointS_pad, padHex_len]
  omega
set_option maxHeartbeats 4000000 in
set_option maxRecDepth 20000 in
theorem refElement_any (va : Bool) (pr se te : Nat) (hpr : pr ≤ 65535) (hse : se ≤ 65535) (hte : te ≤ 65535) (w : World) :
    Calls Tryd.prog 62 #[.agg #[.bool va, .int .i64 (pr : Int), .int .i64 (se : Int), .int .i64 (te : Int)]] w fun e w' => e = .returned (.string (bsz (elP ⟨va, pr, se, te⟩))) ∧ Below w.heap.size w w' := by
  have hb0 := (Below.refl w.heap.size w).alloc (Nat.le_refl _) (.cells #[.bool va, .int .i64 (pr : Int), .int .i64 (se : Int), .int .i64 (te : Int)] 49)
  have hB := Blk.new w 49 #[.bool va, .int .i64 (pr : Int), .int .i64 (se : Int), .int .i64 (te : Int)]
  have q0 := hB.cell 0
  have q1 := hB.cell 1
  have q2 := hB.cell 2
  have q3 := hB.cell 3
  have s1 : (bsz (pointS pr)).size ≤ 6 := by rw [bsz_size]; exact pointS_six pr (by omega)
  have s2 : (bsz (pointS se)).size ≤ 6 := by rw [bsz_size]; exact pointS_six se (by omega)
  have s3 : (bsz (pointS te)).size ≤ 6 := by rw [bsz_size]; exact pointS_six te (by omega)
  obtain ⟨F, hF⟩ : ∃ F : Nat → ByteArray, F = fun u => bsz (pointS u) := ⟨_, rfl⟩
  have hD : ∀ (u : Nat) (W : World), u ≤ 65535 → Calls Tryd.prog 61 #[.int .i64 (u : Int)] W fun e w' => e = .returned (.string (F u)) ∧ w' = W := fun u W hu => by
    rw [hF]
    exact (digits_any u (by omega) W).mono fun e w' h => ⟨h.1, h.2.symm⟩
  have t1 : (F pr).size ≤ 6 := by rw [hF]; exact s1
  have t2 : (F se).size ≤ 6 := by rw [hF]; exact s2
  have t3 : (F te).size ≤ 6 := by rw [hF]; exact s3
  have HF : Hid (F = fun u => bsz (pointS u)) := hF
  clear hF s1 s2 s3 hB
  cases va with
  | false =>
    have HE : Hid ((⟨#[91]⟩ : ByteArray) ++ ⟨#[46]⟩ ++ F pr ++ ⟨#[46]⟩ ++ F se ++ ⟨#[46]⟩ ++ F te ++ ⟨#[93]⟩ = bsz (elP ⟨false, pr, se, te⟩)) := by
      show _ = _
      rw [HF.out]
      apply ByteArray.ext
      simp [elP]
    go_enter Tryd.func62, Tryd.ntmps62
    go_upto_region 4 with fail
    generalize w.alloc (.cells #[.bool false, .int .i64 (pr : Int), .int .i64 (se : Int), .int .i64 (te : Int)] 49) = W at hb0 q0 q1 q2 q3 ⊢
    go_quiet (first | (go_at_call 61; refine Calls.quiet_of_same (hD _ _ (by omega))))
    go_wp2
    go_ret
    refine ⟨?_, hb0.trans ((below_drewN W nq).mono hb0.size)⟩
    rw [← HE.out]
    rfl
  | true =>
    have HE : Hid ((⟨#[91]⟩ : ByteArray) ++ ⟨#[42]⟩ ++ F pr ++ ⟨#[46]⟩ ++ F se ++ ⟨#[46]⟩ ++ F te ++ ⟨#[93]⟩ = bsz (elP ⟨true, pr, se, te⟩)) := by
      show _ = _
      rw [HF.out]
      apply ByteArray.ext
      simp [elP]
    go_enter Tryd.func62, Tryd.ntmps62
    go_upto_region 4 with fail
    generalize w.alloc (.cells #[.bool true, .int .i64 (pr : Int), .int .i64 (se : Int), .int .i64 (te : Int)] 49) = W at hb0 q0 q1 q2 q3 ⊢
    go_quiet (first | (go_at_call 61; refine Calls.quiet_of_same (hD _ _ (by omega))))
    go_wp2
    go_ret
    refine ⟨?_, hb0.trans ((below_drewN W nq).mono hb0.size)⟩
    rw [← HE.out]
    rfl

end Go.Proofs.YtfeppbiodbhpcaaDoor
