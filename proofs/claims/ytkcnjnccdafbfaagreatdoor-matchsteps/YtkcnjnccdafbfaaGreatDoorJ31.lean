/- Contracts and lemmas (nothing is claimed here). -/
import Derived.Test.YtkcnjnccdafbfaaGreatDoorJ14
import Derived.Test.YtkcnjnccdafbfaaGreatDoorJ24
import Derived.Test.YtkcnjnccdafbfaaGreatDoorJ23
namespace Go.Proofs.YtkcnjnccdafbfaaGreatDoor
open Go.RowKit Go.Vf Go.Maps
set_option maxHeartbeats 4000000 in
theorem refRight_any (e : El) (w : World) : Calls Tryz.prog 31 #[elA e] w fun r w' => r = .returned (.bool (rightB e)) ∧ Below w.heap.size w w' := by
 obtain ⟨va, pr, se, te⟩ := e
 have hb0 := (Below.refl w.heap.size w).alloc (Nat.le_refl _) (.cells #[.bool va, .int .i64 pr, .int .i64 se, .int .i64 te] 54)
 by_cases h1 : pr < 0
 ·
  have d1 : decide (pr < 0) = true := by simp; omega
  have hR : rightB ⟨va, pr, se, te⟩ = false := by unfold rightB wtB; simp; omega
  rw [hR]
  clear hR h1
  go_enter Tryz.func31, Tryz.ntmps31
  go_wp2
  go_ret
  exact ⟨rfl, hb0⟩
 have d1 : decide (pr < 0) = false := by simp; omega
 by_cases h2 : 64319 < pr
 ·
  have d2 : decide ((64319 : Int) < pr) = true := by simp; omega
  have hR : rightB ⟨va, pr, se, te⟩ = false := by unfold rightB wtB; simp; omega
  rw [hR]
  clear hR h1 h2
  go_enter Tryz.func31, Tryz.ntmps31
  go_wp2
  go_ret
  exact ⟨rfl, hb0⟩
 have d2 : decide ((64319 : Int) < pr) = false := by simp; omega
 by_cases h3 : se < 0
 ·
  have d3 : decide (se < 0) = true := by simp; omega
  have hR : rightB ⟨va, pr, se, te⟩ = false := by unfold rightB wtB; simp; omega
  rw [hR]
  clear hR h1 h2 h3
  go_enter Tryz.func31, Tryz.ntmps31
  go_wp2
  go_ret
  exact ⟨rfl, hb0⟩
 have d3 : decide (se < 0) = false := by simp; omega
 by_cases h4 : 65535 < se
 ·
  have d4 : decide ((65535 : Int) < se) = true := by simp; omega
  have hR : rightB ⟨va, pr, se, te⟩ = false := by unfold rightB wtB; simp; omega
  rw [hR]
  clear hR h1 h2 h3 h4
  go_enter Tryz.func31, Tryz.ntmps31
  go_wp2
  go_ret
  exact ⟨rfl, hb0⟩
 have d4 : decide ((65535 : Int) < se) = false := by simp; omega
 by_cases h5 : te < 0
 ·
  have d5 : decide (te < 0) = true := by simp; omega
  have hR : rightB ⟨va, pr, se, te⟩ = false := by unfold rightB wtB; simp; omega
  rw [hR]
  clear hR h1 h2 h3 h4 h5
  go_enter Tryz.func31, Tryz.ntmps31
  go_wp2
  go_ret
  exact ⟨rfl, hb0⟩
 have d5 : decide (te < 0) = false := by simp; omega
 by_cases h6 : 65535 < te
 ·
  have d6 : decide ((65535 : Int) < te) = true := by simp; omega
  have hR : rightB ⟨va, pr, se, te⟩ = false := by unfold rightB wtB; simp; omega
  rw [hR]
  clear hR h1 h2 h3 h4 h5 h6
  go_enter Tryz.func31, Tryz.ntmps31
  go_wp2
  go_ret
  exact ⟨rfl, hb0⟩
 have d6 : decide ((65535 : Int) < te) = false := by simp; omega
 by_cases p0 : pr = 0
 ·
  have q0 : (pr != 0) = false := by simp; omega
  by_cases s0 : se = 0
  ·
   have q1 : (se != 0) = false := by simp; omega
   have q2 : (se == 0) = true := by simp; omega
   by_cases t0 : te = 0
   ·
    have q3 : (te == 0) = true := by simp; omega
    cases va with
    | true =>
     have hR : rightB ⟨true, pr, se, te⟩ = false := by unfold rightB wtB; simp; omega
     rw [hR]
     clear hR h1 h2 h3 h4 h5 h6 p0 s0 t0
     go_enter Tryz.func31, Tryz.ntmps31
     go_wp2
     go_ret
     exact ⟨rfl, hb0⟩
    | false =>
     have hR : rightB ⟨false, pr, se, te⟩ = true := by unfold rightB wtB; simp; omega
     rw [hR]
     clear hR h1 h2 h3 h4 h5 h6 p0 s0 t0
     go_enter Tryz.func31, Tryz.ntmps31
     go_wp2
     go_ret
     exact ⟨rfl, hb0⟩
   ·
    have q3 : (te == 0) = false := by simp; omega
    cases va with
    | true =>
     have hR : rightB ⟨true, pr, se, te⟩ = false := by unfold rightB wtB; simp; omega
     rw [hR]
     clear hR h1 h2 h3 h4 h5 h6 p0 s0 t0
     go_enter Tryz.func31, Tryz.ntmps31
     go_wp2
     go_ret
     exact ⟨rfl, hb0⟩
    | false =>
     have hR : rightB ⟨false, pr, se, te⟩ = true := by unfold rightB wtB; simp; omega
     rw [hR]
     clear hR h1 h2 h3 h4 h5 h6 p0 s0 t0
     go_enter Tryz.func31, Tryz.ntmps31
     go_wp2
     go_ret
     exact ⟨rfl, hb0⟩
  ·
   have q1 : (se != 0) = true := by simp; omega
   have q2 : (se == 0) = false := by simp; omega
   by_cases t0 : te = 0
   ·
    have q3 : (te == 0) = true := by simp; omega
    cases va with
    | true =>
     have hR : rightB ⟨true, pr, se, te⟩ = false := by unfold rightB wtB; simp; omega
     rw [hR]
     clear hR h1 h2 h3 h4 h5 h6 p0 s0 t0
     go_enter Tryz.func31, Tryz.ntmps31
     go_wp2
     go_ret
     exact ⟨rfl, hb0⟩
    | false =>
     have hR : rightB ⟨false, pr, se, te⟩ = false := by unfold rightB wtB; simp; omega
     rw [hR]
     clear hR h1 h2 h3 h4 h5 h6 p0 s0 t0
     go_enter Tryz.func31, Tryz.ntmps31
     go_wp2
     go_ret
     exact ⟨rfl, hb0⟩
   ·
    have q3 : (te == 0) = false := by simp; omega
    cases va with
    | true =>
     have hR : rightB ⟨true, pr, se, te⟩ = false := by unfold rightB wtB; simp; omega
     rw [hR]
     clear hR h1 h2 h3 h4 h5 h6 p0 s0 t0
     go_enter Tryz.func31, Tryz.ntmps31
     go_wp2
     go_ret
     exact ⟨rfl, hb0⟩
    | false =>
     have hR : rightB ⟨false, pr, se, te⟩ = true := by unfold rightB wtB; simp; omega
     rw [hR]
     clear hR h1 h2 h3 h4 h5 h6 p0 s0 t0
     go_enter Tryz.func31, Tryz.ntmps31
     go_wp2
     go_ret
     exact ⟨rfl, hb0⟩
 ·
  have q0 : (pr != 0) = true := by simp; omega
  by_cases s0 : se = 0
  ·
   have q1 : (se != 0) = false := by simp; omega
   have q2 : (se == 0) = true := by simp; omega
   by_cases t0 : te = 0
   ·
    have q3 : (te == 0) = true := by simp; omega
    cases va with
    | true =>
     have hR : rightB ⟨true, pr, se, te⟩ = false := by unfold rightB wtB; simp; omega
     rw [hR]
     clear hR h1 h2 h3 h4 h5 h6 p0 s0 t0
     go_enter Tryz.func31, Tryz.ntmps31
     go_wp2
     go_ret
     exact ⟨rfl, hb0⟩
    | false =>
     have hR : rightB ⟨false, pr, se, te⟩ = false := by unfold rightB wtB; simp; omega
     rw [hR]
     clear hR h1 h2 h3 h4 h5 h6 p0 s0 t0
     go_enter Tryz.func31, Tryz.ntmps31
     go_wp2
     go_ret
     exact ⟨rfl, hb0⟩
   ·
    have q3 : (te == 0) = false := by simp; omega
    cases va with
    | true =>
     have hR : rightB ⟨true, pr, se, te⟩ = false := by unfold rightB wtB; simp; omega
     rw [hR]
     clear hR h1 h2 h3 h4 h5 h6 p0 s0 t0
     go_enter Tryz.func31, Tryz.ntmps31
     go_wp2
     go_ret
     exact ⟨rfl, hb0⟩
    | false =>
     have hR : rightB ⟨false, pr, se, te⟩ = false := by unfold rightB wtB; simp; omega
     rw [hR]
     clear hR h1 h2 h3 h4 h5 h6 p0 s0 t0
     go_enter Tryz.func31, Tryz.ntmps31
     go_wp2
     go_ret
     exact ⟨rfl, hb0⟩
  ·
   have q1 : (se != 0) = true := by simp; omega
   have q2 : (se == 0) = false := by simp; omega
   by_cases t0 : te = 0
   ·
    have q3 : (te == 0) = true := by simp; omega
    cases va with
    | true =>
     have hR : rightB ⟨true, pr, se, te⟩ = false := by unfold rightB wtB; simp; omega
     rw [hR]
     clear hR h1 h2 h3 h4 h5 h6 p0 s0 t0
     go_enter Tryz.func31, Tryz.ntmps31
     go_wp2
     go_ret
     exact ⟨rfl, hb0⟩
    | false =>
     have hR : rightB ⟨false, pr, se, te⟩ = false := by unfold rightB wtB; simp; omega
     rw [hR]
     clear hR h1 h2 h3 h4 h5 h6 p0 s0 t0
     go_enter Tryz.func31, Tryz.ntmps31
     go_wp2
     go_ret
     exact ⟨rfl, hb0⟩
   ·
    have q3 : (te == 0) = false := by simp; omega
    cases va with
    | true =>
     have hR : rightB ⟨true, pr, se, te⟩ = true := by unfold rightB wtB; simp; omega
     rw [hR]
     clear hR h1 h2 h3 h4 h5 h6 p0 s0 t0
     go_enter Tryz.func31, Tryz.ntmps31
     go_wp2
     go_ret
     exact ⟨rfl, hb0⟩
    | false =>
     have hR : rightB ⟨false, pr, se, te⟩ = true := by unfold rightB wtB; simp; omega
     rw [hR]
     clear hR h1 h2 h3 h4 h5 h6 p0 s0 t0
     go_enter Tryz.func31, Tryz.ntmps31
     go_wp2
     go_ret
     exact ⟨rfl, hb0⟩
theorem pointS_six (u : Nat) (hu : u < 16 ^ 6) : (pointS u).length ≤ 6 := by
  have h := upHex_len u 6 hu (by omega)
  rw [pointS_pad, padHex_len]
  omega
set_option maxHeartbeats 4000000 in
set_option maxRecDepth 20000 in
theorem refElement_any (va : Bool) (pr se te : Nat) (hpr : pr ≤ 65535) (hse : se ≤ 65535) (hte : te ≤ 65535) (w : World) :
    Calls Tryz.prog 99 #[.agg #[.bool va, .int .i64 (pr : Int), .int .i64 (se : Int), .int .i64 (te : Int)]] w fun e w' => e = .returned (.string (bsz (elP ⟨va, pr, se, te⟩))) ∧ Below w.heap.size w w' := by
  have hb0 := (Below.refl w.heap.size w).alloc (Nat.le_refl _) (.cells #[.bool va, .int .i64 (pr : Int), .int .i64 (se : Int), .int .i64 (te : Int)] 54)
  have hB := Blk.new w 54 #[.bool va, .int .i64 (pr : Int), .int .i64 (se : Int), .int .i64 (te : Int)]
  have q0 := hB.cell 0
  have q1 := hB.cell 1
  have q2 := hB.cell 2
  have q3 := hB.cell 3
  have s1 : (bsz (pointS pr)).size ≤ 6 := by rw [bsz_size]; exact pointS_six pr (by omega)
  have s2 : (bsz (pointS se)).size ≤ 6 := by rw [bsz_size]; exact pointS_six se (by omega)
  have s3 : (bsz (pointS te)).size ≤ 6 := by rw [bsz_size]; exact pointS_six te (by omega)
  obtain ⟨F, hF⟩ : ∃ F : Nat → ByteArray, F = fun u => bsz (pointS u) := ⟨_, rfl⟩
  have hD : ∀ (u : Nat) (W : World), u ≤ 65535 → Calls Tryz.prog 98 #[.int .i64 (u : Int)] W fun e w' => e = .returned (.string (F u)) ∧ w' = W := fun u W hu => by
    rw [hF]
    exact (digits_any u (by omega) W).mono fun e w' h => ⟨h.1, h.2.symm⟩
  have t1 : (F pr).size ≤ 6 := by rw [hF]; exact s1
  have t2 : (F se).size ≤ 6 := by rw [hF]; exact s2
  have t3 : (F te).size ≤ 6 := by rw [hF]; exact s3
  have HF : Hid (F = fun u => bsz (pointS u)) := hF
  clear hF s1 s2 s3 hB
  cases va with
  | false =>
    have HE : Hid ((⟨#[91]⟩ : ByteArray) ++ ⟨#[46]⟩ ++ F pr ++ ⟨#[46]⟩ ++ F se ++ ⟨#[46]⟩ ++ F te ++ ⟨#[93]⟩ = bsz (elP ⟨false, pr, se, te⟩)) := by
      show _ = _
      rw [HF.out]
      apply ByteArray.ext
      simp [elP]
    go_enter Tryz.func99, Tryz.ntmps99
    go_upto_region 4 with fail
    generalize w.alloc (.cells #[.bool false, .int .i64 (pr : Int), .int .i64 (se : Int), .int .i64 (te : Int)] 54) = W at hb0 q0 q1 q2 q3 ⊢
    go_quiet (first | (go_at_call 98; refine Calls.quiet_of_same (hD _ _ (by omega))))
    go_wp2
    go_ret
    refine ⟨?_, hb0.trans ((below_drewN6 W nq).mono hb0.size)⟩
    rw [← HE.out]
    rfl
  | true =>
    have HE : Hid ((⟨#[91]⟩ : ByteArray) ++ ⟨#[42]⟩ ++ F pr ++ ⟨#[46]⟩ ++ F se ++ ⟨#[46]⟩ ++ F te ++ ⟨#[93]⟩ = bsz (elP ⟨true, pr, se, te⟩)) := by
      show _ = _
      rw [HF.out]
      apply ByteArray.ext
      simp [elP]
    go_enter Tryz.func99, Tryz.ntmps99
    go_upto_region 4 with fail
    generalize w.alloc (.cells #[.bool true, .int .i64 (pr : Int), .int .i64 (se : Int), .int .i64 (te : Int)] 54) = W at hb0 q0 q1 q2 q3 ⊢
    go_quiet (first | (go_at_call 98; refine Calls.quiet_of_same (hD _ _ (by omega))))
    go_wp2
    go_ret
    refine ⟨?_, hb0.trans ((below_drewN6 W nq).mono hb0.size)⟩
    rw [← HE.out]
    rfl
end Go.Proofs.YtkcnjnccdafbfaaGreatDoor
