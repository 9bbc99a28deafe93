/- What dovetailref06.Right does (a contract; nothing is claimed here). -/
import Derived.Test.YtfeppbiodbhpcaaDoorRefG
namespace Go.Proofs.YtfeppbiodbhpcaaDoor
open Go.RowKit Go.Vf Go.Maps

set_option maxHeartbeats 4000000 in
theorem refRight_any (e : El) (w : World) : Calls Tryd.prog 30 #[elA e] w fun r w' => r = .returned (.bool (rightB e)) ∧ Below w.heap.size w w' := by
  obtain ⟨va, pr, se, te⟩ := e
  have hb0 := (Below.refl w.heap.size w).alloc (Nat.le_refl _) (.cells #[.bool va, .int .i64 pr, .int .i64 se, .int .i64 te] 49)
  by_cases h1 : pr < 0
  · have d1 : decide (pr < 0) = true := by simp; omega
    have hR : rightB ⟨va, pr, se, te⟩ = false := by unfold rightB wtB; simp; omega
    rw [hR]
    clear hR h1
    go_enter Tryd.func30, Tryd.ntmps30
    go_wp2
    go_ret
    exact ⟨rfl, hb0⟩
  have d1 : decide (pr < 0) = false := by simp; omega
  by_cases h2 : 64319 < pr
  · have d2 : decide ((64319 : Int) < pr) = true := by simp; omega
    have hR : rightB ⟨va, pr, se, te⟩ = false := by unfold rightB wtB; simp; omega
    rw [hR]
    clear hR h1 h2
    go_enter Tryd.func30, Tryd.ntmps30
    go_wp2
    go_ret
    exact ⟨rfl, hb0⟩
  have d2 : decide ((64319 : Int) < pr) = false := by simp; omega
  by_cases h3 : se < 0
  · have d3 : decide (se < 0) = true := by simp; omega
    have hR : rightB ⟨va, pr, se, te⟩ = false := by unfold rightB wtB; simp; omega
    rw [hR]
    clear hR h1 h2 h3
    go_enter Tryd.func30, Tryd.ntmps30
    go_wp2
    go_ret
    exact ⟨rfl, hb0⟩
  have d3 : decide (se < 0) = false := by simp; omega
  by_cases h4 : 65535 < se
  · have d4 : decide ((65535 : Int) < se) = true := by simp; omega
    have hR : rightB ⟨va, pr, se, te⟩ = false := by unfold rightB wtB; simp; omega
    rw [hR]
    clear hR h1 h2 h3 h4
    go_enter Tryd.func30, Tryd.ntmps30
    go_wp2
    go_ret
    exact ⟨rfl, hb0⟩
  have d4 : decide ((65535 : Int) < se) = false := by simp; omega
  by_cases h5 : te < 0
  · have d5 : decide (te < 0) = true := by simp; omega
    have hR : rightB ⟨va, pr, se, te⟩ = false := by unfold rightB wtB; simp; omega
    rw [hR]
    clear hR h1 h2 h3 h4 h5
    go_enter Tryd.func30, Tryd.ntmps30
    go_wp2
    go_ret
    exact ⟨rfl, hb0⟩
  have d5 : decide (te < 0) = false := by simp; omega
  by_cases h6 : 65535 < te
  · have d6 : decide ((65535 : Int) < te) = true := by simp; omega
    have hR : rightB ⟨va, pr, se, te⟩ = false := by unfold rightB wtB; simp; omega
    rw [hR]
    clear hR h1 h2 h3 h4 h5 h6
    go_enter Tryd.func30, Tryd.ntmps30
    go_wp2
    go_ret
    exact ⟨rfl, hb0⟩
  have d6 : decide ((65535 : Int) < te) = false := by simp; omega
  by_cases p0 : pr = 0
  · have q0 : (pr != 0) = false := by simp; omega
    by_cases s0 : se = 0
    · have q1 : (se != 0) = false := by simp; omega
      have q2 : (se == 0) = true := by simp; omega
      by_cases t0 : te = 0
      · have q3 : (te == 0) = true := by simp; omega
        cases va with
        | true =>
          have hR : rightB ⟨true, pr, se, te⟩ = false := by unfold rightB wtB; simp; omega
          rw [hR]
          clear hR h1 h2 h3 h4 h5 h6 p0 s0 t0
          go_enter Tryd.func30, Tryd.ntmps30
          go_wp2
          go_ret
          exact ⟨rfl, hb0⟩
        | false =>
          have hR : rightB ⟨false, pr, se, te⟩ = true := by unfold rightB wtB; simp; omega
          rw [hR]
          clear hR h1 h2 h3 h4 h5 h6 p0 s0 t0
          go_enter Tryd.func30, Tryd.ntmps30
          go_wp2
          go_ret
          exact ⟨rfl, hb0⟩
      · have q3 : (te == 0) = false := by simp; omega
        cases va with
        | true =>
          have hR : rightB ⟨true, pr, se, te⟩ = false := by unfold rightB wtB; simp; omega
          rw [hR]
          clear hR h1 h2 h3 h4 h5 h6 p0 s0 t0
          go_enter Tryd.func30, Tryd.ntmps30
          go_wp2
          go_ret
          exact ⟨rfl, hb0⟩
        | false =>
          have hR : rightB ⟨false, pr, se, te⟩ = true := by unfold rightB wtB; simp; omega
          rw [hR]
          clear hR h1 h2 h3 h4 h5 h6 p0 s0 t0
          go_enter Tryd.func30, Tryd.ntmps30
          go_wp2
          go_ret
          exact ⟨rfl, hb0⟩
    · have q1 : (se != 0) = true := by simp; omega
      have q2 : (se == 0) = false := by simp; omega
      by_cases t0 : te = 0
      · have q3 : (te == 0) = true := by simp; omega
        cases va with
        | true =>
          have hR : rightB ⟨true, pr, se, te⟩ = false := by unfold rightB wtB; simp; omega
          rw [hR]
          clear hR h1 h2 h3 h4 h5 h6 p0 s0 t0
          go_enter Tryd.func30, Tryd.ntmps30
          go_wp2
          go_ret
          exact ⟨rfl, hb0⟩
        | false =>
          have hR : rightB ⟨false, pr, se, te⟩ = false := by unfold rightB wtB; simp; omega
          rw [hR]
          clear hR h1 h2 h3 h4 h5 h6 p0 s0 t0
          go_enter Tryd.func30, Tryd.ntmps30
          go_wp2
          go_ret
          exact ⟨rfl, hb0⟩
      · have q3 : (te == 0) = false := by simp; omega
        cases va with
        | true =>
          have hR : rightB ⟨true, pr, se, te⟩ = false := by unfold rightB wtB; simp; omega
          rw [hR]
          clear hR h1 h2 h3 h4 h5 h6 p0 s0 t0
          go_enter Tryd.func30, Tryd.ntmps30
          go_wp2
          go_ret
          exact ⟨rfl, hb0⟩
        | false =>
          have hR : rightB ⟨false, pr, se, te⟩ = true := by unfold rightB wtB; simp; omega
          rw [hR]
          clear hR h1 h2 h3 h4 h5 h6 p0 s0 t0
          go_enter Tryd.func30, Tryd.ntmps30
          go_wp2
          go_ret
          exact ⟨rfl, hb0⟩
  · have q0 : (pr != 0) = true := by simp; omega
    by_cases s0 : se = 0
    · have q1 : (se != 0) = false := by simp; omega
      have q2 : (se == 0) = true := by simp; omega
      by_cases t0 : te = 0
      · have q3 : (te == 0) = true := by simp; omega
        cases va with
        | true =>
          have hR : rightB ⟨true, pr, se, te⟩ = false := by unfold rightB wtB; simp; omega
          rw [hR]
          clear hR h1 h2 h3 h4 h5 h6 p0 s0 t0
          go_enter Tryd.func30, Tryd.ntmps30
          go_wp2
          go_ret
          exact ⟨rfl, hb0⟩
        | false =>
          have hR : rightB ⟨false, pr, se, te⟩ = false := by unfold rightB wtB; simp; omega
          rw [hR]
          clear hR h1 h2 h3 h4 h5 h6 p0 s0 t0
          go_enter Tryd.func30, Tryd.ntmps30
          go_wp2
          go_ret
          exact ⟨rfl, hb0⟩
      · have q3 : (te == 0) = false := by simp; omega
        cases va with
        | true =>
          have hR : rightB ⟨true, pr, se, te⟩ = false := by unfold rightB wtB; simp; omega
          rw [hR]
          clear hR h1 h2 h3 h4 h5 h6 p0 s0 t0
          go_enter Tryd.func30, Tryd.ntmps30
          go_wp2
          go_ret
          exact ⟨rfl, hb0⟩
        | false =>
          have hR : rightB ⟨false, pr, se, te⟩ = false := by unfold rightB wtB; simp; omega
          rw [hR]
          clear hR h1 h2 h3 h4 h5 h6 p0 s0 t0
          go_enter Tryd.func30, Tryd.ntmps30
          go_wp2
          go_ret
          exact ⟨rfl, hb0⟩
    · have q1 : (se != 0) = true := by simp; omega
      have q2 : (se == 0) = false := by simp; omega
      by_cases t0 : te = 0
      · have q3 : (te == 0) = true := by simp; omega
        cases va with
        | true =>
          have hR : rightB ⟨true, pr, se, te⟩ = false := by unfold rightB wtB; simp; omega
          rw [hR]
          clear hR h1 h2 h3 h4 h5 h6 p0 s0 t0
          go_enter Tryd.func30, Tryd.ntmps30
          go_wp2
          go_ret
          exact ⟨rfl, hb0⟩
        | false =>
          have hR : rightB ⟨false, pr, se, te⟩ = false := by unfold rightB wtB; simp; omega
          rw [hR]
          clear hR h1 h2 h3 h4 h5 h6 p0 s0 t0
          go_enter Tryd.func30, Tryd.ntmps30
          go_wp2
          go_ret
          exact ⟨rfl, hb0⟩
      · have q3 : (te == 0) = false := by simp; omega
        cases va with
        | true =>
          have hR : rightB ⟨true, pr, se, te⟩ = true := by unfold rightB wtB; simp; omega
          rw [hR]
          clear hR h1 h2 h3 h4 h5 h6 p0 s0 t0
          go_enter Tryd.func30, Tryd.ntmps30
          go_wp2
          go_ret
          exact ⟨rfl, hb0⟩
        | false =>
          have hR : rightB ⟨false, pr, se, te⟩ = true := by unfold rightB wtB; simp; omega
          rw [hR]
          clear hR h1 h2 h3 h4 h5 h6 p0 s0 t0
          go_enter Tryd.func30, Tryd.ntmps30
          go_wp2
          go_ret
          exact ⟨rfl, hb0⟩

end Go.Proofs.YtfeppbiodbhpcaaDoor
