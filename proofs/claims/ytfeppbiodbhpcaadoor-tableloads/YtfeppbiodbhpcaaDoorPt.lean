/- What table's isPoint, isWeight, base do (contracts; nothing is claimed here). -/
import Derived.Test.YtfeppbiodbhpcaaDoorMemR
namespace Go.Proofs.YtfeppbiodbhpcaaDoor
open Go.RowKit Go.Vf

theorem isPoint_any (n : Int) (w : World) : Calls Tryd.prog 43 #[.int .i64 n] w fun e w' => e = .returned (.bool (isPtB n)) ∧ w = w' := by
  by_cases h1 : 0 ≤ n
  · by_cases h2 : n ≤ 1114111
    · by_cases h3 : n < 55296
      · go_enter Tryd.func43, Tryd.ntmps43
        go_wp2
        go_ret
        exact ⟨by simp [isPtB, h1, h2, h3], rfl⟩
      · by_cases h4 : 57343 < n
        · go_enter Tryd.func43, Tryd.ntmps43
          go_wp2
          go_ret
          exact ⟨by simp [isPtB, h1, h2, h4], rfl⟩
        · go_enter Tryd.func43, Tryd.ntmps43
          go_wp2
          go_ret
          exact ⟨by simp [isPtB]; omega, rfl⟩
    · go_enter Tryd.func43, Tryd.ntmps43
      go_wp2
      go_ret
      exact ⟨by simp [isPtB]; omega, rfl⟩
  · go_enter Tryd.func43, Tryd.ntmps43
    go_wp2
    go_ret
    exact ⟨by simp [isPtB]; omega, rfl⟩

theorem isWeight_any (n : Int) (w : World) : Calls Tryd.prog 73 #[.int .i64 n] w fun e w' => e = .returned (.bool (wtB n)) ∧ w = w' := by
  by_cases h1 : 0 ≤ n
  · by_cases h2 : n ≤ 65535
    · go_enter Tryd.func73, Tryd.ntmps73
      go_wp2
      go_ret
      exact ⟨by simp [wtB, h1, h2], rfl⟩
    · go_enter Tryd.func73, Tryd.ntmps73
      go_wp2
      go_ret
      exact ⟨by simp [wtB]; omega, rfl⟩
  · go_enter Tryd.func73, Tryd.ntmps73
    go_wp2
    go_ret
    exact ⟨by simp [wtB]; omega, rfl⟩

/-- Where a point's primary weights begin. -/
def baseR (n : Int) : Int := if (19968 ≤ n ∧ n ≤ 40959) ∨ (63744 ≤ n ∧ n ≤ 64255) then 64320 else if (13312 ≤ n ∧ n ≤ 19903) ∨ (131072 ≤ n ∧ n ≤ 262143) then 64384 else 64448
set_option maxHeartbeats 1000000 in
theorem base_any (n : Int) (w : World) : Calls Tryd.prog 44 #[.int .i64 n] w fun e w' => e = .returned (.int .i64 (baseR n)) ∧ w = w' := by
  by_cases c1 : 19968 ≤ n ∧ n ≤ 40959
  · obtain ⟨h1, h2⟩ := c1
    go_enter Tryd.func44, Tryd.ntmps44
    go_wp2
    go_ret
    exact ⟨by simp [baseR, h1, h2], rfl⟩
  · by_cases c2 : 63744 ≤ n ∧ n ≤ 64255
    · obtain ⟨h1, h2⟩ := c2
      have h3 : ¬ n ≤ 40959 := by omega
      have h4 : 19968 ≤ n := by omega
      go_enter Tryd.func44, Tryd.ntmps44
      go_wp2
      go_ret
      exact ⟨by simp [baseR, h1, h2], rfl⟩
    · by_cases c3 : 13312 ≤ n ∧ n ≤ 19903
      · obtain ⟨h1, h2⟩ := c3
        have h3 : ¬ 19968 ≤ n := by omega
        have h4 : ¬ 63744 ≤ n := by omega
        go_enter Tryd.func44, Tryd.ntmps44
        go_wp2
        go_ret
        exact ⟨by simp [baseR, h1, h2]; omega, rfl⟩
      · by_cases c4 : 131072 ≤ n ∧ n ≤ 262143
        · obtain ⟨h1, h2⟩ := c4
          have h3 : 19968 ≤ n := by omega
          have h4 : 63744 ≤ n := by omega
          have h5 : ¬ n ≤ 40959 := by omega
          have h6 : ¬ n ≤ 64255 := by omega
          have h7 : 13312 ≤ n := by omega
          have h8 : ¬ n ≤ 19903 := by omega
          go_enter Tryd.func44, Tryd.ntmps44
          go_wp2
          go_ret
          exact ⟨by simp [baseR, h1, h2, h5, h6], rfl⟩
        · have e : baseR n = 64448 := by unfold baseR; rw [if_neg (by omega), if_neg (by omega)]
          have E : Hid (baseR n = 64448) := e
          clear e
          by_cases h1 : 19968 ≤ n <;> by_cases h2 : 63744 ≤ n <;> by_cases h3 : 13312 ≤ n <;> by_cases h4 : 131072 ≤ n <;> try (exfalso; omega)
          all_goals
            first
            | have h5 : ¬ n ≤ 40959 := by omega
            | skip
            first
            | have h6 : ¬ n ≤ 64255 := by omega
            | skip
            first
            | have h7 : ¬ n ≤ 19903 := by omega
            | skip
            first
            | have h8 : ¬ n ≤ 262143 := by omega
            | skip
            clear c1 c2 c3 c4
            go_enter Tryd.func44, Tryd.ntmps44
            go_wp2
            go_ret
            exact ⟨by rw [E.out]; rfl, rfl⟩

end Go.Proofs.YtfeppbiodbhpcaaDoor
