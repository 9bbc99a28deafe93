/- What AsList, AsRaw, AsNumber, Depth and the methods of tuples do (contracts; nothing is claimed here). -/
import Derived.Test.YtkjoomdglealmaaGreatDoorJ14
namespace Go.Proofs.YtkjoomdglealmaaGreatDoor
open Go.RowKit Go.Vf

theorem asList_tup (a : Addr) (w : World) : Calls Tryz.prog 28 #[.iface 112 (.pointer (some a))] w fun e w' => e = .returned (.tuple #[.iface 112 (.pointer (some a)), .bool true]) ∧ w' = w := by
  have z4 := ta44_74
  have h37 : Calls Tryz.prog 58 #[.iface 112 (.pointer (some a))] w fun e w' => e = .returned (.tuple #[.iface 112 (.pointer (some a)), .bool true]) ∧ w' = w := by
    go_enter Tryz.func58, Tryz.ntmps58
    go_wp2_with fail
    go_ret2
    exact ⟨rfl, rfl⟩
  clear z4
  go_enter Tryz.func28, Tryz.ntmps28
  go_wp2_with fail
  refine h37.mono ?_
  rintro _ _ ⟨rfl, rfl⟩
  go_wp2_with fail
  go_ret2
  exact ⟨rfl, rfl⟩
theorem asList_not (v : Value) (p : Prt) (lo n₀ : Nat) (w : World) (h : VIn w lo n₀ v p) (h7 : p.kind ≠ 7) : Calls Tryz.prog 28 #[v] w fun e w' => e = .returned (.tuple #[.nilIface, .bool false]) ∧ w' = w := by
  have z0 := ta44_nil
  have z1 := ta44_81
  have z2 := ta44_83
  have z3 := ta44_85
  have h37 : Calls Tryz.prog 58 #[v] w fun e w' => e = .returned (.tuple #[.nilIface, .bool false]) ∧ w' = w := by
    cases h
    case tup => exact absurd rfl h7
    all_goals
      go_enter Tryz.func58, Tryz.ntmps58
      go_wp2_with fail
      go_ret2
      exact ⟨rfl, rfl⟩
  clear z0 z1 z2 z3 h
  go_enter Tryz.func28, Tryz.ntmps28
  go_wp2_with fail
  refine h37.mono ?_
  rintro _ _ ⟨rfl, rfl⟩
  go_wp2_with fail
  go_ret2
  exact ⟨rfl, rfl⟩
end Go.Proofs.YtkjoomdglealmaaGreatDoor
