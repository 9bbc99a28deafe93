/- What AsList, AsRaw, AsNumber, Depth and the methods of tuples do (contracts; nothing is claimed here). -/
import Derived.Test.YtedmmifflbnmbaaTell
namespace Go.Proofs.Ytedmmifflbnmbaa
open Go.RowKit Go.Vf

theorem Depth_any (v : Value) (p : Prt) (lo n₀ : Nat) (w : World) (h : VIn w lo n₀ v p) : Calls Try.prog 20 #[v] w fun e w' => e = .returned (.int .i64 (dep p : Nat)) ∧ w' = w := by
  have hc := depth_any v p lo n₀ w h
  clear h
  go_enter Try.func20, Try.ntmps20
  go_wp2_with fail
  refine hc.mono ?_
  rintro _ _ ⟨rfl, rfl⟩
  go_wp2_with fail
  go_ret
  exact ⟨rfl, rfl⟩
def asL (v : Value) (p : Prt) : Value := if p.kind = 7 then .tuple #[v, .bool true] else .tuple #[.nilIface, .bool false]
theorem asList_tup (a : Addr) (w : World) : Calls Try.prog 19 #[.iface 74 (.pointer (some a))] w fun e w' => e = .returned (.tuple #[.iface 74 (.pointer (some a)), .bool true]) ∧ w' = w := by
  have z4 := ta44_74
  have h37 : Calls Try.prog 37 #[.iface 74 (.pointer (some a))] w fun e w' => e = .returned (.tuple #[.iface 74 (.pointer (some a)), .bool true]) ∧ w' = w := by
    go_enter Try.func37, Try.ntmps37
    go_wp2_with fail
    go_ret2
    exact ⟨rfl, rfl⟩
  clear z4
  go_enter Try.func19, Try.ntmps19
  go_wp2_with fail
  refine h37.mono ?_
  rintro _ _ ⟨rfl, rfl⟩
  go_wp2_with fail
  go_ret2
  exact ⟨rfl, rfl⟩
theorem asList_not (v : Value) (p : Prt) (lo n₀ : Nat) (w : World) (h : VIn w lo n₀ v p) (h7 : p.kind ≠ 7) : Calls Try.prog 19 #[v] w fun e w' => e = .returned (.tuple #[.nilIface, .bool false]) ∧ w' = w := by
  have z0 := ta44_nil
  have z1 := ta44_81
  have z2 := ta44_83
  have z3 := ta44_85
  have h37 : Calls Try.prog 37 #[v] w fun e w' => e = .returned (.tuple #[.nilIface, .bool false]) ∧ w' = w := by
    cases h
    case tup => exact absurd rfl h7
    all_goals
      go_enter Try.func37, Try.ntmps37
      go_wp2_with fail
      go_ret2
      exact ⟨rfl, rfl⟩
  clear z0 z1 z2 z3 h
  go_enter Try.func19, Try.ntmps19
  go_wp2_with fail
  refine h37.mono ?_
  rintro _ _ ⟨rfl, rfl⟩
  go_wp2_with fail
  go_ret2
  exact ⟨rfl, rfl⟩
theorem asRaw_raw (k : Int) (r : ByteArray) (w : World) : Calls Try.prog 21 #[.iface 85 (.agg #[.int .u8 k, .string r])] w fun e w' => e = .returned (.tuple #[.iface 85 (.agg #[.int .u8 k, .string r]), .bool true]) ∧ w' = w := by
  have z4 := ta58_85
  have h37 : Calls Try.prog 39 #[.iface 85 (.agg #[.int .u8 k, .string r])] w fun e w' => e = .returned (.tuple #[.iface 85 (.agg #[.int .u8 k, .string r]), .bool true]) ∧ w' = w := by
    go_enter Try.func39, Try.ntmps39
    go_wp2_with fail
    go_ret2
    exact ⟨rfl, rfl⟩
  clear z4
  go_enter Try.func21, Try.ntmps21
  go_wp2_with fail
  refine h37.mono ?_
  rintro _ _ ⟨rfl, rfl⟩
  go_wp2_with fail
  go_ret2
  exact ⟨rfl, rfl⟩
theorem mLen (a : Addr) (w : World) : (method 208 74 (.pointer (some a)) "Len").run Try.prog w = .ok (68, .pointer (some a)) w := by kernel_rfl
theorem mAt (a : Addr) (w : World) : (method 208 74 (.pointer (some a)) "At").run Try.prog w = .ok (66, .pointer (some a)) w := by kernel_rfl
theorem mBytes (k : Int) (r : ByteArray) (w : World) : (method 208 85 (.agg #[.int .u8 k, .string r]) "Bytes").run Try.prog w = .ok (75, .agg #[.int .u8 k, .string r]) w := by kernel_rfl
theorem len_any (g : Nat) (a : Option Addr) (ln c : Nat) (w : World) (h : w.cell? ⟨g, 0, none⟩ = some (.slice a ln c)) (_hl : ln ≤ 281474976710656) : Calls Try.prog 68 #[.pointer (some ⟨g, 0, none⟩)] w fun e w' => e = .returned (.int .i64 ln) ∧ w' = w := by
  go_enter Try.func68, Try.ntmps68
  go_wp2_with fail
  go_ret
  exact ⟨rfl, rfl⟩
theorem at_in (g h off : Nat) (ln c j : Nat) (v : Value) (w : World) (hj : j < ln) (_hl : ln ≤ 281474976710656) (h0 : w.cell? ⟨g, 0, none⟩ = some (.slice (some ⟨h, off, none⟩) ln c)) (h1 : w.cell? ⟨h, off + j, none⟩ = some v) :
    Calls Try.prog 66 #[.pointer (some ⟨g, 0, none⟩), .int .i64 j] w fun e w' => e = .returned v ∧ w' = w := by
  go_enter Try.func66, Try.ntmps66
  go_wp2_with fail
  go_ret
  exact ⟨rfl, rfl⟩
theorem bytes_any (k : Int) (r : ByteArray) (w : World) : Calls Try.prog 75 #[.agg #[.int .u8 k, .string r]] w fun e w' => e = .returned (.string r) ∧ Below w.heap.size w w' := by
  go_enter Try.func75, Try.ntmps75
  go_wp2_with fail
  go_ret
  exact ⟨rfl, (Below.refl _ _).alloc (Nat.le_refl _) _⟩
end Go.Proofs.Ytedmmifflbnmbaa
