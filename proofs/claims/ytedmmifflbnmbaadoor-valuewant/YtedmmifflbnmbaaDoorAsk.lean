/- What AsList, AsRaw, AsNumber, Depth and the methods of tuples do (contracts; nothing is claimed here). -/
import Derived.Test.YtedmmifflbnmbaaDoorTell
namespace Go.Proofs.YtedmmifflbnmbaaDoor
open Go.RowKit Go.Vf

theorem Depth_any (v : Value) (p : Prt) (lo n₀ : Nat) (w : World) (h : VIn w lo n₀ v p) : Calls Tryd.prog 14 #[v] w fun e w' => e = .returned (.int .i64 (dep p : Nat)) ∧ w' = w := by
  have hc := depth_any v p lo n₀ w h
  clear h
  go_enter Tryd.func14, Tryd.ntmps14
  go_wp2_with fail
  refine hc.mono ?_
  rintro _ _ ⟨rfl, rfl⟩
  go_wp2_with fail
  go_ret
  exact ⟨rfl, rfl⟩
def asL (v : Value) (p : Prt) : Value := if p.kind = 7 then .tuple #[v, .bool true] else .tuple #[.nilIface, .bool false]
theorem asList_tup (a : Addr) (w : World) : Calls Tryd.prog 12 #[.iface 88 (.pointer (some a))] w fun e w' => e = .returned (.tuple #[.iface 88 (.pointer (some a)), .bool true]) ∧ w' = w := by
  have z4 := ta44_74
  have h37 : Calls Tryd.prog 30 #[.iface 88 (.pointer (some a))] w fun e w' => e = .returned (.tuple #[.iface 88 (.pointer (some a)), .bool true]) ∧ w' = w := by
    go_enter Tryd.func30, Tryd.ntmps30
    go_wp2_with fail
    go_ret2
    exact ⟨rfl, rfl⟩
  clear z4
  go_enter Tryd.func12, Tryd.ntmps12
  go_wp2_with fail
  refine h37.mono ?_
  rintro _ _ ⟨rfl, rfl⟩
  go_wp2_with fail
  go_ret2
  exact ⟨rfl, rfl⟩
theorem asList_not (v : Value) (p : Prt) (lo n₀ : Nat) (w : World) (h : VIn w lo n₀ v p) (h7 : p.kind ≠ 7) : Calls Tryd.prog 12 #[v] w fun e w' => e = .returned (.tuple #[.nilIface, .bool false]) ∧ w' = w := by
  have z0 := ta44_nil
  have z1 := ta44_81
  have z2 := ta44_83
  have z3 := ta44_85
  have h37 : Calls Tryd.prog 30 #[v] w fun e w' => e = .returned (.tuple #[.nilIface, .bool false]) ∧ w' = w := by
    cases h
    case tup => exact absurd rfl h7
    all_goals
      go_enter Tryd.func30, Tryd.ntmps30
      go_wp2_with fail
      go_ret2
      exact ⟨rfl, rfl⟩
  clear z0 z1 z2 z3 h
  go_enter Tryd.func12, Tryd.ntmps12
  go_wp2_with fail
  refine h37.mono ?_
  rintro _ _ ⟨rfl, rfl⟩
  go_wp2_with fail
  go_ret2
  exact ⟨rfl, rfl⟩
theorem asRaw_raw (k : Int) (r : ByteArray) (w : World) : Calls Tryd.prog 13 #[.iface 91 (.agg #[.int .u8 k, .string r])] w fun e w' => e = .returned (.tuple #[.iface 91 (.agg #[.int .u8 k, .string r]), .bool true]) ∧ w' = w := by
  have z4 := ta58_85
  have h37 : Calls Tryd.prog 31 #[.iface 91 (.agg #[.int .u8 k, .string r])] w fun e w' => e = .returned (.tuple #[.iface 91 (.agg #[.int .u8 k, .string r]), .bool true]) ∧ w' = w := by
    go_enter Tryd.func31, Tryd.ntmps31
    go_wp2_with fail
    go_ret2
    exact ⟨rfl, rfl⟩
  clear z4
  go_enter Tryd.func13, Tryd.ntmps13
  go_wp2_with fail
  refine h37.mono ?_
  rintro _ _ ⟨rfl, rfl⟩
  go_wp2_with fail
  go_ret2
  exact ⟨rfl, rfl⟩
theorem mLen (a : Addr) (w : World) : (method 255 88 (.pointer (some a)) "Len").run Tryd.prog w = .ok (78, .pointer (some a)) w := by kernel_rfl
theorem mAt (a : Addr) (w : World) : (method 255 88 (.pointer (some a)) "At").run Tryd.prog w = .ok (76, .pointer (some a)) w := by kernel_rfl
theorem mBytes (k : Int) (r : ByteArray) (w : World) : (method 255 91 (.agg #[.int .u8 k, .string r]) "Bytes").run Tryd.prog w = .ok (80, .agg #[.int .u8 k, .string r]) w := by kernel_rfl
theorem len_any (g : Nat) (a : Option Addr) (ln c : Nat) (w : World) (h : w.cell? ⟨g, 0, none⟩ = some (.slice a ln c)) (_hl : ln ≤ 281474976710656) : Calls Tryd.prog 78 #[.pointer (some ⟨g, 0, none⟩)] w fun e w' => e = .returned (.int .i64 ln) ∧ w' = w := by
  go_enter Tryd.func78, Tryd.ntmps78
  go_wp2_with fail
  go_ret
  exact ⟨rfl, rfl⟩
theorem at_in (g h off : Nat) (ln c j : Nat) (v : Value) (w : World) (hj : j < ln) (_hl : ln ≤ 281474976710656) (h0 : w.cell? ⟨g, 0, none⟩ = some (.slice (some ⟨h, off, none⟩) ln c)) (h1 : w.cell? ⟨h, off + j, none⟩ = some v) :
    Calls Tryd.prog 76 #[.pointer (some ⟨g, 0, none⟩), .int .i64 j] w fun e w' => e = .returned v ∧ w' = w := by
  go_enter Tryd.func76, Tryd.ntmps76
  go_wp2_with fail
  go_ret
  exact ⟨rfl, rfl⟩
theorem bytes_any (k : Int) (r : ByteArray) (w : World) : Calls Tryd.prog 80 #[.agg #[.int .u8 k, .string r]] w fun e w' => e = .returned (.string r) ∧ Below w.heap.size w w' := by
  go_enter Tryd.func80, Tryd.ntmps80
  go_wp2_with fail
  go_ret
  exact ⟨rfl, (Below.refl _ _).alloc (Nat.le_refl _) _⟩
end Go.Proofs.YtedmmifflbnmbaaDoor
