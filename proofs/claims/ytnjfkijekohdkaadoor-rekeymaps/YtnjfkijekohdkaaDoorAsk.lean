/- What AsList, AsRaw, AsNumber, Depth and the methods of tuples do (contracts; nothing is claimed here). -/
import Derived.Test.YtnjfkijekohdkaaDoorTell
namespace Go.Proofs.YtnjfkijekohdkaaDoor
open Go.RowKit Go.Vf

theorem Depth_any (v : Value) (p : Prt) (lo n₀ : Nat) (w : World) (h : VIn w lo n₀ v p) : Calls Tryd.prog 61 #[v] w fun e w' => e = .returned (.int .i64 (dep p : Nat)) ∧ w' = w := by
  have hc := depth_any v p lo n₀ w h
  clear h
  go_enter Tryd.func61, Tryd.ntmps61
  go_wp2_with fail
  refine hc.mono ?_
  rintro _ _ ⟨rfl, rfl⟩
  go_wp2_with fail
  go_ret
  exact ⟨rfl, rfl⟩
theorem mLen (a : Addr) (w : World) : (method 271 83 (.pointer (some a)) "Len").run Tryd.prog w = .ok (90, .pointer (some a)) w := by kernel_rfl
theorem mAt (a : Addr) (w : World) : (method 271 83 (.pointer (some a)) "At").run Tryd.prog w = .ok (88, .pointer (some a)) w := by kernel_rfl
theorem len_any (g : Nat) (a : Option Addr) (ln c : Nat) (w : World) (h : w.cell? ⟨g, 0, none⟩ = some (.slice a ln c)) (_hl : ln ≤ 281474976710656) : Calls Tryd.prog 90 #[.pointer (some ⟨g, 0, none⟩)] w fun e w' => e = .returned (.int .i64 ln) ∧ w' = w := by
  go_enter Tryd.func90, Tryd.ntmps90
  go_wp2_with fail
  go_ret
  exact ⟨rfl, rfl⟩
theorem at_in (g h off : Nat) (ln c j : Nat) (v : Value) (w : World) (hj : j < ln) (_hl : ln ≤ 281474976710656) (h0 : w.cell? ⟨g, 0, none⟩ = some (.slice (some ⟨h, off, none⟩) ln c)) (h1 : w.cell? ⟨h, off + j, none⟩ = some v) :
    Calls Tryd.prog 88 #[.pointer (some ⟨g, 0, none⟩), .int .i64 j] w fun e w' => e = .returned v ∧ w' = w := by
  go_enter Tryd.func88, Tryd.ntmps88
  go_wp2_with fail
  go_ret
  exact ⟨rfl, rfl⟩
end Go.Proofs.YtnjfkijekohdkaaDoor
