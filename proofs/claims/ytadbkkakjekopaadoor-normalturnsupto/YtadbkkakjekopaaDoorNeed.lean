/- What the reader's need, readDecimal, readHex, isSyllable, mayStand do (contracts; nothing is claimed here). -/
import Derived.Test.YtadbkkakjekopaaDoorCut
import Derived.Test.YtadbkkakjekopaaDoorApp
import Derived.Test.YtadbkkakjekopaaDoorChecked
import Derived.Deep.RegionHeld
import Derived.Defers
import Derived.Recover
namespace Go.Proofs.YtadbkkakjekopaaDoor
open Go.RowKit Go.Vf

/-- What a reader gives up with. -/
abbrev lostV (why line : Int) : Value := .iface 46 (.agg #[.int .i64 why, .int .i64 line])
abbrev lostE (why line : Int) : Ending := .panicked [{ v := lostV why line, recovered := false }]

/-- A callee that panics, met inside a region: what follows it is walked under a false hypothesis. -/
theorem calls_lost {P : Program} {f : FuncId} {args : Array Value} {w : World} {F : Ending → World → Prop} {e0 : Ending} {R : World → Prop} (v0 : Value) (hc : Calls P f args w fun e w' => e = e0 ∧ R w') (hF : ∀ w', R w' → F e0 w') (_fake : Hid False → F (.returned v0) w) : Calls P f args w F :=
  hc.mono (by rintro e w' ⟨rfl, h⟩; exact hF w' h)

theorem calls_fake {P : Program} {f : FuncId} {args : Array Value} {w : World} {F : Ending → World → Prop} (v0 : Value) (hX : Hid False) (_fake : F (.returned v0) w) : Calls P f args w F := hX.out.elim

theorem need_ok (p : Value) (h : Bool) (why : Int) (w : World) (hh : h = true) :
    Calls Tryd.prog 54 #[p, .bool h, .int .i64 why] w fun e w' => e = .returned (.tuple #[]) ∧ w = w' := by
  subst hh
  go_enter Tryd.func54, Tryd.ntmps54
  go_wp2
  go_end0
  exact ⟨rfl, rfl⟩

theorem need_no (b : Nat) (h : Bool) (why line : Int) (w : World) (hh : h = false) (hl : w.cell? ⟨b, 0, none⟩ = some (.int .i64 line)) :
    Calls Tryd.prog 54 #[.pointer (some ⟨b, 0, none⟩), .bool h, .int .i64 why] w fun e w' => e = lostE why line ∧ w = w' := by
  subst hh
  go_enter Tryd.func54, Tryd.ntmps54
  go_wp2
  exact ⟨rfl, rfl, rfl⟩

def gotN (line : Int) : Option Nat → Ending
  | some n => .returned (.int .i64 (n : Int))
  | none => lostE 40 line

theorem readDecimal_any (b : Nat) (c : UInt8) (line : Int) (w : World) (hl : w.cell? ⟨b, 0, none⟩ = some (.int .i64 line)) :
    Calls Tryd.prog 73 #[.pointer (some ⟨b, 0, none⟩), .int .u8 (c.toNat : Int)] w fun e w' => e = gotN line (decV c) ∧ w = w' := by
  have hc := c.toNat_lt
  by_cases h : 48 ≤ c.toNat ∧ c.toNat ≤ 57
  · obtain ⟨h1, h2⟩ := h
    have e1 : decV c = some (c.toNat - 48) := by simp [decV, h1, h2]
    rw [e1]
    go_enter Tryd.func73, Tryd.ntmps73
    go_wp2_with fail
    refine (need_ok _ _ _ _ (by simp; try omega)).mono ?_
    rintro e w1 ⟨rfl, rfl⟩
    go_wp2
    go_ret
    refine ⟨?_, rfl⟩
    simp [gotN]
    omega
  · have e1 : decV c = none := by simp [decV]; omega
    rw [e1]
    go_enter Tryd.func73, Tryd.ntmps73
    go_wp2_with fail
    all_goals
      refine (need_no b _ _ line _ (by simp; try omega) hl).mono ?_
      rintro e w1 ⟨rfl, rfl⟩
      go_wp2
      exact ⟨rfl, rfl, rfl⟩

end Go.Proofs.YtadbkkakjekopaaDoor
