/- What UcdNames does (a contract; nothing is claimed here). -/
import Derived.Test.YtpmckfmjegehgabGreatDoorAwake
namespace Go.Proofs.YtpmckfmjegehgabGreatDoor
open Go.RowKit Go.Vf Go.Maps Go.Sort
def nmTest (a b : Int) (r : Except (Int × Int) (List Mk × (Int → List Int))) : Bool :=
  match r with
  | .error (why, line) => why == a && line == b
  | .ok _ => false
theorem nm_of {a b : Int} {r : Except (Int × Int) (List Mk × (Int → List Int))} (h : nmTest a b r = true) : r = .error (a, b) := by
  cases r with
  | ok p => cases h
  | error e =>
    obtain ⟨x, y⟩ := e
    unfold nmTest at h
    simp only [Bool.and_eq_true, beq_iff_eq] at h
    rw [h.1, h.2]
set_option maxRecDepth 100000 in
theorem nm_one : nmTest 40 1 (loadR (⟨#[48]⟩ : ByteArray).data.toList) = true := by kernel_rfl
set_option maxRecDepth 100000 in
theorem nm_two : nmTest 42 1 (loadR (⟨#[48, 48, 52, 49, 59, 48, 59, 48, 48, 52, 49]⟩ : ByteArray).data.toList) = true := by kernel_rfl

set_option maxHeartbeats 4000000 in
set_option maxRecDepth 20000 in
theorem names_walk (w : World) (hg : Glob w) : Calls Tryz.prog 3 #[] w fun e w' => e = .returned (.bool true) ∧ Below w.heap.size w w' := by
  have H1 : Hid (loadR (⟨#[48]⟩ : ByteArray).data.toList = .error (40, 1)) := nm_of nm_one
  have H2 : Hid (loadR (⟨#[48, 48, 52, 49, 59, 48, 59, 48, 48, 52, 49]⟩ : ByteArray).data.toList = .error (42, 1)) := nm_of nm_two
  go_enter Tryz.func3, Tryz.ntmps3
  go_wp2_with fail
  refine (load_glob ⟨#[48]⟩ w hg (by decide)).mono ?_
  rintro e w1 ⟨hb1, hpost⟩
  rw [H1.out] at hpost
  obtain rfl : e = _ := hpost
  have hg1 := hg.below hb1
  go_wp2_with fail
  refine (load_glob ⟨#[48, 48, 52, 49, 59, 48, 59, 48, 48, 52, 49]⟩ w1 hg1 (by decide)).mono ?_
  rintro e w2 ⟨hb2, hpost⟩
  rw [H2.out] at hpost
  obtain rfl : e = _ := hpost
  have hg2 := hg1.below hb2
  go_wp2_with fail
  refine (awake_any w2 hg2).mono ?_
  rintro e w3 ⟨rfl, hb3⟩
  go_wp2_with fail
  go_ret
  exact ⟨rfl, below_two (below_two hb1 hb2) hb3⟩

end Go.Proofs.YtpmckfmjegehgabGreatDoor
