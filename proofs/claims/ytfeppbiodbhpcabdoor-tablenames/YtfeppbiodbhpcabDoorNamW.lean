/- TableNames: the errors' numbers and the limits (a walk; nothing is claimed here). -/
import Derived.Test.YtfeppbiodbhpcabDoorLaid
namespace Go.Proofs.YtfeppbiodbhpcabDoor
open Go.RowKit Go.Vf Go.Maps

def nmText : ByteArray := ⟨#[48]⟩
def nmText2 : ByteArray := ⟨#[48, 48, 52, 49, 59, 91, 46, 48, 48, 48, 49, 46, 48, 48, 48, 48, 46, 48, 48, 48, 48, 93]⟩
def nmTest (r : Except (Int × Int) (List Ent)) (a b : Int) : Bool := match r with
  | .error (why, line) => why == a && line == b
  | .ok _ => false
set_option maxRecDepth 100000 in
theorem nm_one : nmTest (loadT nmText.data.toList) 60 1 = true := by kernel_rfl
set_option maxRecDepth 100000 in
theorem nm_two : nmTest (loadT nmText2.data.toList) 62 1 = true := by kernel_rfl
theorem nm_of {r : Except (Int × Int) (List Ent)} {a b : Int} (h : nmTest r a b = true) : r = .error (a, b) := by
  cases r with
  | ok E => cases h
  | error e =>
    obtain ⟨x, y⟩ := e
    unfold nmTest at h
    simp only [Bool.and_eq_true, beq_iff_eq] at h
    rw [h.1, h.2]
set_option maxHeartbeats 1000000 in
set_option maxRecDepth 20000 in
theorem names_walk (w : World) (hg : Glob w) : Calls Tryd.prog 3 #[] w fun e w' => e = .returned (.bool true) ∧ Below w.heap.size w w' := by
  have h1 := hg
  obtain ⟨m, hm⟩ := h1
  have hla := load_any nmText m w hm (by decide)
  rw [nm_of nm_one] at hla
  have H2 : Hid (loadT nmText2.data.toList = .error (62, 1)) := nm_of nm_two
  go_enter Tryd.func3, Tryd.ntmps3
  go_wp2_with fail
  refine hla.mono ?_
  rintro _ w1 ⟨b1, hq1⟩
  obtain rfl : _ = _ := hq1
  have hg1 := hg.below b1
  have h2 := hg1
  obtain ⟨m1, hm1⟩ := h2
  have hlb := load_any nmText2 m1 w1 hm1 (by decide)
  rw [H2.out] at hlb
  go_wp2_with fail
  refine hlb.mono ?_
  rintro _ w2 ⟨b2, hq2⟩
  obtain rfl : _ = _ := hq2
  have hg2 := hg1.below b2
  have b02 := below_two b1 b2
  go_wp2_with fail
  refine (awake_glob w2 hg2).mono ?_
  rintro _ w3 ⟨rfl, b3⟩
  have b03 := below_two b02 b3
  go_wp2
  go_ret
  exact ⟨rfl, b03⟩
end Go.Proofs.YtfeppbiodbhpcabDoor
