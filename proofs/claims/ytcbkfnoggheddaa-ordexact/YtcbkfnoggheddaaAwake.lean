/- What the document's examples come to (the statements' own 'awake'; nothing is claimed here). -/
import Derived.Test.YtcbkfnoggheddaaComp
namespace Go.Proofs.Ytcbkfnoggheddaa
open Go.RowKit Go.Vf

theorem aw1 (w : World) : Calls Try.prog 12 #[.string ⟨#[97, 0, 255, 0, 1, 97]⟩, .int .i64 0] w fun e w' => e = .returned (.tuple #[.string ⟨#[97, 0]⟩, .int .i64 5, .int .i64 0]) ∧ Below w.heap.size w w' :=
  unescape_ok ⟨#[97, 0, 255, 0, 1, 97]⟩ 0 (by decide) 5 [97, 0] (by decide) w (by decide)
theorem aw2 (w : World) : Calls Try.prog 17 #[.string ⟨#[97, 255]⟩] w fun e w' => e = .returned (.tuple #[.string ⟨#[98]⟩, .bool true]) ∧ Below w.heap.size w w' := by
  have h := next_any ⟨#[97, 255]⟩ w (by decide)
  have e : nextL (⟨#[97, 255]⟩ : ByteArray).data.toList = some [98] := by decide
  rw [e] at h
  exact h
theorem aw3 (w : World) : Calls Try.prog 14 #[.string ⟨#[97]⟩, .string ⟨#[97, 0]⟩] w fun e w' => e = .returned (.int .i64 (-1)) ∧ Below w.heap.size w w' := by
  have h := compare_any ⟨#[97]⟩ ⟨#[97, 0]⟩ w (by decide) (by decide)
  have e : cmpL (⟨#[97]⟩ : ByteArray).data.toList (⟨#[97, 0]⟩ : ByteArray).data.toList = -1 := by decide
  rw [e] at h
  exact h
theorem aw4 (w : World) : Calls Try.prog 11 #[.string ⟨#[97, 0]⟩] w fun e w' => e = .returned (.string ⟨#[97, 0, 255, 0, 1]⟩) ∧ Below w.heap.size w w' := by
  have h := escape_any ⟨#[97, 0]⟩ w (by decide)
  have e : esc (⟨#[97, 0]⟩ : ByteArray).data.toList = [97, 0, 255, 0, 1] := by decide
  rw [e] at h
  exact h
theorem aw5 (w : World) : Calls Try.prog 16 #[.string ⟨#[0, 97]⟩] w fun e w' => e = .returned (.string ⟨#[255, 158]⟩) ∧ Below w.heap.size w w' := by
  have h := flip_any ⟨#[0, 97]⟩ w (by decide)
  have e : flipL (⟨#[0, 97]⟩ : ByteArray).data.toList = [255, 158] := by decide
  rw [e] at h
  exact h

theorem below_next {w w1 w2 : World} (h : Below w.heap.size w w1) (k : Below w1.heap.size w1 w2) : Below w.heap.size w w2 := h.trans (k.mono h.size)

set_option maxHeartbeats 400000 in
theorem awake_any (w : World) : Calls Try.prog 8 #[] w fun e w' => e = .returned (.bool true) ∧ Below w.heap.size w w' := by
  go_enter Try.func8, Try.ntmps8
  go_wp2_with fail
  refine (aw1 _).mono ?_
  rintro e w1 ⟨rfl, hb1⟩
  go_wp2_with fail
  refine (aw2 _).mono ?_
  rintro e w2 ⟨rfl, hb2⟩
  go_wp2_with fail
  refine (aw3 _).mono ?_
  rintro e w3 ⟨rfl, hb3⟩
  go_wp2_with fail
  refine (aw4 _).mono ?_
  rintro e w4 ⟨rfl, hb4⟩
  go_wp2_with fail
  refine (aw5 _).mono ?_
  rintro e w5 ⟨rfl, hb5⟩
  go_wp2_with fail
  go_ret
  exact ⟨rfl, below_next (below_next (below_next (below_next hb1 hb2) hb3) hb4) hb5⟩
end Go.Proofs.Ytcbkfnoggheddaa
