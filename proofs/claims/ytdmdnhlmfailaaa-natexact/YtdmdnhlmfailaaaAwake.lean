/- What the document's examples come to (the statements' own 'awake'; nothing is claimed here). -/
import Derived.Test.YtdmdnhlmfailaaaPrint
import Derived.Test.YtdmdnhlmfailaaaParse
import Derived.Test.YtdmdnhlmfailaaaSmall
namespace Go.Proofs.Ytdmdnhlmfailaaa
open Go.RowKit Go.Vf

theorem low256 : lowD 256 = [0, 1] := by
  rw [lowD_pos (by decide), lowD_pos (show 256 / 256 ≠ 0 by decide), show 256 / 256 / 256 = 0 by decide, lowD_zero]
  decide
theorem dec256 : decD 256 = [54, 53, 50] := by
  rw [decD_pos (by decide), decD_pos (show 256 / 10 ≠ 0 by decide), decD_pos (show 256 / 10 / 10 ≠ 0 by decide), show 256 / 10 / 10 / 10 = 0 by decide, decD_zero]
  decide

theorem aw1 (w : World) : Calls Try.prog 16 #[.string ⟨#[45, 50, 53, 54]⟩] w fun e w' => e = .returned (.tuple #[numV true ⟨#[1, 0]⟩, .int .i64 0]) ∧ Below w.heap.size w w' := by
  have h := parse_any ⟨#[45, 50, 53, 54]⟩ (by decide) w
  have e : parseE (parseR (⟨#[45, 50, 53, 54]⟩ : ByteArray).data.toList) = .returned (.tuple #[numV true ⟨#[1, 0]⟩, .int .i64 0]) := by
    have e1 : digOK (parseD [45, 50, 53, 54]) (parseB [45, 50, 53, 54]) = true := by decide
    have e2 : dval (parseD [45, 50, 53, 54]) = 256 := by decide
    have e3 : parseB [45, 50, 53, 54] = true := by decide
    show parseE (parseR [45, 50, 53, 54]) = _
    rw [parseR, e1, e2, low256, e3]
    rfl
  rw [e] at h
  exact h
theorem aw2 (w : World) : Calls Try.prog 13 #[numV true ⟨#[1, 0]⟩] w fun e w' => e = .returned (.tuple #[.string ⟨#[126, 254, 255]⟩, .int .i64 0]) ∧ Below w.heap.size w w' := by
  have h := put_any true ⟨#[1, 0]⟩ (by decide) w
  have e : putE true (⟨#[1, 0]⟩ : ByteArray).data.toList = .returned (.tuple #[.string ⟨#[126, 254, 255]⟩, .int .i64 0]) := by
    have e1 : chk true [1, 0] = 0 := by decide
    have e2 : putL true [1, 0] = [126, 254, 255] := by decide
    show putE true [1, 0] = _
    rw [putE, e1, e2]
    rfl
  rw [e] at h
  exact h
theorem aw3 (w : World) : Calls Try.prog 15 #[.string ⟨#[97, 126, 254, 255]⟩, .int .i64 1] w fun e w' => e = .returned (.tuple #[numV true ⟨#[1, 0]⟩, .int .i64 4, .int .i64 0]) ∧ Below w.heap.size w w' := by
  have h := take_any ⟨#[97, 126, 254, 255]⟩ 1 (by decide) (by decide) w
  have e : takeE 1 (tk ((⟨#[97, 126, 254, 255]⟩ : ByteArray).data.toList.drop 1)) = .returned (.tuple #[numV true ⟨#[1, 0]⟩, .int .i64 4, .int .i64 0]) := by
    have e1 : tk [126, 254, 255] = (3, some (true, [1, 0])) := by decide
    show takeE 1 (tk [126, 254, 255]) = _
    rw [e1]
    rfl
  rw [e] at h
  exact h
theorem aw4 (w : World) : Calls Try.prog 14 #[numV false ⟨#[1, 0]⟩] w fun e w' => e = .returned (.tuple #[.string ⟨#[50, 53, 54]⟩, .int .i64 0]) ∧ Below w.heap.size w w' := by
  have h := print_any false ⟨#[1, 0]⟩ (by decide) w
  have e : printE false (⟨#[1, 0]⟩ : ByteArray).data.toList = .returned (.tuple #[.string ⟨#[50, 53, 54]⟩, .int .i64 0]) := by
    have e1 : chk false [1, 0] = 0 := by decide
    have e2 : hvl [1, 0] = 256 := by decide
    show printE false [1, 0] = _
    rw [printE, e1, printL, e2, dec256]
    rfl
  rw [e] at h
  exact h
theorem aw5 (w : World) : Calls Try.prog 19 #[.int .i64 (-256)] w fun e w' => e = .returned (numV true ⟨#[1, 0]⟩) ∧ Below w.heap.size w w' := by
  have h := of_any (-256) (by decide) (by decide) w
  have e : ofE (-256) = .returned (numV true ⟨#[1, 0]⟩) := by
    rw [ofE, show (-256 : Int).natAbs = 256 by decide, low256]
    rfl
  rw [e] at h
  exact h
theorem aw6 (w : World) : Calls Try.prog 20 #[numV true ⟨#[1, 0]⟩] w fun e w' => e = .returned (.tuple #[.int .i64 (-256), .bool true]) ∧ Below w.heap.size w w' := by
  have h := small_any true ⟨#[1, 0]⟩ (by decide) w
  have e : smallE (smallOf true (⟨#[1, 0]⟩ : ByteArray).data.toList) = .returned (.tuple #[.int .i64 (-256), .bool true]) := by
    have e1 : smallOf true [1, 0] = some (-256) := by decide
    show smallE (smallOf true [1, 0]) = _
    rw [e1]
    rfl
  rw [e] at h
  exact h

set_option maxHeartbeats 1000000 in
theorem awake_any (w : World) : Calls Try.prog 9 #[] w fun e w' => e = .returned (.bool true) ∧ Below w.heap.size w w' := by
  go_enter Try.func9, Try.ntmps9
  go_wp2_with fail
  refine (aw1 _).mono ?_
  rintro e w1 ⟨rfl, hb1⟩
  have hA := hb1.alloc hb1.size (.cells #[.bool true, .string ⟨#[1, 0]⟩] 26)
  have hS : (w1.alloc (.cells #[.bool true, .string ⟨#[1, 0]⟩] 26)).cell? ⟨w1.heap.size, 0, none⟩ = some (.bool true) ∧ (w1.alloc (.cells #[.bool true, .string ⟨#[1, 0]⟩] 26)).cell? ⟨w1.heap.size, 1, none⟩ = some (.string ⟨#[1, 0]⟩) ∧ w1.heap.size < (w1.alloc (.cells #[.bool true, .string ⟨#[1, 0]⟩] 26)).heap.size := ⟨by simp, by simp, by simp⟩
  go_wp2_with fail
  generalize w1.alloc (.cells #[.bool true, .string ⟨#[1, 0]⟩] 26) = W1 at hA hS ⊢
  refine (aw2 _).mono ?_
  rintro e w2 ⟨rfl, hb2⟩
  replace hA := hA.trans (hb2.mono hA.size)
  replace hS := box_num hb2 hS
  clear hb2
  go_wp2_with fail
  refine (aw3 _).mono ?_
  rintro e w3 ⟨rfl, hb3⟩
  replace hA := hA.trans (hb3.mono hA.size)
  replace hS := box_num hb3 hS
  clear hb3
  have hT : (w3.alloc (.cells #[.bool true, .string ⟨#[1, 0]⟩] 26)).cell? ⟨w3.heap.size, 0, none⟩ = some (.bool true) ∧ (w3.alloc (.cells #[.bool true, .string ⟨#[1, 0]⟩] 26)).cell? ⟨w3.heap.size, 1, none⟩ = some (.string ⟨#[1, 0]⟩) ∧ w3.heap.size < (w3.alloc (.cells #[.bool true, .string ⟨#[1, 0]⟩] 26)).heap.size := ⟨by simp, by simp, by simp⟩
  replace hA := hA.alloc hA.size (.cells #[.bool true, .string ⟨#[1, 0]⟩] 26)
  replace hS := box_num ((Below.refl w3.heap.size w3).alloc (Nat.le_refl _) (.cells #[.bool true, .string ⟨#[1, 0]⟩] 26)) hS
  go_wp2_with fail
  generalize w3.alloc (.cells #[.bool true, .string ⟨#[1, 0]⟩] 26) = W3 at hA hS hT ⊢
  refine (aw4 _).mono ?_
  rintro e w4 ⟨rfl, hb4⟩
  replace hA := hA.trans (hb4.mono hA.size)
  replace hS := box_num hb4 hS
  replace hT := box_num hb4 hT
  clear hb4
  go_wp2_with fail
  refine (aw5 _).mono ?_
  rintro e w5 ⟨rfl, hb5⟩
  replace hA := hA.trans (hb5.mono hA.size)
  replace hS := box_num hb5 hS
  replace hT := box_num hb5 hT
  clear hb5
  go_wp2_with fail
  refine (aw6 _).mono ?_
  rintro e w6 ⟨rfl, hb6⟩
  replace hA := hA.trans (hb6.mono hA.size)
  obtain ⟨s0, s1, s2⟩ := box_num hb6 hS
  obtain ⟨t0, t1, t2⟩ := box_num hb6 hT
  clear hb6 hS hT
  go_wp2_with fail
  go_ret
  exact ⟨rfl, hA⟩
end Go.Proofs.Ytdmdnhlmfailaaa
