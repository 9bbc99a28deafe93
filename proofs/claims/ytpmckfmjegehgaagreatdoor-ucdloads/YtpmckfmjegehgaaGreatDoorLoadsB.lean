/- The document's Load, plainly, further: one line, all the lines, what back and whole are asked of (nothing is claimed here). -/
import Derived.Test.YtpmckfmjegehgaaGreatDoorLoadsA
namespace Go.Proofs.YtpmckfmjegehgaaGreatDoor
open Go.RowKit Go.Vf Go.Maps

/-- Longer than 18, cut or not. -/
theorem whole_long (G : Int → List Int) (k : Nat) (p : Int) : (whF G 18 k [] p).length ≤ 19 ∧ (18 < (whF G 18 k [] p).length ↔ 18 < (wh G k p).length) := by
  rw [whF_eq G 18 k [] p (by simp), List.nil_append, List.length_take]
  omega
/-- Parts are no syllables, and not too many. -/
theorem parts_plain {t : List UInt8} {L : List Mk} (hlen : t.length ≤ 65536) (hl : linesR (cutL 10 t) 0 [] = .ok L) (p : Int) : (∀ q ∈ partsP (marksR L) p, isSyl q = false) ∧ (partsP (marksR L) p).length ≤ 131072 := by
  obtain ⟨hok, hnd, _, hs, _⟩ := load_total hlen hl
  rw [partsP_marks hnd]
  refine ⟨fun q hq => ?_, ?_⟩
  · obtain ⟨m, hm, _, hq'⟩ := partsAt_mem hq
    exact may_not_syl ((hok m hm).2.1 q hq')
  · unfold partsAt
    cases hm : markAt L p with
    | none => simp
    | some m =>
      have := sumP_mem (List.mem_of_find?_eq_some hm)
      simp
      omega
theorem point_plain {t : List UInt8} {L : List Mk} (hlen : t.length ≤ 65536) (hl : linesR (cutL 10 t) 0 [] = .ok L) {m : Mk} (hm : m ∈ L) : isSyl m.point = false := may_not_syl ((load_total hlen hl).1 m hm).1
/-- A point is among the marks in order iff it is among those read. -/
theorem marksR_has {L : List Mk} (p : Int) : (∃ i, ∃ h : i < (marksR L).length, ((marksR L)[i]).point = p) ↔ L.any (fun m => m.point == p) = true := by
  have hmem : p ∈ (marksR L).map PM.point ↔ p ∈ L.map Mk.point := by rw [marksR_points]; exact (List.mergeSort_perm _ _).mem_iff
  constructor
  · rintro ⟨i, h, e⟩
    have := hmem.1 (List.mem_map.2 ⟨_, List.getElem_mem h, e⟩)
    obtain ⟨m, hm, e2⟩ := List.mem_map.1 this
    exact List.any_eq_true.2 ⟨m, hm, by simp [e2]⟩
  · intro h
    obtain ⟨m, hm, e⟩ := List.any_eq_true.1 h
    obtain ⟨x, hx, e2⟩ := List.mem_map.1 (hmem.2 (List.mem_map.2 ⟨m, hm, by simpa using e⟩))
    obtain ⟨i, hi, e3⟩ := List.mem_iff_getElem.1 hx
    exact ⟨i, hi, by rw [e3]; exact e2⟩
/-! ### one line of those that are left -/
theorem lines_silent {C : List (List UInt8)} {j : Nat} (hj : j < C.length) {n : Int} {acc : List Mk} (h : silentL C[j] = true) : linesR (C.drop j) n acc = linesR (C.drop (j + 1)) (n + 1) acc := by
  rw [List.drop_eq_getElem_cons hj, linesR, if_pos h]
theorem lines_none {C : List (List UInt8)} {j : Nat} (hj : j < C.length) {n : Int} {acc : List Mk} (h : silentL C[j] = false) (hm : markR C[j] = none) : linesR (C.drop j) n acc = .error (40, n + 1) := by
  rw [List.drop_eq_getElem_cons hj, linesR, if_neg (by simp [h]), hm]
theorem lines_twice {C : List (List UInt8)} {j : Nat} (hj : j < C.length) {n p c : Int} {ps : List Int} {acc : List Mk} (h : silentL C[j] = false) (hm : markR C[j] = some (p, c, ps)) (ha : acc.any (fun m => m.point == p) = true) : linesR (C.drop j) n acc = .error (41, n + 1) := by
  rw [List.drop_eq_getElem_cons hj, linesR, if_neg (by simp [h]), hm]
  simp only [ha, if_true]
theorem lines_many {C : List (List UInt8)} {j : Nat} (hj : j < C.length) {n p c : Int} {ps : List Int} {acc : List Mk} (h : silentL C[j] = false) (hm : markR C[j] = some (p, c, ps)) (ha : acc.any (fun m => m.point == p) = false) (hl : 4096 ≤ acc.length) : linesR (C.drop j) n acc = .error (2, n + 1) := by
  rw [List.drop_eq_getElem_cons hj, linesR, if_neg (by simp [h]), hm]
  simp only [ha]
  simp [hl]
theorem lines_more {C : List (List UInt8)} {j : Nat} (hj : j < C.length) {n p c : Int} {ps : List Int} {acc : List Mk} (h : silentL C[j] = false) (hm : markR C[j] = some (p, c, ps)) (ha : acc.any (fun m => m.point == p) = false) (hl : acc.length < 4096) : linesR (C.drop j) n acc = linesR (C.drop (j + 1)) (n + 1) (acc ++ [⟨n + 1, p, c, ps⟩]) := by
  rw [List.drop_eq_getElem_cons hj, linesR, if_neg (by simp [h]), hm]
  simp only [ha]
  simp [show ¬ 4096 ≤ acc.length by omega]
theorem lines_end {C : List (List UInt8)} {j : Nat} (hj : C.length ≤ j) {n : Int} {acc : List Mk} : linesR (C.drop j) n acc = .ok acc := by
  rw [List.drop_of_length_le hj, linesR]

end Go.Proofs.YtpmckfmjegehgaaGreatDoor
