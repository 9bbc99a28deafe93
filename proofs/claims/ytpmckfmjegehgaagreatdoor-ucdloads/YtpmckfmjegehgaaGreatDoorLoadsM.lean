/- The document's parts are the program's (nothing is claimed here). -/
import Derived.Test.YtpmckfmjegehgaaGreatDoorRefX
import Derived.Test.YtpmckfmjegehgaaGreatDoorBackM
namespace Go.Proofs.YtpmckfmjegehgaaGreatDoor
open Go.RowKit Go.Vf Go.Maps

theorem pmAt_marks {L : List Mk} (hnd : (L.map Mk.point).Nodup) (p : Int) : pmAt (marksR L) p = (markAt L p).map pmOf := by
  have hrise := marksR_rise hnd
  have hperm := marksR_perm hnd
  rcases markAt_mem (L := L) p with ⟨h0, hn⟩ | ⟨m, hm, rfl, h0⟩
  · rw [h0]
    refine pmAt_no fun i hi e => ?_
    have hx := hperm.subset (List.getElem_mem hi)
    obtain ⟨x, hx1, hx2⟩ := List.mem_map.1 hx
    refine hn (List.mem_map.2 ⟨x, hx1, ?_⟩)
    rw [← e, ← hx2]
    rfl
  · rw [h0]
    have hin : pmOf m ∈ marksR L := hperm.symm.subset (List.mem_map.2 ⟨m, hm, rfl⟩)
    obtain ⟨i, hi, e⟩ := List.mem_iff_getElem.1 hin
    have := pmAt_at hrise hi (p := m.point) (by rw [e]; rfl)
    rw [this, e]
    rfl
theorem partsP_marks {L : List Mk} (hnd : (L.map Mk.point).Nodup) : partsP (marksR L) = partsAt L := funext fun p => by
  unfold partsP partsAt
  rw [pmAt_marks hnd]
  cases markAt L p <;> rfl
theorem clsP_marks {L : List Mk} (hnd : (L.map Mk.point).Nodup) : clsP (marksR L) = classAt L := funext fun p => by
  unfold clsP classAt
  rw [pmAt_marks hnd]
  cases markAt L p <;> rfl

/-- A depth that serves every point. -/
theorem depth_of {t : List UInt8} {L : List Mk} {E : Int → List Int} (h : loadR t = .ok (L, E)) : ∃ k, (∀ p, Dep (partsAt L) k p) ∧ ∀ p, E p = endsG (partsAt L) k p := by
  obtain ⟨_, _, _, _, ord, ht, hord, he⟩ := load_says h
  refine ⟨ord.length + 1, fun p => ?_, he _ (Nat.le_refl _)⟩
  by_cases hG : partsAt L p = []
  · exact Dep.leaf hG _
  · obtain ⟨m, hm, e⟩ := partsAt_has hG
    have hp : p ∈ ord := by rw [← e]; exact hord m hm
    obtain ⟨pre, post, hs⟩ := List.append_of_mem hp
    exact Dep.of_topo ht (ord.length + 1) pre p post (by rw [hs]; simp; omega) hs
theorem wh_ends_of {t : List UInt8} {L : List Mk} {E : Int → List Int} (h : loadR t = .ok (L, E)) {k : Nat} (he : ∀ p, E p = endsG (partsAt L) k p) (p : Int) : wh (partsAt L) k p = endsOfF E p ∧ (endsOfF E p).length ≤ 18 := by
  obtain ⟨_, _, _, hsh, _⟩ := load_says h
  by_cases hG : partsAt L p = []
  · have e0 : E p = [] := by rw [he]; unfold endsG; rw [if_pos hG]
    unfold endsOfF
    rw [if_pos e0, wh_leaf hG]
    exact ⟨rfl, by simp⟩
  · obtain ⟨m, hm, e⟩ := partsAt_has hG
    have e1 : E p = (wh (partsAt L) k p).take 19 := by rw [he]; unfold endsG; rw [if_neg hG]
    have h18 : (E p).length ≤ 18 := by rw [← e]; exact hsh m hm
    have hw : (wh (partsAt L) k p).length ≤ 18 := by
      rw [e1, List.length_take] at h18
      omega
    rw [List.take_of_length_le (by omega)] at e1
    have hne : E p ≠ [] := by rw [e1]; exact wh_ne _ _
    unfold endsOfF
    rw [if_neg hne]
    exact ⟨e1.symm, h18⟩
theorem fold_wh {t : List UInt8} {L : List Mk} {E : Int → List Int} (h : loadR t = .ok (L, E)) {k : Nat} (he : ∀ p, E p = endsG (partsAt L) k p) : ∀ (qs : List Int) (o : List Int), o.length + 18 * qs.length ≤ 1073741824 → qs.foldl (fun o q => whF (partsAt L) 1073741824 k o q) o = o ++ qs.flatMap (endsOfF E) := by
  intro qs
  induction qs with
  | nil => intro o _; simp
  | cons a r ih =>
    intro o ho
    simp only [List.length_cons] at ho
    obtain ⟨e, hl⟩ := wh_ends_of h he a
    rw [List.foldl_cons, whF_eq _ _ _ _ _ (by omega), e, List.take_of_length_le (by rw [List.length_append]; omega), ih _ (by rw [List.length_append]; omega)]
    simp
/-- THE DOCUMENT'S PARTS ARE THE PROGRAM'S. -/
theorem partsD_eq {t : List UInt8} {L : List Mk} {E : Int → List Int} (h : loadR t = .ok (L, E)) {k : Nat} (he : ∀ p, E p = endsG (partsAt L) k p) (p : Int) : partsD (marksR L) k p = partsR' E p := by
  obtain ⟨hlen, hl, _⟩ := load_says h
  have hnd := (load_total hlen hl).2.1
  unfold partsD partsR'
  rw [partsP_marks hnd]
  split
  · rename_i hs
    have h3 := (lettersR_in hs).2.1
    rw [fold_wh h he _ _ (by simp; omega)]
    simp
  · obtain ⟨e, h18⟩ := wh_ends_of h he p
    rw [whF_eq _ _ _ _ _ (by simp), List.nil_append, e, List.take_of_length_le (by omega)]
theorem partsAt_plain {t : List UInt8} {L : List Mk} {E : Int → List Int} (h : loadR t = .ok (L, E)) (p : Int) : (∀ q ∈ partsAt L p, isSyl q = false) ∧ (partsAt L p).length ≤ 131072 := by
  obtain ⟨hlen, hl, _⟩ := load_says h
  obtain ⟨hok, _, _, hs, _⟩ := load_total hlen hl
  refine ⟨fun q hq => ?_, ?_⟩
  · obtain ⟨m, hm, _, hq'⟩ := partsAt_mem hq
    exact may_not_syl ((hok m hm).2.1 q hq')
  · unfold partsAt
    cases hm : markAt L p with
    | none => simp
    | some m =>
      have := sumP_mem (List.mem_of_find?_eq_some hm)
      simp
      omega

end Go.Proofs.YtpmckfmjegehgaaGreatDoor
