/- The document's Load, plainly: a mark put at its place among those before it; the first point that leads to itself, the first with too many parts (nothing is claimed here). -/
import Derived.Test.YtpmckfmjegehgaaGreatDoorBackF
namespace Go.Proofs.YtpmckfmjegehgaaGreatDoor
open Go.RowKit Go.Vf Go.Maps

theorem perm_rise : ∀ {a b : List PM}, a.Perm b → (a.map PM.point).Pairwise (· < ·) → (b.map PM.point).Pairwise (· < ·) → a = b := by
  intro a b hp ha hb
  rw [List.pairwise_map] at ha hb
  exact hp.eq_of_pairwise (fun x y _ _ h1 h2 => by exact absurd h1 (by omega)) ha hb
theorem rise_put {l : List PM} (h : (l.map PM.point).Pairwise (· < ·)) {m : PM} {k : Nat} (hk : PlaceAt l m.point k) (hno : ∀ i (h : i < l.length), (l[i]).point ≠ m.point) : ((l.take k ++ [m] ++ l.drop k).map PM.point).Pairwise (· < ·) := by
  rw [List.pairwise_map] at h ⊢
  have h1 := h.sublist (List.take_sublist k l)
  have h2 := h.sublist (List.drop_sublist k l)
  have lo : ∀ x ∈ l.take k, x.point < m.point := fun x hx => by
    obtain ⟨i, hi, e⟩ := List.mem_iff_getElem.1 hx
    rw [List.length_take] at hi
    rw [List.getElem_take] at e
    rw [← e]
    exact hk.lo i (by omega) (by omega)
  have hi' : ∀ x ∈ l.drop k, m.point < x.point := fun x hx => by
    obtain ⟨i, hi, e⟩ := List.mem_iff_getElem.1 hx
    rw [List.length_drop] at hi
    rw [List.getElem_drop] at e
    rw [← e]
    have g1 := hk.hi (k + i) (by omega) (by omega)
    have g2 := hno (k + i) (by omega)
    omega
  rw [List.append_assoc, List.pairwise_append]
  refine ⟨h1, ?_, ?_⟩
  · rw [List.singleton_append, List.pairwise_cons]
    exact ⟨hi', h2⟩
  · intro x hx y hy
    have g1 := lo x hx
    rcases List.mem_append.1 hy with hy | hy
    · simp at hy; subst hy; exact g1
    · have := hi' y hy; omega
/-- THE MARKS IN ORDER, WITH ONE MORE PUT AT ITS PLACE. -/
theorem marksR_put {L : List Mk} (hnd : (L.map Mk.point).Nodup) {m : Mk} (hm : m.point ∉ L.map Mk.point) {k : Nat} (hk : PlaceAt (marksR L) m.point k) : marksR (L ++ [m]) = (marksR L).take k ++ [pmOf m] ++ (marksR L).drop k := by
  have hnd' : ((L ++ [m]).map Mk.point).Nodup := by
    rw [List.map_append, List.nodup_append]
    refine ⟨hnd, by simp, ?_⟩
    intro a ha b hb
    simp at hb
    subst hb
    exact fun e => hm (e ▸ ha)
  have hp := marksR_perm hnd
  have hno : ∀ i (h : i < (marksR L).length), ((marksR L)[i]).point ≠ m.point := fun i h e => by
    have h1 : (marksR L)[i] ∈ L.map pmOf := hp.mem_iff.1 (List.getElem_mem h)
    obtain ⟨x, hx, e1⟩ := List.mem_map.1 h1
    refine hm (List.mem_map.2 ⟨x, hx, ?_⟩)
    rw [← e, ← e1]
    rfl
  refine perm_rise ?_ (marksR_rise hnd') (rise_put (marksR_rise hnd) (m := pmOf m) hk hno)
  refine (marksR_perm hnd').trans ?_
  rw [List.map_append]
  refine (hp.symm.append_right _).trans ?_
  conv => lhs; rw [← List.take_append_drop k (marksR L)]
  rw [List.append_assoc, List.append_assoc]
  exact List.Perm.append_left _ List.perm_append_comm
theorem find_first {α : Type} {p : α → Bool} {a b : List α} {m : α} (ha : ∀ x ∈ a, p x = false) (hm : p m = true) : (a ++ m :: b).find? p = some m := by
  rw [List.find?_append, List.find?_eq_none.2 (fun x hx => by simp [ha x hx])]
  simp [hm]
/-- THE FIRST POINT THAT LEADS TO ITSELF. -/
theorem load_loop {t : List UInt8} {L a b : List Mk} {m : Mk} (hlen : t.length ≤ 65536) (hl : linesR (cutL 10 t) 0 [] = .ok L) (hL : L = a ++ m :: b) (ha : ∀ x ∈ a, ¬ Lead (partsAt L) x.point x.point) (hm : Lead (partsAt L) m.point m.point) : loadR t = .error (42, m.line) := by
  obtain ⟨S, hS, hI, hmet⟩ := walk_total (load_total hlen hl).2.2.2.2
  unfold loadR
  rw [if_neg (by omega), hl]
  simp only [hS]
  have hf : L.find? (fun m => decide (S.loops m.point > 0)) = some m := by
    rw [hL]
    refine find_first (fun x hx => ?_) ?_
    · rcases (hI.loop x.point).2 with h | h
      · exact absurd ((hI.loop x.point).1.1 h).2 (ha x hx)
      · simp; omega
    · have h1 := hmet m.point (List.mem_map.2 ⟨m, by rw [hL]; simp, rfl⟩)
      have ho : m.point ∈ S.ord := by
        rcases hI.met_range m.point with h | ⟨h, _⟩ | ⟨h, _⟩
        · exact absurd h h1
        · rw [hI.shut] at h; simp at h
        · exact h
      rw [(hI.loop m.point).1.2 ⟨ho, hm⟩]
      simp
  rw [hf]
theorem endsG_len {G : Int → List Int} {k : Nat} {p : Int} : 18 < (endsG G k p).length ↔ 18 < (wh G k p).length := by
  unfold endsG
  by_cases h : G p = []
  · rw [if_pos h, wh_leaf h]
    simp
  · rw [if_neg h, List.length_take]
    omega
/-- NO POINT LEADS TO ITSELF: THE FIRST WITH TOO MANY PARTS, OR WHAT IS READ. -/
theorem load_deep {t : List UInt8} {L : List Mk} (hlen : t.length ≤ 65536) (hl : linesR (cutL 10 t) 0 [] = .ok L) (hno : ∀ m ∈ L, ¬ Lead (partsAt L) m.point m.point) :
    ∃ k, (∀ p, Dep (partsAt L) k p) ∧ (∀ a m b, L = a ++ m :: b → (∀ x ∈ a, (wh (partsAt L) k x.point).length ≤ 18) → 18 < (wh (partsAt L) k m.point).length → loadR t = .error (43, m.line)) ∧
      ((∀ m ∈ L, (wh (partsAt L) k m.point).length ≤ 18) → ∃ E, loadR t = .ok (L, E) ∧ ∀ p, E p = endsG (partsAt L) k p) := by
  obtain ⟨S, hS, hI, hmet⟩ := walk_total (load_total hlen hl).2.2.2.2
  obtain ⟨ht, he⟩ := fill_all hI hmet hno
  have he' := he (S.ord.length + 1) (Nat.le_refl _)
  have h1 : L.find? (fun m => decide (S.loops m.point > 0)) = none := by
    rw [List.find?_eq_none]
    intro m hm hgt
    have hgt' : S.loops m.point > 0 := by simpa using hgt
    rcases (hI.loop m.point).2 with h | h
    · exact hno m hm ((hI.loop m.point).1.1 h).2
    · omega
  refine ⟨S.ord.length + 1, fun p => ?_, fun a m b hL ha hm => ?_, fun hs => ⟨fillF (hasAt L) (partsAt L) S.ord (fun _ => []), ?_, he'⟩⟩
  · by_cases hG : partsAt L p = []
    · exact Dep.leaf hG _
    · obtain ⟨m, hm, e⟩ := partsAt_has hG
      have hp : p ∈ S.ord := by
        have h1 := hmet p (List.mem_map.2 ⟨m, hm, e⟩)
        rcases hI.met_range p with h | ⟨h, _⟩ | ⟨h, _⟩
        · exact absurd h h1
        · rw [hI.shut] at h; simp at h
        · exact h
      obtain ⟨pre, post, hs⟩ := List.append_of_mem hp
      exact Dep.of_topo ht (S.ord.length + 1) pre p post (by rw [hs]; simp; omega) hs
  · unfold loadR
    rw [if_neg (by omega), hl]
    simp only [hS]
    rw [h1]
    have h2 : L.find? (fun m => decide (18 < (fillF (hasAt L) (partsAt L) S.ord (fun _ => []) m.point).length)) = some m := by
      conv => lhs; arg 2; rw [hL]
      refine find_first (fun x hx => ?_) ?_
      · rw [he']
        have := ha x hx
        exact decide_eq_false (fun h => by have := endsG_len.1 h; omega)
      · rw [he']
        exact decide_eq_true (endsG_len.2 hm)
    simp only [h2]
  · unfold loadR
    rw [if_neg (by omega), hl]
    simp only [hS]
    rw [h1]
    have h2 : L.find? (fun m => decide (18 < (fillF (hasAt L) (partsAt L) S.ord (fun _ => []) m.point).length)) = none := by
      rw [List.find?_eq_none]
      intro m hm hgt
      rw [he'] at hgt
      have := endsG_len.1 (of_decide_eq_true hgt)
      have := hs m hm
      omega
    simp only [h2]

end Go.Proofs.YtpmckfmjegehgaaGreatDoor
