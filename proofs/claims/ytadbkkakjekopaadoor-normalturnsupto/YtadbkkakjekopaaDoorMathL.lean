/- What Load answers, as a plain function; its walk comes to an end (the verifier's own; no program). -/
import Derived.Test.YtadbkkakjekopaaDoorCut
import Derived.Test.YtadbkkakjekopaaDoorTarj
import Derived.Test.YtadbkkakjekopaaDoorEnds
namespace Go.Vf

/-- What Load answers. -/
def loadR (t : List UInt8) : Except (Int × Int) (List Mk × (Int → List Int)) :=
  if 65536 < t.length then .error (2, 0)
  else match linesR (cutL 10 t) 0 [] with
  | .error e => .error e
  | .ok L => match walkF (partsAt L) 200000 (L.map Mk.point) TS.empty with
    | none => .error (0, 0)
    | some S => match L.find? (fun m => decide (S.loops m.point > 0)) with
      | some m => .error (42, m.line)
      | none => match L.find? (fun m => decide (18 < (fillF (hasAt L) (partsAt L) S.ord (fun _ => []) m.point).length)) with
        | some m => .error (43, m.line)
        | none => .ok (L, fillF (hasAt L) (partsAt L) S.ord (fun _ => []))

theorem pointR_may {s : List UInt8} {p : Int} (h : pointR s = some p) : mayB p = true := by
  unfold pointR at h
  split at h
  · split at h
    · cases h
    · split at h
      · rename_i hm
        simp only [Option.some.injEq] at h; subst h; exact hm
      · cases h
  · cases h
theorem pointsR_may : ∀ {l : List (List UInt8)} {ps : List Int}, pointsR l = some ps → (∀ q ∈ ps, mayB q = true) ∧ ps.length = l.length := by
  intro l
  induction l with
  | nil => intro ps h; simp [pointsR] at h; subst h; simp
  | cons a r ih =>
    intro ps h
    unfold pointsR at h
    split at h
    · cases h
    · rename_i p hp
      split at h
      · cases h
      · rename_i q hq
        simp at h; subst h
        obtain ⟨h1, h2⟩ := ih hq
        exact ⟨fun x hx => by
          rcases List.mem_cons.1 hx with rfl | hx
          · exact pointR_may hp
          · exact h1 x hx, by simp [h2]⟩
theorem classR_in {s : List UInt8} {c : Int} (h : classR s = some c) : 0 ≤ c ∧ c ≤ 254 := by
  unfold classR at h
  split at h
  · split at h
    · cases h
    · split at h
      · rename_i hm
        simp only [Option.some.injEq] at h; subst h; omega
      · cases h
  · cases h
/-- What is true of each mark. -/
def MkOk (m : Mk) : Prop := mayB m.point = true ∧ (∀ q ∈ m.parts, mayB q = true) ∧ 0 ≤ m.cls ∧ m.cls ≤ 254
theorem markR_ok {s : List UInt8} {p k : Int} {l : List Int} (h : markR s = some (p, k, l)) (n : Int) : MkOk ⟨n, p, k, l⟩ ∧ l.length ≤ s.length + 1 := by
  unfold markR markC at h
  split at h
  · rename_i a b c hc
    split at h
    · cases h
    · rename_i p' hp
      split at h
      · cases h
      · rename_i k' hk
        split at h
        · cases h
        · rename_i l' hl
          simp only [Option.some.injEq, Prod.mk.injEq] at h
          obtain ⟨rfl, rfl, rfl⟩ := h
          have hcs := cutL_sizes 59 s c (by rw [hc]; simp)
          unfold partsR at hl
          split at hl
          · simp only [Option.some.injEq] at hl; subst hl
            exact ⟨⟨pointR_may hp, by simp, classR_in hk⟩, by simp⟩
          · obtain ⟨h1, h2⟩ := pointsR_may hl
            have := cutL_len_le 32 c
            exact ⟨⟨pointR_may hp, h1, classR_in hk⟩, by omega⟩
  · cases h

theorem cutL_sum (c : UInt8) : ∀ l : List UInt8, ((cutL c l).map (fun x => x.length + 1)).sum = l.length + 1 := by
  intro l
  induction l with
  | nil => simp [cutL]
  | cons b r ih =>
    unfold cutL
    split
    · simp [ih]; omega
    · split
      · rename_i e
        exact absurd e (cutL_ne c r)
      · rename_i h t e
        rw [e] at ih
        simp at ih ⊢; omega

def sumP (L : List Mk) : Nat := (L.map (fun m => m.parts.length)).sum

theorem linesR_good : ∀ (C : List (List UInt8)) (n : Int) (acc L : List Mk), linesR C n acc = .ok L → (∀ m ∈ acc, MkOk m) → (acc.map Mk.point).Nodup → acc.length ≤ 4096 →
    (∀ m ∈ L, MkOk m) ∧ (L.map Mk.point).Nodup ∧ L.length ≤ 4096 ∧ sumP L ≤ sumP acc + (C.map (fun x => x.length + 1)).sum := by
  intro C
  induction C with
  | nil =>
    intro n acc L h h1 h2 h3
    simp only [linesR, Except.ok.injEq] at h
    subst h
    exact ⟨h1, h2, h3, by simp⟩
  | cons s r ih =>
    intro n acc L h h1 h2 h3
    rw [linesR] at h
    split at h
    · obtain ⟨a, b, c, d⟩ := ih _ _ _ h h1 h2 h3
      exact ⟨a, b, c, by simp; omega⟩
    · split at h
      · cases h
      · rename_i p k l hm
        obtain ⟨hok, hlen⟩ := markR_ok hm (n + 1)
        split at h
        · cases h
        · rename_i hany
          split at h
          · cases h
          · rename_i hfull
            have hnew : p ∉ acc.map Mk.point := fun hp => by
              obtain ⟨m, hm1, hm2⟩ := List.mem_map.1 hp
              exact hany (List.any_eq_true.2 ⟨m, hm1, by simpa using hm2⟩)
            obtain ⟨a, b, c, d⟩ := ih _ _ _ h (fun m hm => by
              rcases List.mem_append.1 hm with hm | hm
              · exact h1 m hm
              · simp at hm; subst hm; exact hok) (by
                rw [List.map_append, List.nodup_append]
                refine ⟨h2, by simp, fun x hx y hy e => ?_⟩
                simp at hy
                subst hy e
                exact hnew hx) (by simp; omega)
            refine ⟨a, b, c, ?_⟩
            have e1 : sumP (acc ++ [⟨n + 1, p, k, l⟩]) = sumP acc + l.length := by simp [sumP]
            rw [e1] at d
            simp; omega

theorem partsAt_mem {L : List Mk} {p q : Int} (h : q ∈ partsAt L p) : ∃ m ∈ L, m.point = p ∧ q ∈ m.parts := by
  unfold partsAt at h
  cases hm : markAt L p with
  | none => rw [hm] at h; simp at h
  | some m =>
    rw [hm] at h
    exact ⟨m, List.mem_of_find?_eq_some hm, by simpa using List.find?_some hm, by simpa using h⟩

theorem flat_len (L : List Mk) : (L.flatMap Mk.parts).length = sumP L := by
  induction L with
  | nil => rfl
  | cons a r ih => simp only [List.flatMap_cons, List.length_append, ih, sumP, List.map_cons, List.sum_cons]

/-- The walk comes to an end. -/
theorem walk_total {L : List Mk} (h : L.length + sumP L ≤ 200000) : ∃ S, walkF (partsAt L) 200000 (L.map Mk.point) TS.empty = some S ∧ Inv (partsAt L) S [] ∧ ∀ x ∈ L.map Mk.point, S.met x ≠ 0 := by
  have hU : ∀ x ∈ L.map Mk.point ++ L.flatMap Mk.parts, ∀ y ∈ partsAt L x, y ∈ L.map Mk.point ++ L.flatMap Mk.parts := fun x _ y hy => by
    obtain ⟨m, hm, _, hq⟩ := partsAt_mem hy
    exact List.mem_append_right _ (List.mem_flatMap.2 ⟨m, hm, hq⟩)
  have hlen : (L.map Mk.point ++ L.flatMap Mk.parts).length ≤ 200000 := by rw [List.length_append, List.length_map, flat_len]; exact h
  have hun : unmet (L.map Mk.point ++ L.flatMap Mk.parts) TS.empty ≤ 200000 := Nat.le_trans (List.length_filter_le _ _) hlen
  obtain ⟨S, h1, h2, _, h4⟩ := walk_ok hU (N := 200000) (by omega) 200000 (L.map Mk.point) TS.empty (fun x hx => List.mem_append_left _ hx) (Inv.start _) hun (by show (0 : Int) + _ ≤ _; omega)
  exact ⟨S, h1, h2, h4⟩

theorem load_total {t : List UInt8} {L : List Mk} (ht : t.length ≤ 65536) (h : linesR (cutL 10 t) 0 [] = .ok L) : (∀ m ∈ L, MkOk m) ∧ (L.map Mk.point).Nodup ∧ L.length ≤ 4096 ∧ sumP L ≤ 65537 ∧ L.length + sumP L ≤ 200000 := by
  obtain ⟨h1, h2, h3, h4⟩ := linesR_good _ _ _ _ h (by simp) (by simp) (by simp)
  rw [cutL_sum] at h4
  simp only [sumP, List.map_nil, List.sum_nil] at h4
  exact ⟨h1, h2, h3, by unfold sumP; omega, by unfold sumP; omega⟩

theorem sumP_mem {L : List Mk} {m : Mk} (h : m ∈ L) : m.parts.length ≤ sumP L := by
  induction L with
  | nil => simp at h
  | cons a r ih =>
    simp only [sumP, List.map_cons, List.sum_cons]
    rcases List.mem_cons.1 h with rfl | h
    · omega
    · have := ih h; unfold sumP at this; omega

end Go.Vf
