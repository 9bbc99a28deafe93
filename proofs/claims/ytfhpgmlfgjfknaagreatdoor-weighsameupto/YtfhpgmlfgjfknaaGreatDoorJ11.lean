/- Contracts and lemmas (nothing is claimed here). -/
import Derived.Test.YtfhpgmlfgjfknaaGreatDoorAsk
namespace Go.Vf
theorem linesR_why : ∀ (C : List (List UInt8)) (n : Int) (acc : List Mk) (why line : Int), linesR C n acc = .error (why, line) → (why = 40 ∨ why = 41 ∨ why = 2) ∧ n + 1 ≤ line ∧ line ≤ n + C.length := by
  intro C
  induction C with
  | nil => intro n acc why line h; cases h
  | cons s r ih =>
    intro n acc why line h
    unfold linesR at h
    split at h
    · obtain ⟨a, b, c⟩ := ih _ _ _ _ h
      exact ⟨a, by omega, by simp; omega⟩
    · split at h
      · cases h; exact ⟨.inl rfl, by omega, by simp; omega⟩
      · split at h
        · cases h; exact ⟨.inr (.inl rfl), by omega, by simp; omega⟩
        · split at h
          · cases h; exact ⟨.inr (.inr rfl), by omega, by simp; omega⟩
          · obtain ⟨a, b, c⟩ := ih _ _ _ _ h
            exact ⟨a, by omega, by simp; omega⟩
theorem load_why {t : List UInt8} {why line : Int} (h : loadR t = .error (why, line)) : why ≠ 0 := by
  unfold loadR at h
  split at h
  · cases h; decide
  · rename_i ht
    split at h
    · rename_i e hl
      cases h
      have := (linesR_why _ _ _ _ _ hl).1
      omega
    · rename_i L hl
      split at h
      · rename_i hw
        obtain ⟨S, hS, _⟩ := walk_total (load_total (by omega) hl).2.2.2.2
        rw [hS] at hw
        cases hw
      · split at h
        · cases h; decide
        · split at h
          · cases h; decide
          · cases h
theorem letters_not {p q : Int} (hs : isSyl p = true) (hq : q ∈ lettersR p) : isSyl q = false := by
  have hb : 44032 ≤ p ∧ p ≤ 55203 := by simpa [isSyl] using hs
  unfold lettersR at hq
  split at hq
  · simp at hq
    simp [isSyl]; omega
  · simp at hq
    simp [isSyl]; omega
end Go.Vf
namespace Go.Proofs.YtfhpgmlfgjfknaaGreatDoor
open Go.RowKit Go.Vf Go.Maps
def endsG (G : Int → List Int) (N : Nat) (p : Int) : List Int := if G p = [] then [] else (wh G N p).take 19
theorem lead_ne {G : Int → List Int} {p q : Int} (h : Lead G p q) : G p ≠ [] := by
  induction h with
  | one h => intro e; rw [e] at h; simp at h
  | more h _ _ => intro e; rw [e] at h; simp at h
theorem partsAt_has {L : List Mk} {p : Int} (h : partsAt L p ≠ []) : ∃ m ∈ L, m.point = p := by
  cases hp : partsAt L p with
  | nil => exact absurd hp h
  | cons a r =>
    obtain ⟨m, hm, he, _⟩ := partsAt_mem (L := L) (p := p) (q := a) (by rw [hp]; simp)
    exact ⟨m, hm, he⟩
theorem hasAt_no {L : List Mk} (x : Int) (h : hasAt L x = false) : partsAt L x = [] := by
  unfold hasAt at h
  unfold partsAt
  cases hm : markAt L x with
  | none => rfl
  | some m => rw [hm] at h; simp at h
theorem fill_all {L : List Mk} {S : TS} (hI : Inv (partsAt L) S []) (hmet : ∀ x ∈ L.map Mk.point, S.met x ≠ 0) (hno : ∀ m ∈ L, ¬ Lead (partsAt L) m.point m.point) : Topo (partsAt L) S.ord ∧ ∀ N, S.ord.length + 1 ≤ N → ∀ p, fillF (hasAt L) (partsAt L) S.ord (fun _ => []) p = endsG (partsAt L) N p := by
  have hno' : ∀ x, ¬ Lead (partsAt L) x x := fun x h => by
    obtain ⟨m, hm, e⟩ := partsAt_has (lead_ne h)
    exact hno m hm (by rw [e]; exact h)
  have ht : Topo (partsAt L) S.ord := fun pre x post e y hy => hI.topo pre x post e (hno' x) y hy
  refine ⟨ht, fun N hN p => ?_⟩
  rw [fill_ok ht hN (has := hasAt L) hasAt_no S.ord [] (fun _ => []) rfl (by simp) p]
  unfold endsG
  by_cases hG : partsAt L p = []
  · simp [hG]
  · obtain ⟨m, hm, e⟩ := partsAt_has hG
    have hp : p ∈ S.ord := by
      have h1 := hmet p (List.mem_map.2 ⟨m, hm, e⟩)
      rcases hI.met_range p with h | ⟨h, _⟩ | ⟨h, _⟩
      · exact absurd h h1
      · rw [hI.shut] at h; simp at h
      · exact h
    rw [if_pos ⟨hp, hG⟩, if_neg hG]
theorem load_says {t : List UInt8} {L : List Mk} {E : Int → List Int} (h : loadR t = .ok (L, E)) : t.length ≤ 65536 ∧ linesR (cutL 10 t) 0 [] = .ok L ∧ (∀ m ∈ L, ¬ Lead (partsAt L) m.point m.point) ∧ (∀ m ∈ L, (E m.point).length ≤ 18) ∧
    ∃ ord, Topo (partsAt L) ord ∧ (∀ m ∈ L, m.point ∈ ord) ∧ ∀ N, ord.length + 1 ≤ N → ∀ p, E p = endsG (partsAt L) N p := by
  unfold loadR at h
  split at h
  · cases h
  · rename_i hlen
    split at h
    · cases h
    · rename_i L' hl
      obtain ⟨S, hS, hI, hmet⟩ := walk_total (load_total (by omega) hl).2.2.2.2
      rw [hS] at h
      simp only at h
      split at h
      · cases h
      · rename_i hf
        split at h
        · cases h
        · rename_i hg
          simp only [Except.ok.injEq, Prod.mk.injEq] at h
          obtain ⟨rfl, rfl⟩ := h
          have hord : ∀ m ∈ L', m.point ∈ S.ord := fun m hm => by
            have h1 := hmet m.point (List.mem_map.2 ⟨m, hm, rfl⟩)
            rcases hI.met_range m.point with h | ⟨h, _⟩ | ⟨h, _⟩
            · exact absurd h h1
            · rw [hI.shut] at h; simp at h
            · exact h
          have hno : ∀ m ∈ L', ¬ Lead (partsAt L') m.point m.point := fun m hm hl => by
            have h1 := List.find?_eq_none.1 hf m hm
            have := (hI.loop m.point).1.2 ⟨hord m hm, hl⟩
            rw [this] at h1
            simp at h1
          obtain ⟨ht, he⟩ := fill_all hI hmet hno
          refine ⟨by omega, hl, hno, fun m hm => ?_, S.ord, ht, hord, he⟩
          have h1 := List.find?_eq_none.1 hg m hm
          simp at h1
          omega
theorem wh_from {G : Int → List Int} : ∀ (k : Nat) (p z : Int), z ∈ wh G k p → z = p ∨ ∃ q, z ∈ G q := by
  intro k
  induction k with
  | zero => intro p z hz; simp [wh] at hz; exact .inl hz
  | succ k ih =>
    intro p z hz
    unfold wh at hz
    split at hz
    · simp at hz; exact .inl hz
    · obtain ⟨y, hy, hz⟩ := List.mem_flatMap.1 hz
      rcases ih y z hz with rfl | h
      · exact .inr ⟨p, hy⟩
      · exact .inr h
theorem may_not_syl {z : Int} (h : mayB z = true) : isSyl z = false := by
  unfold mayB at h
  cases hs : isSyl z with
  | false => rfl
  | true => rw [hs] at h; simp at h
theorem ends_end {t : List UInt8} {L : List Mk} {E : Int → List Int} (h : loadR t = .ok (L, E)) {p z : Int} (hp : isSyl p = false) (hz : z ∈ endsOfF E p) : isSyl z = false ∧ endsOfF E z = [z] := by
  obtain ⟨hlen, hl, hno, _, ord, ht, hord, he⟩ := load_says h
  have hok := (load_total hlen hl).1
  have hEz : ∀ z, partsAt L z = [] → endsOfF E z = [z] := fun z hG => by
    unfold endsOfF
    rw [if_pos (by rw [he _ (Nat.le_refl _)]; unfold endsG; rw [if_pos hG])]
  by_cases hG : partsAt L p = []
  · rw [hEz p hG] at hz
    simp at hz
    subst hz
    exact ⟨hp, hEz z hG⟩
  · obtain ⟨m, hm, e⟩ := partsAt_has hG
    have hEp : E p = (wh (partsAt L) (ord.length + 1) p).take 19 := by rw [he _ (Nat.le_refl _)]; unfold endsG; rw [if_neg hG]
    have hz2 : z ∈ wh (partsAt L) (ord.length + 1) p := by
      unfold endsOfF at hz
      split at hz
      · rename_i e0
        rw [hEp, List.take_eq_nil_iff] at e0
        rcases e0 with e0 | e0
        · omega
        · exact absurd e0 (wh_ne _ _)
      · rw [hEp] at hz; exact List.mem_of_mem_take hz
    have hpo : p ∈ ord := by rw [← e]; exact hord m hm
    obtain ⟨pre, post, hs⟩ := List.append_of_mem hpo
    have hGz := wh_ends ht (Nat.le_refl _) pre.length pre p post (Nat.le_refl _) hs z hz2
    refine ⟨?_, hEz z hGz⟩
    rcases wh_from _ _ _ hz2 with rfl | ⟨q, hq⟩
    · exact hp
    · obtain ⟨m', hm', _, hq'⟩ := partsAt_mem hq
      exact may_not_syl ((hok m' hm').2.1 z hq')
theorem mayB_in {z : Int} (h : mayB z = true) : InI z := by
  unfold mayB at h
  simp only [Bool.and_eq_true, decide_eq_true_eq] at h
  unfold InI
  omega
theorem ends_in {t : List UInt8} {L : List Mk} {E : Int → List Int} (h : loadR t = .ok (L, E)) {p z : Int} (hz : z ∈ endsOfF E p) : (InI p → InI z) := by
  obtain ⟨hlen, hl, hno, _, ord, ht, hord, he⟩ := load_says h
  have hok := (load_total hlen hl).1
  have hEz : ∀ z, partsAt L z = [] → endsOfF E z = [z] := fun z hG => by
    unfold endsOfF
    rw [if_pos (by rw [he _ (Nat.le_refl _)]; unfold endsG; rw [if_pos hG])]
  by_cases hG : partsAt L p = []
  · rw [hEz p hG] at hz
    simp at hz
    subst hz
    exact id
  · obtain ⟨m, hm, e⟩ := partsAt_has hG
    have hEp : E p = (wh (partsAt L) (ord.length + 1) p).take 19 := by rw [he _ (Nat.le_refl _)]; unfold endsG; rw [if_neg hG]
    have hz2 : z ∈ wh (partsAt L) (ord.length + 1) p := by
      unfold endsOfF at hz
      split at hz
      · rename_i e0
        rw [hEp, List.take_eq_nil_iff] at e0
        rcases e0 with e0 | e0
        · omega
        · exact absurd e0 (wh_ne _ _)
      · rw [hEp] at hz; exact List.mem_of_mem_take hz
    rcases wh_from _ _ _ hz2 with rfl | ⟨q, hq⟩
    · exact id
    · obtain ⟨m', hm', _, hq'⟩ := partsAt_mem hq
      exact fun _ => mayB_in ((hok m' hm').2.1 z hq')
theorem parts_in {t : List UInt8} {L : List Mk} {E : Int → List Int} (h : loadR t = .ok (L, E)) {p z : Int} (hp : InI p) (hz : z ∈ partsR' E p) : InI z := by
  unfold partsR' at hz
  split at hz
  · rename_i hs
    obtain ⟨q, hq, hz⟩ := List.mem_flatMap.1 hz
    exact ends_in h hz ((lettersR_in hs).1 q hq)
  · exact ends_in h hz hp
theorem parts_end {t : List UInt8} {L : List Mk} {E : Int → List Int} (h : loadR t = .ok (L, E)) {p z : Int} (hz : z ∈ partsR' E p) : isSyl z = false ∧ partsR' E z = [z] := by
  suffices hh : isSyl z = false ∧ endsOfF E z = [z] by
    refine ⟨hh.1, ?_⟩
    unfold partsR'
    rw [if_neg (by rw [hh.1]; simp), hh.2]
  unfold partsR' at hz
  split at hz
  · rename_i hs
    obtain ⟨q, hq, hz⟩ := List.mem_flatMap.1 hz
    exact ends_end h (letters_not hs hq) hz
  · rename_i hs
    exact ends_end h (by simpa using hs) hz
theorem class_in {L : List Mk} (hok : ∀ m ∈ L, MkOk m) (p : Int) : 0 ≤ classAt L p ∧ classAt L p ≤ 254 := by
  unfold classAt
  cases hm : markAt L p with
  | none => simp
  | some m => exact ⟨(hok m (List.mem_of_find?_eq_some hm)).2.2.1, (hok m (List.mem_of_find?_eq_some hm)).2.2.2⟩
end Go.Proofs.YtfhpgmlfgjfknaaGreatDoor
