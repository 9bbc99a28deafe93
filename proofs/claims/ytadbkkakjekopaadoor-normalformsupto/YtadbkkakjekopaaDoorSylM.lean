/- Syllables, and which errors Load gives (nothing is claimed here). -/
import Derived.Test.YtadbkkakjekopaaDoorAsk
namespace Go.Vf
theorem load_empty : ∃ E, loadR [] = .ok ([], E) ∧ ∀ p, E p = [] := ⟨fun _ => [], rfl, fun _ => rfl⟩

theorem linesR_why : ∀ (C : List (List UInt8)) (n : Int) (acc : List Mk) (why line : Int), linesR C n acc = .error (why, line) → (why = 40 ∨ why = 41 ∨ why = 2) ∧ n + 1 ≤ line ∧ line ≤ n + C.length := by
  intro C
  induction C with
  | nil => intro n acc why line h; cases h
  | cons s r ih =>
    intro n acc why line h
    unfold linesR at h
    split at h
    · obtain ⟨a, b, c⟩ := ih _ _ _ _ h
      exact ⟨a, by omega, by simp; omega⟩
    · split at h
      · cases h; exact ⟨.inl rfl, by omega, by simp; omega⟩
      · split at h
        · cases h; exact ⟨.inr (.inl rfl), by omega, by simp; omega⟩
        · split at h
          · cases h; exact ⟨.inr (.inr rfl), by omega, by simp; omega⟩
          · obtain ⟨a, b, c⟩ := ih _ _ _ _ h
            exact ⟨a, by omega, by simp; omega⟩

theorem load_why {t : List UInt8} {why line : Int} (h : loadR t = .error (why, line)) : why ≠ 0 := by
  unfold loadR at h
  split at h
  · cases h; decide
  · rename_i ht
    split at h
    · rename_i e hl
      cases h
      have := (linesR_why _ _ _ _ _ hl).1
      omega
    · rename_i L hl
      split at h
      · rename_i hw
        obtain ⟨S, hS, _⟩ := walk_total (load_total (by omega) hl).2.2.2.2
        rw [hS] at hw
        cases hw
      · split at h
        · cases h; decide
        · split at h
          · cases h; decide
          · cases h

theorem endsOfF_nil {E : Int → List Int} (h : ∀ p, E p = []) (p : Int) : endsOfF E p = [p] := by unfold endsOfF; rw [if_pos (h p)]
theorem flat_self (l : List Int) : l.flatMap (fun p => [p]) = l := by induction l with
  | nil => rfl
  | cons a r ih => rw [List.flatMap_cons, ih]; rfl
theorem parts_none {E : Int → List Int} (h : ∀ p, E p = []) {p : Int} (hs : isSyl p = true) : partsR' E p = lettersR p := by
  unfold partsR'
  rw [if_pos hs, show endsOfF E = fun p => [p] from funext (endsOfF_nil h), flat_self]
theorem letters_not {p q : Int} (hs : isSyl p = true) (hq : q ∈ lettersR p) : isSyl q = false := by
  have hb : 44032 ≤ p ∧ p ≤ 55203 := by simpa [isSyl] using hs
  unfold lettersR at hq
  split at hq
  · simp at hq
    simp [isSyl]; omega
  · simp at hq
    simp [isSyl]; omega
theorem parts_letters (E : Int → List Int) {p : Int} (hs : isSyl p = true) : partsR' E p = (lettersR p).flatMap (partsR' E) := by
  have e : (lettersR p).flatMap (partsR' E) = (lettersR p).flatMap (endsOfF E) := by
    have : ∀ l : List Int, (∀ q ∈ l, isSyl q = false) → l.flatMap (partsR' E) = l.flatMap (endsOfF E) := by
      intro l
      induction l with
      | nil => intro _; rfl
      | cons a r ih =>
        intro h
        rw [List.flatMap_cons, List.flatMap_cons, ih (fun q hq => h q (List.mem_cons_of_mem _ hq))]
        congr 1
        unfold partsR'
        rw [if_neg (by rw [h a (List.mem_cons_self ..)]; simp)]
    exact this _ fun q hq => letters_not hs hq
  rw [e]
  unfold partsR'
  rw [if_pos hs]
theorem classAt_syl {L : List Mk} (hok : ∀ m ∈ L, MkOk m) {p : Int} (hs : isSyl p = true) : classAt L p = 0 := by
  unfold classAt
  cases h : markAt L p with
  | none => rfl
  | some m =>
    have hm := List.mem_of_find?_eq_some h
    have hp := List.find?_some h
    have := (hok m hm).1
    simp only [beq_iff_eq] at hp
    rw [hp] at this
    unfold mayB at this
    rw [hs] at this
    simp at this
end Go.Vf
