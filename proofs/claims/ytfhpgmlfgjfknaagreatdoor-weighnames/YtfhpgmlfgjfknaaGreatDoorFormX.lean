/- Each list of points has a Form (plain functions; nothing is claimed here). -/
import Derived.Test.YtfhpgmlfgjfknaaGreatDoorNormE
namespace Go.Proofs.YtfhpgmlfgjfknaaGreatDoor
open Go.RowKit Go.Vf Go.Maps

/-- The marks at the end that are of a greater class. -/
theorem cut_last (cls : Int → Int) (c : Int) : ∀ l : List Int, ∃ P Q, l = P ++ Q ∧ (∀ q ∈ Q, c < cls q) ∧ ∀ p, P.getLast? = some p → cls p ≤ c := by
  intro l
  induction l with
  | nil => exact ⟨[], [], rfl, by simp, by simp⟩
  | cons x t ih =>
    obtain ⟨P, Q, rfl, hQ, hP⟩ := ih
    by_cases hp : P = []
    · subst hp
      by_cases hx : c < cls x
      · exact ⟨[], x :: Q, rfl, fun q hq => (List.mem_cons.1 hq).elim (fun e => e ▸ hx) (hQ q), by simp⟩
      · exact ⟨[x], Q, rfl, hQ, fun p hp => by simp at hp; subst hp; omega⟩
    · exact ⟨x :: P, Q, rfl, hQ, fun p hp' => hP p (by cases P with | nil => exact absurd rfl hp | cons a r => simpa using hp')⟩
theorem form_exists {cls : Int → Int} (hc0 : ∀ x, 0 ≤ cls x) : ∀ l : List Int, ∃ X, FormOf cls l X ∧ X.length = l.length ∧ ∀ x ∈ X, x ∈ l := by
  have key : ∀ (n : Nat) (l : List Int), l.length = n → ∃ X, FormOf cls l X ∧ X.length = l.length ∧ ∀ x ∈ X, x ∈ l := by
    intro n
    induction n with
    | zero => intro l h; rw [List.eq_nil_of_length_eq_zero h]; exact ⟨[], ⟨trivial, Alike0.refl _⟩, rfl, by simp⟩
    | succ n ih =>
      intro l h
      have hne : l ≠ [] := fun e => by rw [e] at h; cases h
      obtain ⟨t, x, rfl⟩ : ∃ t x, l = t ++ [x] := ⟨l.dropLast, l.getLast hne, (List.dropLast_concat_getLast hne).symm⟩
      obtain ⟨X, hX, hl, hm⟩ := ih t (by simpa using h)
      by_cases hx : cls x = 0
      · refine ⟨X ++ [x], ⟨CO.append hX.co trivial (fun a b _ hb h0 => ?_), hX.al.append (Alike0.refl _)⟩, by simp [hl], fun y hy => ?_⟩
        · simp at hb; subst hb; exact absurd hx h0
        · rcases List.mem_append.1 hy with h | h
          · exact List.mem_append_left _ (hm y h)
          · exact List.mem_append_right _ h
      · obtain ⟨P, Q, rfl, hQ, hP⟩ := cut_last cls (cls x) X
        have hco : CO cls (P ++ ([x] ++ Q)) := by
          refine CO.append hX.co.left (CO.append (u := [x]) trivial hX.co.right (fun a b ha hb _ => ?_)) (fun a b ha hb _ => ?_)
          · simp at ha; subst ha
            have : b ∈ Q := List.mem_of_mem_head? hb
            exact Int.le_of_lt (hQ b this)
          · simp at hb; subst hb; exact hP a ha
        have hal : Alike0 cls (P ++ Q ++ [x]) (P ++ ([x] ++ Q)) := by
          rw [List.append_assoc]
          refine (Alike0.refl P).append (fun k => ?_)
          have hq0 : ∀ q ∈ Q, cls q ≠ 0 ∧ cls q ≠ cls x := fun q hq => by have := hQ q hq; have := hc0 x; omega
          rw [List.filter_append, List.filter_append]
          by_cases hk : cls x = k
          · have e : Q.filter (fun z => cls z == 0 || cls z == k) = [] := by
              rw [List.filter_eq_nil_iff]
              intro q hq
              have := hq0 q hq
              simp
              omega
            rw [e]; simp
          · have e : [x].filter (fun z => cls z == 0 || cls z == k) = [] := by
              rw [List.filter_eq_nil_iff]
              intro q hq
              simp at hq; subst hq
              simp
              exact ⟨hx, hk⟩
            rw [e]; simp
        refine ⟨P ++ ([x] ++ Q), ⟨hco, (hX.al.append (Alike0.refl [x])).trans hal⟩, by simp at hl ⊢; omega, fun y hy => ?_⟩
        simp only [List.mem_append, List.mem_singleton] at hy hm ⊢
        rcases hy with h | h | h
        · exact .inl (hm y (.inl h))
        · exact .inr h
        · exact .inl (hm y (.inr h))
  exact fun l => key l.length l rfl
end Go.Proofs.YtfhpgmlfgjfknaaGreatDoor
