/- The document's Form, plainly: rows sorted by picking the classes one by one (the verifier's own; no program). -/
import Derived.Test.YtadbkkakjekopaaDoorTwiceW
namespace Go.Vf
/-- Of a row those of the classes from 1 up to one, class by class. -/
def pick (cls : Int → Int) (l : List Int) : Nat → List Int
  | 0 => []
  | c + 1 => pick cls l c ++ l.filter (fun x => cls x == ((c + 1 : Nat) : Int))
theorem pick_mem {cls : Int → Int} {l : List Int} : ∀ {c : Nat} {x : Int}, x ∈ pick cls l c ↔ x ∈ l ∧ 1 ≤ cls x ∧ cls x ≤ c := by
  intro c
  induction c with
  | zero => intro x; simp [pick]; omega
  | succ c ih =>
    intro x
    rw [pick, List.mem_append, ih, List.mem_filter]
    simp only [beq_iff_eq]
    constructor
    · rintro (⟨h1, h2, h3⟩ | ⟨h1, h2⟩)
      · exact ⟨h1, h2, by omega⟩
      · exact ⟨h1, by omega, by omega⟩
    · rintro ⟨h1, h2, h3⟩
      by_cases h : cls x ≤ c
      · exact .inl ⟨h1, h2, h⟩
      · exact .inr ⟨h1, by omega⟩
theorem pick_sorted {cls : Int → Int} {l : List Int} : ∀ c, SortedK cls (pick cls l c) := by
  intro c
  induction c with
  | zero => exact SortedK.nil
  | succ c ih =>
    refine SortedK.append ih ?_ (fun x hx y hy => ?_)
    · refine List.pairwise_of_forall_mem_list (fun x hx y hy => ?_)
      have h1 := (List.mem_filter.1 hx).2
      have h2 := (List.mem_filter.1 hy).2
      simp only [beq_iff_eq] at h1 h2
      omega
    · have h1 := (pick_mem.1 hx).2.2
      have h2 := (List.mem_filter.1 hy).2
      simp only [beq_iff_eq] at h2
      omega
theorem pick_filter {cls : Int → Int} {l : List Int} (k : Int) : ∀ c : Nat, (pick cls l c).filter (fun x => cls x == k) = if 1 ≤ k ∧ k ≤ c then l.filter (fun x => cls x == k) else [] := by
  intro c
  induction c with
  | zero => rw [if_neg (by omega)]; rfl
  | succ c ih =>
    rw [pick, List.filter_append, ih, List.filter_filter]
    by_cases h1 : k = ((c + 1 : Nat) : Int)
    · rw [if_neg (by omega), if_pos (by omega), List.nil_append]
      refine List.filter_congr (fun x _ => ?_)
      rw [h1]; simp
    · have e : l.filter (fun x => cls x == k && cls x == ((c + 1 : Nat) : Int)) = [] := by
        rw [List.filter_eq_nil_iff]
        intro x _ h
        simp only [Bool.and_eq_true, beq_iff_eq] at h
        exact h1 (h.1.symm.trans h.2)
      rw [e, List.append_nil]
      by_cases h2 : 1 ≤ k ∧ k ≤ c
      · rw [if_pos h2, if_pos (by omega)]
      · rw [if_neg h2, if_neg (by omega)]
theorem pick_alike {cls : Int → Int} {l : List Int} {c : Nat} (h : ∀ x ∈ l, 1 ≤ cls x ∧ cls x ≤ c) : AlikeK cls l (pick cls l c) := fun k => by
  rw [pick_filter]
  by_cases hk : 1 ≤ k ∧ k ≤ c
  · rw [if_pos hk]
  · rw [if_neg hk, List.filter_eq_nil_iff]
    intro x hx e
    simp only [beq_iff_eq] at e
    exact hk (e ▸ h x hx)
theorem pick_perm {cls : Int → Int} {l : List Int} : ∀ c : Nat, (pick cls l c).Perm (l.filter (fun x => decide (1 ≤ cls x ∧ cls x ≤ c))) := by
  intro c
  induction c with
  | zero =>
    rw [show l.filter (fun x => decide (1 ≤ cls x ∧ cls x ≤ ((0 : Nat) : Int))) = [] by rw [List.filter_eq_nil_iff]; intro x _ h; simp at h; omega]
    exact List.Perm.refl _
  | succ c ih =>
    rw [pick]
    refine (ih.append_right _).trans ?_
    clear ih
    induction l with
    | nil => exact List.Perm.refl _
    | cons x t ih =>
      by_cases a : (1 ≤ cls x ∧ cls x ≤ c)
      · rw [List.filter_cons_of_pos (by simpa using a), List.filter_cons_of_neg (by simp; omega), List.filter_cons_of_pos (by simp; omega)]
        exact ih.cons x
      · by_cases b : cls x = ((c + 1 : Nat) : Int)
        · rw [List.filter_cons_of_neg (by simpa using a), List.filter_cons_of_pos (by simpa using b), List.filter_cons_of_pos (by simp; omega)]
          exact List.perm_middle.trans (ih.cons x)
        · rw [List.filter_cons_of_neg (by simpa using a), List.filter_cons_of_neg (by simpa using b), List.filter_cons_of_neg (by simp; omega)]
          exact ih
theorem pick_len {cls : Int → Int} {l : List Int} {c : Nat} : (pick cls l c).length ≤ l.length := by
  rw [(pick_perm c).length_eq]
  exact List.length_filter_le _ _
/-- Where as many stand there as are asked for, no class behind has any. -/
theorem pick_full {cls : Int → Int} {l : List Int} {c : Nat} (h : l.length ≤ (pick cls l c).length) : ∀ x ∈ l, 1 ≤ cls x ∧ cls x ≤ c := by
  rw [(pick_perm c).length_eq] at h
  have he : l.filter (fun x => decide (1 ≤ cls x ∧ cls x ≤ c)) = l := List.filter_eq_self.2 (fun x hx => by
    have := List.length_filter_eq_length_iff.1 (Nat.le_antisymm (List.length_filter_le _ _) h) x hx
    exact this)
  intro x hx
  rw [← he] at hx
  simpa using (List.mem_filter.1 hx).2
end Go.Vf
