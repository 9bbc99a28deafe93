/- What Find and Longest say of an entry (plain functions; nothing is claimed here). -/
import Derived.Test.YtfeppbiodbhpcaaGreatDoorPutP
namespace Go.Proofs.YtfeppbiodbhpcaaGreatDoor
open Go.RowKit Go.Vf Go.Maps

theorem findT_mem : ∀ {E : List Ent} {e : Ent}, (E.map Prod.fst).Nodup → e ∈ E → findT E e.1 = some e.2 := by
  intro E
  induction E with
  | nil => intro e _ he; cases he
  | cons a r ih =>
    intro e h he
    rw [List.map_cons, List.nodup_cons] at h
    unfold findT
    rcases List.mem_cons.1 he with rfl | he
    · simp
    · have hne : a.1 ≠ e.1 := fun q => h.1 (q ▸ List.mem_map_of_mem he)
      rw [List.find?_cons_of_neg (by simpa using hne)]
      exact ih h.2 he
theorem longT_ge : ∀ {E : List Ent} {e : Ent} {x : Int}, e ∈ E → e.1.head? = some x → e.1.length ≤ longT E x := by
  intro E
  induction E with
  | nil => intro e x he; cases he
  | cons a r ih =>
    intro e x he hx
    unfold longT
    rcases List.mem_cons.1 he with rfl | he
    · rw [if_pos hx]; omega
    · have := ih he hx
      split <;> omega
theorem longT_hit : ∀ {E : List Ent} {x : Int}, 0 < longT E x → ∃ e ∈ E, e.1.head? = some x ∧ e.1.length = longT E x := by
  intro E
  induction E with
  | nil => intro x h; simp [longT] at h
  | cons a r ih =>
    intro x h
    unfold longT at h ⊢
    split at h
    · rename_i hx
      rw [if_pos hx]
      by_cases hle : longT r x ≤ a.1.length
      · exact ⟨a, by simp, hx, by omega⟩
      · obtain ⟨e, he, h1, h2⟩ := ih (show 0 < longT r x by omega)
        exact ⟨e, by simp [he], h1, by omega⟩
    · rename_i hx
      rw [if_neg hx]
      obtain ⟨e, he, h1, h2⟩ := ih h
      exact ⟨e, by simp [he], h1, h2⟩
def hitB (x : Int) (n : Nat) (e : Ent) : Bool := (e.1.head?.getD (-1) == x) && (e.1.length == n)
def someT (es : List Ent) (x : Int) (n k : Nat) : Bool := (es.take k).any (hitB x n)
theorem someT_step (es : List Ent) (x : Int) (n k : Nat) (hk : k < es.length) : someT es x n (k + 1) = (someT es x n k || hitB x n es[k]) := by
  unfold someT
  rw [List.take_succ_eq_append_getElem hk, List.any_append]
  simp
theorem someT_all {es E : List Ent} (hp : es.Perm E) {e : Ent} (he : e ∈ es) {x : Int} (hx : e.1.head? = some x) (hne : 1 ≤ e.1.length) {k : Nat} (hk : es.length ≤ k) : someT es x (longT E x) k = true := by
  have h1 := longT_ge (hp.mem_iff.1 he) hx
  obtain ⟨f, hf, h2, h3⟩ := longT_hit (show 0 < longT E x by omega)
  unfold someT
  rw [List.take_of_length_le hk]
  refine List.any_eq_true.2 ⟨f, hp.mem_iff.2 hf, ?_⟩
  unfold hitB
  rw [h2, h3]
  simp
end Go.Proofs.YtfeppbiodbhpcaaGreatDoor
