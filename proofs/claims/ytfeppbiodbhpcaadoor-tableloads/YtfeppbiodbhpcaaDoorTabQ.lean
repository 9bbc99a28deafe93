/- Entries' text, and what is read of it: plain functions (the verifier's own; no program). -/
import Derived.Test.YtfeppbiodbhpcaaDoorJ2
namespace Go.Vf

/-- The text of entries. -/
def textT : List Ent → List UInt8
  | [] => []
  | x :: r => entP x ++ r.flatMap fun y => 10 :: entP y
theorem cut_textT : ∀ (r : List Ent) (x : Ent), (∀ y ∈ x :: r, EntOk y) → cutL 10 (textT (x :: r)) = (x :: r).map entP := by
  intro r
  induction r with
  | nil =>
    intro x h
    simp only [textT, List.flatMap_nil, List.append_nil, List.map_cons, List.map_nil]
    exact cutL_plain 10 _ (entP_no (h x (by simp))).1
  | cons z t ih =>
    intro x h
    have hz := ih z (fun y hy => h y (by simp [hy]))
    simp only [textT] at hz
    simp only [textT, List.flatMap_cons, List.cons_append]
    rw [cutL_split 10 _ _ (entP_no (h x (by simp))).1, hz]
    rfl
theorem hasT_no {E : List Ent} {p : List Int} (h : p ∉ E.map Prod.fst) : hasT E p = false := by
  unfold hasT
  rw [List.any_eq_false]
  intro e he hq
  rw [beq_iff_eq] at hq
  exact h (hq ▸ List.mem_map_of_mem he)
theorem tabL_map : ∀ (l : List Ent) (n : Int) (acc : List Ent), (∀ x ∈ l, EntOk x) → ((acc ++ l).map Prod.fst).Nodup → (acc ++ l).length ≤ 4096 → tabL (l.map entP) n acc = .ok (acc ++ l) := by
  intro l
  induction l with
  | nil => intro n acc _ _ _; simp [tabL]
  | cons x r ih =>
    intro n acc h1 h2 h3
    have hx := h1 x (by simp)
    have hno : x.1 ∉ acc.map Prod.fst := by
      intro hm
      rw [List.map_append, List.nodup_append] at h2
      exact h2.2.2 _ hm _ (by simp) rfl
    rw [List.map_cons, tabL, (entP_no hx).2]
    simp only [Bool.false_eq_true, if_false]
    rw [entR_entP hx]
    simp only
    rw [if_pos hx.ok, hasT_no hno]
    simp only [Bool.false_eq_true, if_false]
    rw [if_neg (by simp at h3; omega)]
    have := ih (n + 1) (acc ++ [x]) (fun y hy => h1 y (by simp [hy])) (by simpa using h2) (by simpa using h3)
    rw [this]
    simp
/-- What is printed is read as it was. -/
theorem loadT_textT {l : List Ent} (h1 : ∀ x ∈ l, EntOk x) (h2 : (l.map Prod.fst).Nodup) (h3 : l.length ≤ 4096) (h4 : (textT l).length ≤ 65536) : loadT (textT l) = .ok l := by
  unfold loadT
  rw [if_neg (by omega)]
  cases l with
  | nil => rfl
  | cons x r =>
    rw [cut_textT r x h1]
    exact tabL_map (x :: r) 0 [] h1 h2 h3

/-! ### how long -/
def lensT (l : List Ent) : Nat := (l.map fun x => (entP x).length + 1).sum
theorem lensT_perm {a b : List Ent} (h : a.Perm b) : lensT a = lensT b := (h.map _).sum_nat
theorem lensT_snoc (l : List Ent) (x : Ent) : lensT (l ++ [x]) = lensT l + ((entP x).length + 1) := by simp [lensT]
theorem textT_len : ∀ (l : List Ent), l ≠ [] → (textT l).length + 1 = lensT l := by
  intro l h
  cases l with
  | nil => exact absurd rfl h
  | cons x r =>
    have : ∀ r : List Ent, (r.flatMap fun y => 10 :: entP y).length = lensT r := by
      intro r
      induction r with
      | nil => rfl
      | cons y t ih => simp only [List.flatMap_cons, List.length_append, ih, lensT, List.map_cons, List.sum_cons]; simp
    simp only [textT, List.length_append, this]
    simp only [lensT, List.map_cons, List.sum_cons]
    omega
theorem tabL_lens : ∀ (C : List (List UInt8)) (n : Int) (acc E : List Ent), tabL C n acc = .ok E → lensT E ≤ lensT acc + (C.map (fun s => s.length + 1)).sum := by
  intro C
  induction C with
  | nil => intro n acc E h; simp [tabL] at h; subst h; simp
  | cons s r ih =>
    intro n acc E h
    unfold tabL at h
    split at h
    · have := ih _ _ _ h
      simp only [List.map_cons, List.sum_cons]
      omega
    · split at h
      · cases h
      · rename_i x hx
        split at h
        · split at h
          · cases h
          · split at h
            · cases h
            · have h1 := ih _ _ _ h
              have h2 := congrArg List.length (entP_entR hx)
              rw [lensT_snoc] at h1
              simp only [List.map_cons, List.sum_cons]
              omega
        · cases h
theorem cutL_sum (c : UInt8) : ∀ (s : List UInt8), ((cutL c s).map (fun x => x.length + 1)).sum = s.length + 1 := by
  intro s
  induction s with
  | nil => rfl
  | cons b r ih =>
    unfold cutL
    split
    · simp only [List.map_cons, List.sum_cons, ih, List.length_nil, List.length_cons]; omega
    · cases hc : cutL c r with
      | nil => exact absurd hc (cutL_ne c r)
      | cons h t =>
        rw [hc] at ih
        simp only [List.map_cons, List.sum_cons, List.length_cons] at ih ⊢
        omega
/-- The text of a text's entries, in whatever order, is no longer than it. -/
theorem textT_short {s : List UInt8} {E l : List Ent} (h : loadT s = .ok E) (hp : l.Perm E) : (textT l).length ≤ s.length := by
  unfold loadT at h
  split at h
  · cases h
  · have h1 := tabL_lens _ _ _ _ h
    rw [cutL_sum] at h1
    have h2 := lensT_perm hp
    cases hl : l with
    | nil => simp [textT]
    | cons x r =>
      have h3 := textT_len l (by rw [hl]; simp)
      rw [← hl]
      simp [lensT] at h1 h2 h3
      omega

/-! ### how two rows stand -/
def aheadL : List Int → List Int → Int
  | [], [] => 0
  | [], _ :: _ => -1
  | _ :: _, [] => 1
  | a :: r, b :: t => if a < b then -1 else if b < a then 1 else aheadL r t
theorem aheadL_self : ∀ a : List Int, aheadL a a = 0 := by
  intro a
  induction a with
  | nil => rfl
  | cons x r ih => simp [aheadL, ih]
theorem aheadL_zero : ∀ a b : List Int, aheadL a b = 0 → a = b := by
  intro a
  induction a with
  | nil => intro b h; cases b with
    | nil => rfl
    | cons y t => simp [aheadL] at h
  | cons x r ih =>
    intro b h
    cases b with
    | nil => simp [aheadL] at h
    | cons y t =>
      unfold aheadL at h
      split at h
      · cases h
      · split at h
        · cases h
        · rw [ih t h, show x = y by omega]
theorem aheadL_trans : ∀ a b c : List Int, aheadL a b < 0 → aheadL b c < 0 → aheadL a c < 0 := by
  intro a
  induction a with
  | nil =>
    intro b c h1 h2
    cases b with
    | nil => simp [aheadL] at h1
    | cons y t => cases c with
      | nil => simp [aheadL] at h2
      | cons z u => simp [aheadL]
  | cons x r ih =>
    intro b c h1 h2
    cases b with
    | nil => simp [aheadL] at h1
    | cons y t => cases c with
      | nil => simp [aheadL] at h2
      | cons z u =>
        unfold aheadL at h1 h2 ⊢
        by_cases hxy : x < y
        · by_cases hyz : y < z
          · rw [if_pos (by omega)]; decide
          · rw [if_neg hyz] at h2
            split at h2
            · omega
            · rw [if_pos (by omega)]; decide
        · rw [if_neg hxy] at h1
          split at h1
          · omega
          · by_cases hyz : y < z
            · rw [if_pos (by omega)]; decide
            · rw [if_neg hyz] at h2
              split at h2
              · omega
              · rw [if_neg (by omega), if_neg (by omega)]
                exact ih t u h1 h2

end Go.Vf
