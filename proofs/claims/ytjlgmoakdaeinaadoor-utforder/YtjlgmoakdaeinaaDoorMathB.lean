/- Plain facts on lists of bytes, more: where escaped texts part, what begins with a text (the verifier's own; nothing of any program). -/
import Derived.Test.YtjlgmoakdaeinaaDoorMath
namespace Go.Vf

theorem flip_flip (x : UInt8) : 255 - (255 - x) = x := by
  rw [← UInt8.toNat_inj]
  have h := x.toNat_lt
  have h255 : (255 : UInt8).toNat = 255 := rfl
  have h1 : (255 - x).toNat = 255 - x.toNat := by
    rw [UInt8.toNat_sub_of_le _ _ (by rw [UInt8.le_iff_toNat_le]; omega), h255]
  rw [UInt8.toNat_sub_of_le _ _ (by rw [UInt8.le_iff_toNat_le]; omega), h1]
  omega
theorem flipL_flipL (l : List UInt8) : flipL (flipL l) = l := by
  simp only [flipL, List.map_map]
  exact (List.map_congr_left fun x _ => flip_flip x).trans (List.map_id l)

theorem nextL_above (s n : List UInt8) (h : nextL s = some n) : cmpL s n = -1 := by
  induction s generalizing n with
  | nil => simp [nextL] at h
  | cons c r ih =>
    simp only [nextL] at h
    cases hr : nextL r with
    | some x =>
      rw [hr] at h
      simp only [Option.some.injEq] at h
      subst h
      simp [cmpL, ih x hr]
    | none =>
      rw [hr] at h
      by_cases hc : c = 255
      · simp [hc] at h
      · simp only [hc, if_false, Option.some.injEq] at h
        subst h
        have : c < c + 1 := by
          have h1 := c.toNat_lt
          have h2 : c.toNat ≠ 255 := fun e => hc (UInt8.toNat_inj.1 e)
          rw [UInt8.lt_iff_toNat_lt, UInt8.toNat_add]
          have : (1 : UInt8).toNat = 1 := rfl
          omega
        simp [cmpL, this]

theorem begins_ne (c d : UInt8) (r u : List UInt8) (h : ¬ d = c) : beginsL (d :: u) (c :: r) = false := by
  simp [beginsL, List.isPrefixOf, Ne.symm h]

theorem begins_none (s : List UInt8) : ∀ t, nextL s = none → decide (0 ≤ cmpL t s) = beginsL t s := by
  induction s with
  | nil =>
    intro t _
    cases t <;> simp [cmpL, beginsL]
  | cons c r ih =>
    intro t h
    simp only [nextL] at h
    cases hr : nextL r with
    | some x => rw [hr] at h; simp at h
    | none =>
      rw [hr] at h
      by_cases hc : c = 255
      · subst hc
        cases t with
        | nil => simp [cmpL, beginsL]
        | cons d u =>
          have hi := ih u hr
          have hd := d.toNat_lt
          by_cases e : d = 255
          · subst e
            simp only [cmpL, beginsL, List.isPrefixOf] at hi ⊢
            simpa using hi
          · have h1 : d < 255 := by
              rw [UInt8.lt_iff_toNat_lt]
              have : (255 : UInt8).toNat = 255 := rfl
              have h2 : d.toNat ≠ 255 := fun q => e (UInt8.toNat_inj.1 q)
              omega
            simp [cmpL, begins_ne _ _ _ _ e, h1]
      · simp [hc] at h

theorem begins_some (s : List UInt8) : ∀ t n, nextL s = some n → (decide (0 ≤ cmpL t s) && decide (cmpL t n < 0)) = beginsL t s := by
  induction s with
  | nil => intro t n h; simp [nextL] at h
  | cons c r ih =>
    intro t n h
    simp only [nextL] at h
    cases hr : nextL r with
    | some x =>
      rw [hr] at h
      simp only [Option.some.injEq] at h
      subst h
      cases t with
      | nil => simp [cmpL, beginsL]
      | cons d u =>
        have hi := ih u x hr
        by_cases e : d = c
        · subst e
          simp only [cmpL, beginsL, List.isPrefixOf] at hi ⊢
          simpa using hi
        · by_cases h1 : d < c
          · simp [cmpL, begins_ne _ _ _ _ e, h1]
          · have h2 : c < d := UInt8.lt_of_le_of_ne (UInt8.not_lt.1 h1) (Ne.symm e)
            simp [cmpL, begins_ne _ _ _ _ e, h1, h2]
    | none =>
      rw [hr] at h
      by_cases hc : c = 255
      · simp [hc] at h
      · simp only [hc, if_false, Option.some.injEq] at h
        subst h
        cases t with
        | nil => simp [cmpL, beginsL]
        | cons d u =>
          have hi := begins_none r u hr
          have h0 := c.toNat_lt
          have hc2 : c.toNat ≠ 255 := fun q => hc (UInt8.toNat_inj.1 q)
          have h1n : (c + 1).toNat = c.toNat + 1 := by
            rw [UInt8.toNat_add]
            have : (1 : UInt8).toNat = 1 := rfl
            omega
          by_cases e : d = c
          · subst e
            have h3 : d < d + 1 := by rw [UInt8.lt_iff_toNat_lt]; omega
            simp only [cmpL, beginsL, List.isPrefixOf] at hi ⊢
            simpa [h3] using hi
          · by_cases h1 : d < c
            · simp [cmpL, begins_ne _ _ _ _ e, h1]
            · have h2 : c < d := UInt8.lt_of_le_of_ne (UInt8.not_lt.1 h1) (Ne.symm e)
              have h4 : ¬ d < c + 1 := by
                rw [UInt8.lt_iff_toNat_lt, h1n]
                rw [UInt8.lt_iff_toNat_lt] at h2
                omega
              have h5 : ¬ (if c + 1 < d then (1 : Int) else cmpL u []) < 0 := by
                split
                · omega
                · cases u <;> simp [cmpL]
              simp only [cmpL, h1, h2, h4, if_true, if_false, beginsL, List.isPrefixOf, decide_eq_false h5]
              simp [Ne.symm e]

/-- Two texts part at a byte, as a and b stand. -/
def Parts (A B : List UInt8) (c : Int) : Prop := ∃ pre u v ra rb, A = pre ++ u :: ra ∧ B = pre ++ v :: rb ∧ u ≠ v ∧ c = (if u < v then -1 else 1)

theorem Parts.add {A B : List UInt8} {c : Int} (h : Parts A B c) (p : List UInt8) : Parts (p ++ A) (p ++ B) c := by
  obtain ⟨pre, u, v, ra, rb, rfl, rfl, h1, h2⟩ := h
  exact ⟨p ++ pre, u, v, ra, rb, by simp, by simp, h1, h2⟩
theorem Parts.behind {A B : List UInt8} {c : Int} (h : Parts A B c) (x y : List UInt8) : Parts (A ++ x) (B ++ y) c := by
  obtain ⟨pre, u, v, ra, rb, rfl, rfl, h1, h2⟩ := h
  exact ⟨pre, u, v, ra ++ x, rb ++ y, by simp, by simp, h1, h2⟩
theorem Parts.cmp {A B : List UInt8} {c : Int} (h : Parts A B c) : cmpL A B = c := by
  obtain ⟨pre, u, v, ra, rb, rfl, rfl, h1, h2⟩ := h
  rw [cmpL_append, h2]
  simp only [cmpL]
  by_cases h3 : u < v
  · simp [h3]
  · have h4 : v < u := UInt8.lt_of_le_of_ne (UInt8.not_lt.1 h3) (Ne.symm h1)
    simp [h3, h4]
theorem Parts.not_begins {A B : List UInt8} {c : Int} (h : Parts A B c) : beginsL A B = false ∧ beginsL B A = false := by
  obtain ⟨pre, u, v, ra, rb, rfl, rfl, h1, h2⟩ := h
  constructor
  · rw [beginsL, Bool.eq_false_iff]
    intro hp
    rw [List.isPrefixOf_iff_prefix, List.prefix_append_right_inj] at hp
    obtain ⟨z, hz⟩ := hp
    simp at hz
    exact h1 hz.1.symm
  · rw [beginsL, Bool.eq_false_iff]
    intro hp
    rw [List.isPrefixOf_iff_prefix, List.prefix_append_right_inj] at hp
    obtain ⟨z, hz⟩ := hp
    simp at hz
    exact h1 hz.1
theorem flip_lt (u v : UInt8) : (255 - u < 255 - v) ↔ v < u := by
  have h1 := u.toNat_lt
  have h2 := v.toNat_lt
  have h255 : (255 : UInt8).toNat = 255 := rfl
  rw [UInt8.lt_iff_toNat_lt, UInt8.lt_iff_toNat_lt, UInt8.toNat_sub_of_le _ _ (by rw [UInt8.le_iff_toNat_le]; omega), UInt8.toNat_sub_of_le _ _ (by rw [UInt8.le_iff_toNat_le]; omega), h255]
  omega
theorem Parts.flip {A B : List UInt8} {c : Int} (h : Parts A B c) : Parts (flipL A) (flipL B) (-c) := by
  obtain ⟨pre, u, v, ra, rb, rfl, rfl, h1, h2⟩ := h
  refine ⟨flipL pre, 255 - u, 255 - v, flipL ra, flipL rb, by simp [flipL], by simp [flipL], fun e => h1 (by rw [← flip_flip u, e, flip_flip]), ?_⟩
  rw [h2]
  by_cases h3 : u < v
  · have h4 : ¬ v < u := fun h => absurd (UInt8.lt_trans h3 h) (UInt8.lt_irrefl _)
    simp [flip_lt, h3, h4]
  · have h4 : v < u := UInt8.lt_of_le_of_ne (UInt8.not_lt.1 h3) (Ne.symm h1)
    simp [flip_lt, h3, h4]

theorem pos_of_ne (d : UInt8) (h : d ≠ 0) : 0 < d := by
  rw [UInt8.lt_iff_toNat_lt]
  have h2 : d.toNat ≠ 0 := fun q => h (UInt8.toNat_inj.1 q)
  have : (0 : UInt8).toNat = 0 := rfl
  omega

theorem esc_parts (a : List UInt8) : ∀ b, a ≠ b → Parts (esc a) (esc b) (cmpL a b) := by
  induction a with
  | nil =>
    intro b h
    cases b with
    | nil => exact absurd rfl h
    | cons d b =>
      by_cases e : d = 0
      · subst e
        exact ⟨[0], 1, 255, [], inner b ++ [0, 1], by simp [esc, inner], by simp [esc, inner], by decide, by simp [cmpL]⟩
      · exact ⟨[], 0, d, [1], inner b ++ [0, 1], by simp [esc, inner], by simp [esc, inner, e], Ne.symm e, by simp [cmpL, pos_of_ne d e]⟩
  | cons c a ih =>
    intro b h
    cases b with
    | nil =>
      by_cases e : c = 0
      · subst e
        exact ⟨[0], 255, 1, inner a ++ [0, 1], [], by simp [esc, inner], by simp [esc, inner], by decide, by simp [cmpL]⟩
      · exact ⟨[], c, 0, inner a ++ [0, 1], [1], by simp [esc, inner, e], by simp [esc, inner], e, by simp [cmpL]⟩
    | cons d b =>
      by_cases e : c = d
      · subst e
        have hab : a ≠ b := fun q => h (by rw [q])
        have hi := ih b hab
        have hc : cmpL (c :: a) (c :: b) = cmpL a b := by simp [cmpL]
        rw [hc]
        by_cases h0 : c = 0
        · have e1 : esc (c :: a) = [0, 255] ++ esc a := by simp [esc, inner, h0]
          have e2 : esc (c :: b) = [0, 255] ++ esc b := by simp [esc, inner, h0]
          rw [e1, e2]; exact hi.add _
        · have e1 : esc (c :: a) = [c] ++ esc a := by simp [esc, inner, h0]
          have e2 : esc (c :: b) = [c] ++ esc b := by simp [esc, inner, h0]
          rw [e1, e2]; exact hi.add _
      · have hp : ∀ x : UInt8, ∀ y, ∃ r, esc (x :: y) = x :: r := by
          intro x y
          by_cases h0 : x = 0
          · exact ⟨_, by simp [esc, inner, h0]; rfl⟩
          · exact ⟨_, by simp [esc, inner, h0]; rfl⟩
        obtain ⟨r1, e1⟩ := hp c a
        obtain ⟨r2, e2⟩ := hp d b
        refine ⟨[], c, d, r1, r2, e1, e2, e, ?_⟩
        by_cases h3 : c < d
        · simp [cmpL, h3]
        · have h4 : d < c := UInt8.lt_of_le_of_ne (UInt8.not_lt.1 h3) (Ne.symm e)
          simp [cmpL, h3, h4]

end Go.Vf
