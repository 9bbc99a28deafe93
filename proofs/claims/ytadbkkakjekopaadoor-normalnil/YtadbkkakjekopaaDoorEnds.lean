/- Parts to the end, along an order in which each point stands behind its parts (the verifier's own; no program). -/
namespace Go.Vf

/-- Parts to the end, so many steps deep. -/
def wh (G : Int → List Int) : Nat → Int → List Int
  | 0, p => [p]
  | k + 1, p => if G p = [] then [p] else (G p).flatMap (wh G k)

theorem wh_leaf {G : Int → List Int} {p : Int} (h : G p = []) (k : Nat) : wh G k p = [p] := by
  cases k <;> simp [wh, h]

theorem wh_ne {G : Int → List Int} : ∀ (k : Nat) (p : Int), wh G k p ≠ [] := by
  intro k
  induction k with
  | zero => intro p; simp [wh]
  | succ k ih =>
    intro p
    unfold wh
    split
    · simp
    · rename_i h
      intro e
      rw [List.flatMap_eq_nil_iff] at e
      cases hG : G p with
      | nil => exact h hG
      | cons a r => exact ih a (e a (by rw [hG]; simp))

/-- An order in which each point stands behind its parts. -/
def Topo (G : Int → List Int) (ord : List Int) : Prop := ∀ pre x post, ord = pre ++ x :: post → ∀ y ∈ G x, y ∈ pre

theorem flatMap_congr_mem {α β : Type} {f g : α → List β} {l : List α} (h : ∀ x ∈ l, f x = g x) : l.flatMap f = l.flatMap g := by
  induction l with
  | nil => rfl
  | cons a r ih => simp only [List.flatMap_cons]; rw [h a (by simp), ih (fun x hx => h x (by simp [hx]))]

section
variable {G : Int → List Int} {ord : List Int}

theorem wh_stable (ht : Topo G ord) : ∀ (n : Nat) (pre : List Int) (x : Int) (post : List Int), pre.length ≤ n → ord = pre ++ x :: post → ∀ k, pre.length + 1 ≤ k → wh G k x = wh G (pre.length + 1) x := by
  intro n
  induction n with
  | zero =>
    intro pre x post hn hs k hk
    have hp : pre = [] := List.length_eq_zero_iff.1 (by omega)
    have hG : G x = [] := by
      cases hG : G x with
      | nil => rfl
      | cons a r => have := ht pre x post hs a (by rw [hG]; simp); rw [hp] at this; simp at this
    rw [wh_leaf hG, wh_leaf hG]
  | succ n ih =>
    intro pre x post hn hs k hk
    obtain ⟨k', rfl⟩ : ∃ k', k = k' + 1 := ⟨k - 1, by omega⟩
    unfold wh
    split
    · rfl
    · refine flatMap_congr_mem fun y hy => ?_
      have hyp := ht pre x post hs y hy
      obtain ⟨p1, p2, e⟩ := List.append_of_mem hyp
      have hl : p1.length + 1 ≤ pre.length := by rw [e]; simp
      have hs2 : ord = p1 ++ y :: (p2 ++ x :: post) := by rw [hs, e]; simp
      rw [ih p1 y _ (by omega) hs2 k' (by omega), ih p1 y _ (by omega) hs2 pre.length (by omega)]

theorem wh_eq (ht : Topo G ord) {N : Nat} (hN : ord.length + 1 ≤ N) {x : Int} (hx : x ∈ ord) (hne : G x ≠ []) : wh G N x = (G x).flatMap (wh G N) := by
  obtain ⟨pre, post, hs⟩ := List.append_of_mem hx
  have hlen : pre.length + 1 ≤ ord.length := by rw [hs]; simp
  obtain ⟨N', rfl⟩ : ∃ N', N = N' + 1 := ⟨N - 1, by omega⟩
  rw [wh, if_neg hne]
  refine flatMap_congr_mem fun y hy => ?_
  obtain ⟨p1, p2, e⟩ := List.append_of_mem (ht pre x post hs y hy)
  have hl : p1.length + 1 ≤ pre.length := by rw [e]; simp
  have hs2 : ord = p1 ++ y :: (p2 ++ x :: post) := by rw [hs, e]; simp
  rw [wh_stable ht _ p1 y _ (Nat.le_refl _) hs2 N' (by omega), wh_stable ht _ p1 y _ (Nat.le_refl _) hs2 (N' + 1) (by omega)]

/-- No point among the parts to the end has parts. -/
theorem wh_ends (ht : Topo G ord) {N : Nat} (hN : ord.length + 1 ≤ N) : ∀ (n : Nat) (pre : List Int) (x : Int) (post : List Int), pre.length ≤ n → ord = pre ++ x :: post → ∀ z ∈ wh G N x, G z = [] := by
  intro n
  induction n with
  | zero =>
    intro pre x post hn hs z hz
    have hp : pre = [] := List.length_eq_zero_iff.1 (by omega)
    have hG : G x = [] := by
      cases hG : G x with
      | nil => rfl
      | cons a r => have := ht pre x post hs a (by rw [hG]; simp); rw [hp] at this; simp at this
    rw [wh_leaf hG] at hz
    simp at hz; subst hz; exact hG
  | succ n ih =>
    intro pre x post hn hs z hz
    by_cases hG : G x = []
    · rw [wh_leaf hG] at hz
      simp at hz; subst hz; exact hG
    · rw [wh_eq ht hN (by rw [hs]; simp) hG] at hz
      obtain ⟨y, hy, hz⟩ := List.mem_flatMap.1 hz
      obtain ⟨p1, p2, e⟩ := List.append_of_mem (ht pre x post hs y hy)
      have hl : p1.length + 1 ≤ pre.length := by rw [e]; simp
      exact ih p1 y (p2 ++ x :: post) (by omega) (by rw [hs, e]; simp) z hz

/-! ### as the program finds them -/
def updL (E : Int → List Int) (x : Int) (v : List Int) : Int → List Int := fun y => if y = x then v else E y
def endsOfF (E : Int → List Int) (p : Int) : List Int := if E p = [] then [p] else E p
def joinF (E : Int → List Int) : List Int → List Int → List Int
  | acc, [] => acc
  | acc, q :: r => if 18 < (acc ++ endsOfF E q).length then (acc ++ endsOfF E q).take 19 else joinF E (acc ++ endsOfF E q) r
def fillF (has : Int → Bool) (G : Int → List Int) : List Int → (Int → List Int) → (Int → List Int)
  | [], E => E
  | p :: r, E => fillF has G r (if has p then updL E p (joinF E [] (G p)) else E)

theorem joinF_eq (E : Int → List Int) : ∀ (l acc : List Int), acc.length ≤ 18 → joinF E acc l = (acc ++ l.flatMap (endsOfF E)).take 19 := by
  intro l
  induction l with
  | nil => intro acc h; simp [joinF]; rw [List.take_of_length_le (by omega)]
  | cons q r ih =>
    intro acc h
    unfold joinF
    split
    · rename_i h2
      rw [List.flatMap_cons, ← List.append_assoc, List.take_append_of_le_length (l₁ := acc ++ endsOfF E q) (by omega)]
    · rename_i h2
      rw [ih _ (by omega)]
      simp

theorem take_flatMap_take {f : Int → List Int} (n : Nat) : ∀ (l : List Int) (acc : List Int), (acc ++ l.flatMap (fun x => (f x).take n)).take n = (acc ++ l.flatMap f).take n := by
  intro l
  induction l with
  | nil => intro acc; simp
  | cons a r ih =>
    intro acc
    simp only [List.flatMap_cons, ← List.append_assoc]
    rw [ih]
    by_cases h : (f a).length ≤ n
    · rw [List.take_of_length_le h]
    · have e1 : ((acc ++ (f a).take n) ++ r.flatMap f).take n = (acc ++ (f a).take n).take n := List.take_append_of_le_length (by simp; omega)
      have e2 : ((acc ++ f a) ++ r.flatMap f).take n = (acc ++ f a).take n := List.take_append_of_le_length (by simp; omega)
      rw [e1, e2, List.take_append, List.take_append, List.take_take, Nat.min_eq_left (by omega)]

theorem fill_ok (ht : Topo G ord) {N : Nat} (hN : ord.length + 1 ≤ N) {has : Int → Bool} (hhas : ∀ x, has x = false → G x = []) :
    ∀ (rest pre : List Int) (E : Int → List Int), ord = pre ++ rest → (∀ p, E p = if p ∈ pre ∧ G p ≠ [] then (wh G N p).take 19 else []) →
      ∀ p, fillF has G rest E p = if p ∈ ord ∧ G p ≠ [] then (wh G N p).take 19 else [] := by
  intro rest
  induction rest with
  | nil => intro pre E hs hE p; simp at hs; subst hs; exact hE p
  | cons x r ih =>
    intro pre E hs hE p
    unfold fillF
    refine ih (pre ++ [x]) _ (by rw [hs]; simp) ?_ p
    intro q
    have hends : ∀ y ∈ G x, endsOfF E y = (wh G N y).take 19 := fun y hy => by
      have hyp := ht pre x r hs y hy
      unfold endsOfF
      rw [hE y]
      by_cases hG : G y = []
      · simp [hG, wh_leaf hG]
      · have hne : (wh G N y).take 19 ≠ [] := by
          intro e
          rw [List.take_eq_nil_iff] at e
          rcases e with e | e
          · omega
          · exact wh_ne N y e
        have e1 : (if y ∈ pre ∧ G y ≠ [] then (wh G N y).take 19 else []) = (wh G N y).take 19 := if_pos ⟨hyp, hG⟩
        rw [e1, if_neg hne]
    have hval : joinF E [] (G x) = if G x ≠ [] then (wh G N x).take 19 else [] := by
      rw [joinF_eq E (G x) [] (by simp), List.nil_append, flatMap_congr_mem hends]
      have := take_flatMap_take (f := wh G N) 19 (G x) []
      rw [List.nil_append, List.nil_append] at this
      rw [this]
      by_cases hG : G x = []
      · simp [hG]
      · rw [if_pos hG, wh_eq ht hN (by rw [hs]; simp) hG]
    by_cases hh : has x = true
    · rw [if_pos hh]
      show (if q = x then joinF E [] (G x) else E q) = _
      by_cases hq : q = x
      · subst hq
        rw [if_pos rfl, hval]
        by_cases hG : G q = []
        · simp [hG]
        · simp [hG]
      · rw [if_neg hq, hE q]
        simp [hq]
    · rw [if_neg hh, hE q]
      by_cases hq : q = x
      · subst hq
        have := hhas q (by simpa using hh)
        simp [this]
      · simp [hq]

end
end Go.Vf
