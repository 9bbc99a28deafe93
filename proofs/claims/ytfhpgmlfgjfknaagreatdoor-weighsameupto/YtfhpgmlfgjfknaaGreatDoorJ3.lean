/- Contracts and lemmas (nothing is claimed here). -/
import Derived.Test.YtfhpgmlfgjfknaaGreatDoorSort
namespace Go.Vf
section
variable (cls : Int → Int) (fnd : List Int → Bool)
def scanD : List Int → Int → List Int → List Int × List Int
  | r, _, [] => (r, [])
  | r, top, x :: xs => if cls x = 0 then (r, x :: xs) else if fnd (r ++ [x]) = true ∧ top < cls x then scanD (r ++ [x]) top xs else ((scanD r (max top (cls x)) xs).1, x :: (scanD r (max top (cls x)) xs).2)
def firstN (l : List Int) : Nat → Nat
  | 0 => 0
  | n + 1 => if fnd (l.take (n + 1)) = true then n + 1 else firstN l n
def headN (l : List Int) : Nat := firstN fnd l (min 8 l.length)
def stepD (l : List Int) : List Int × List Int := if headN fnd l = 0 then (l.take 1, l.drop 1) else scanD cls fnd (l.take (headN fnd l)) 0 (l.drop (headN fnd l))
def allD : Nat → List Int → List (List Int)
  | 0, _ => []
  | k + 1, l => if l = [] then [] else (stepD cls fnd l).1 :: allD k (stepD cls fnd l).2
def stepsD (l : List Int) : List (List Int) := allD cls fnd l.length l
variable {cls : Int → Int} {fnd : List Int → Bool}
theorem firstN_le (l : List Int) : ∀ n, firstN fnd l n ≤ n
  | 0 => Nat.le_refl _
  | n + 1 => by
    unfold firstN
    split
    · exact Nat.le_refl _
    · exact Nat.le_succ_of_le (firstN_le l n)
theorem firstN_hit (l : List Int) : ∀ n, 0 < firstN fnd l n → fnd (l.take (firstN fnd l n)) = true
  | 0 => fun h => absurd h (by simp [firstN])
  | n + 1 => by
    unfold firstN
    split
    · intro _; assumption
    · exact firstN_hit l n
theorem firstN_cut (l : List Int) (a : Nat) : ∀ b, a ≤ b → (∀ n, a < n → n ≤ b → fnd (l.take n) = false) → firstN fnd l b = firstN fnd l a
  | 0 => fun h _ => by rw [Nat.le_zero.1 h]
  | b + 1 => fun h hn => by
    by_cases e : a = b + 1
    · rw [e]
    · have h1 := hn (b + 1) (by omega) (Nat.le_refl _)
      rw [firstN, h1]
      simp only [Bool.false_eq_true, if_false]
      exact firstN_cut l a b (by omega) (fun n g1 g2 => hn n g1 (by omega))
theorem firstN_same (l m : List Int) : ∀ n, (∀ k, k ≤ n → l.take k = m.take k) → firstN fnd l n = firstN fnd m n
  | 0 => fun _ => rfl
  | n + 1 => fun h => by
    rw [firstN, firstN, h (n + 1) (Nat.le_refl _), firstN_same l m n (fun k hk => h k (by omega))]
theorem headN_le (l : List Int) : headN fnd l ≤ l.length ∧ headN fnd l ≤ 8 := by
  have := firstN_le (fnd := fnd) l (min 8 l.length)
  unfold headN
  omega
theorem headN_hit {l : List Int} (h : headN fnd l ≠ 0) : fnd (l.take (headN fnd l)) = true := firstN_hit l _ (Nat.pos_of_ne_zero h)
theorem headN_most {l : List Int} {x : Int} (m : Nat) (hm : m ≤ 8) (hx : l.head? = some x) (hf : ∀ q, fnd q = true → q.head? = some x → q.length ≤ m) : headN fnd l = firstN fnd l (min m l.length) := by
  unfold headN
  refine firstN_cut l _ _ (by omega) fun n h1 h2 => ?_
  cases hb : fnd (l.take n) with
  | false => rfl
  | true =>
    have e : (l.take n).head? = some x := by
      cases l with
      | nil => simp at hx
      | cons y t =>
        cases n with
        | zero => omega
        | succ n => simpa using hx
    have := hf _ hb e
    rw [List.length_take] at this
    omega
theorem scanD_len : ∀ (xs r : List Int) (top : Int), (scanD cls fnd r top xs).1.length + (scanD cls fnd r top xs).2.length = r.length + xs.length := by
  intro xs
  induction xs with
  | nil => intro r top; simp [scanD]
  | cons x xs ih =>
    intro r top
    unfold scanD
    split
    · simp
    · split
      · have := ih (r ++ [x]) top
        simp at this ⊢
        omega
      · have := ih r (max top (cls x))
        simp
        omega
theorem scanD_pre : ∀ (xs r : List Int) (top : Int), ∃ a, (scanD cls fnd r top xs).1 = r ++ a := by
  intro xs
  induction xs with
  | nil => intro r top; exact ⟨[], by simp [scanD]⟩
  | cons x xs ih =>
    intro r top
    unfold scanD
    split
    · exact ⟨[], by simp⟩
    · split
      · obtain ⟨a, ha⟩ := ih (r ++ [x]) top
        exact ⟨x :: a, by rw [ha]; simp⟩
      · exact ih r _
theorem stepD_len (l : List Int) : (stepD cls fnd l).1.length + (stepD cls fnd l).2.length = l.length := by
  have h := headN_le (fnd := fnd) l
  unfold stepD
  split
  · simp; omega
  · rw [scanD_len]
    simp
    omega
theorem stepD_pos {l : List Int} (h : l ≠ []) : 0 < (stepD cls fnd l).1.length := by
  have hl : 0 < l.length := List.length_pos_iff.2 h
  unfold stepD
  split
  · simp; omega
  · rename_i hn
    obtain ⟨a, ha⟩ := scanD_pre (cls := cls) (fnd := fnd) (l.drop (headN fnd l)) (l.take (headN fnd l)) 0
    rw [ha]
    simp
    omega
theorem stepD_short {l : List Int} (h : l ≠ []) : (stepD cls fnd l).2.length < l.length := by
  have h1 := stepD_len (cls := cls) (fnd := fnd) l
  have h2 := stepD_pos (cls := cls) (fnd := fnd) h
  omega
theorem allD_more : ∀ (n k : Nat) (l : List Int), l.length ≤ n → l.length ≤ k → allD cls fnd n l = allD cls fnd k l := by
  intro n
  induction n with
  | zero =>
    intro k l h1 _
    obtain rfl : l = [] := List.eq_nil_of_length_eq_zero (by omega)
    cases k <;> simp [allD]
  | succ n ih =>
    intro k l h1 h2
    by_cases hl : l = []
    · subst hl; cases k <;> simp [allD]
    · cases k with
      | zero => exact absurd (List.eq_nil_of_length_eq_zero (by omega)) hl
      | succ k =>
        have h3 := stepD_short (cls := cls) (fnd := fnd) hl
        simp only [allD, if_neg hl]
        rw [ih k _ (by omega) (by omega)]
theorem stepsD_nil : stepsD cls fnd [] = [] := rfl
theorem stepsD_cons {l : List Int} (h : l ≠ []) : stepsD cls fnd l = (stepD cls fnd l).1 :: stepsD cls fnd (stepD cls fnd l).2 := by
  have h3 := stepD_short (cls := cls) (fnd := fnd) h
  unfold stepsD
  cases hl : l.length with
  | zero => exact absurd (List.eq_nil_of_length_eq_zero hl) h
  | succ n =>
    rw [allD, if_neg h, allD_more n _ _ (by omega) (Nat.le_refl _)]
theorem steps_ind {P : List Int → Prop} (h0 : P []) (h1 : ∀ l, l ≠ [] → P (stepD cls fnd l).2 → P l) : ∀ l, P l := by
  intro l
  induction hn : l.length using Nat.strongRecOn generalizing l with
  | ind n ih =>
    by_cases hl : l = []
    · rw [hl]; exact h0
    · refine h1 l hl (ih _ ?_ _ rfl)
      have := stepD_short (cls := cls) (fnd := fnd) hl
      omega
theorem stepsD_length (l : List Int) : (stepsD cls fnd l).length ≤ l.length := by
  refine steps_ind (cls := cls) (fnd := fnd) (P := fun l => (stepsD cls fnd l).length ≤ l.length) (by simp [stepsD_nil]) (fun l hl ih => ?_) l
  rw [stepsD_cons hl]
  have := stepD_short (cls := cls) (fnd := fnd) hl
  simp
  omega
theorem stepsD_ne (l : List Int) : ∀ r ∈ stepsD cls fnd l, r ≠ [] := by
  refine steps_ind (cls := cls) (fnd := fnd) (P := fun l => ∀ r ∈ stepsD cls fnd l, r ≠ []) (by simp [stepsD_nil]) (fun l hl ih => ?_) l
  rw [stepsD_cons hl]
  intro r hr
  rcases List.mem_cons.1 hr with rfl | hr
  · have := stepD_pos (cls := cls) (fnd := fnd) hl
    intro e
    rw [e] at this
    simp at this
  · exact ih r hr
theorem stepsD_sum (l : List Int) : ((stepsD cls fnd l).map List.length).sum = l.length := by
  refine steps_ind (cls := cls) (fnd := fnd) (P := fun l => ((stepsD cls fnd l).map List.length).sum = l.length) (by simp [stepsD_nil]) (fun l hl ih => ?_) l
  rw [stepsD_cons hl, List.map_cons, List.sum_cons, ih]
  exact stepD_len l
theorem scanD_tail (Y : List Int) (hY : ∀ y, Y.head? = some y → cls y = 0) : ∀ (xs r : List Int) (top : Int), scanD cls fnd r top (xs ++ Y) = ((scanD cls fnd r top xs).1, (scanD cls fnd r top xs).2 ++ Y) := by
  intro xs
  induction xs with
  | nil =>
    intro r top
    cases Y with
    | nil => simp [scanD]
    | cons y Y =>
      have := hY y rfl
      simp [scanD, this]
  | cons x xs ih =>
    intro r top
    rw [List.cons_append]
    unfold scanD
    split
    · rfl
    · split
      · exact ih _ _
      · rw [ih]; rfl
theorem stepD_tail (Y : List Int) (hY : ∀ y, Y.head? = some y → cls y = 0) (m : Nat) (hm : ∀ q, fnd q = true → q.length ≤ m) {l : List Int} (hl : l ≠ []) (hlm : m ≤ l.length) : stepD cls fnd (l ++ Y) = ((stepD cls fnd l).1, (stepD cls fnd l).2 ++ Y) := by
  have hpos : 0 < l.length := List.length_pos_iff.2 hl
  have e : headN fnd (l ++ Y) = headN fnd l := by
    have cut : ∀ (k : List Int) (b : Nat), m ≤ k.length → b ≤ k.length → firstN fnd k b = firstN fnd k (min m b) := fun k b h1 h2 => by
      refine firstN_cut k _ _ (by omega) fun n g1 g2 => ?_
      cases hb : fnd (k.take n) with
      | false => rfl
      | true =>
        have := hm _ hb
        rw [List.length_take] at this
        omega
    unfold headN
    rw [cut l _ hlm (by omega), cut (l ++ Y) _ (by simp; omega) (by omega)]
    have e2 : min m (min 8 (l ++ Y).length) = min m (min 8 l.length) := by simp; omega
    rw [e2]
    refine firstN_same _ _ _ fun k hk => ?_
    rw [List.take_append_of_le_length (by omega)]
  have hle := (headN_le (fnd := fnd) l).1
  unfold stepD
  rw [e]
  split
  · rw [List.take_append_of_le_length (by omega), List.drop_append_of_le_length (by omega)]
  · rw [List.take_append_of_le_length hle, List.drop_append_of_le_length hle, scanD_tail Y hY]
theorem tails (Y : List Int) (hY : ∀ y, Y.head? = some y → cls y = 0) (m : Nat) (hm : ∀ q, fnd q = true → q.length ≤ m) (l : List Int) :
    ∀ i, i + m < (stepsD cls fnd l).length → (stepsD cls fnd (l ++ Y))[i]? = (stepsD cls fnd l)[i]? := by
  refine steps_ind (cls := cls) (fnd := fnd) (P := fun l => ∀ i, i + m < (stepsD cls fnd l).length → (stepsD cls fnd (l ++ Y))[i]? = (stepsD cls fnd l)[i]?) (by simp [stepsD_nil]) (fun l hl ih => ?_) l
  intro i hi
  have h1 := stepsD_length (cls := cls) (fnd := fnd) l
  have h2 := stepD_tail (cls := cls) Y hY m hm hl (by omega)
  have hne : l ++ Y ≠ [] := by simp [hl]
  rw [stepsD_cons hl] at hi ⊢
  rw [stepsD_cons hne, h2]
  cases i with
  | zero => rfl
  | succ i =>
    simp only [List.getElem?_cons_succ]
    exact ih i (by simp at hi; omega)
end
end Go.Vf
namespace Go.Vf
section
variable (cls : Int → Int) (fnd : List Int → Bool) (m : Nat)
def joinPc : List Int → List Int → List Int × List Int × Bool
  | row, [] => (row, [], false)
  | row, x :: xs => if row.length = m ∨ cls x = 0 then (row, x :: xs, true) else if fnd (row ++ [x]) = true then joinPc (row ++ [x]) xs else (row, x :: xs, false)
def joinPs : List Int → List (List Int) → List Int × List (List Int)
  | row, [] => (row, [])
  | row, p :: ps => if (joinPc cls fnd m row p).2.2 = true then ((joinPc cls fnd m row p).1, (joinPc cls fnd m row p).2.1 :: ps) else ((joinPs (joinPc cls fnd m row p).1 ps).1, (joinPc cls fnd m row p).2.1 :: (joinPs (joinPc cls fnd m row p).1 ps).2)
def Rising : Int → List (List Int) → Prop
  | _, [] => True
  | top, p :: ps => (p = [] ∧ Rising top ps) ∨ ∃ c, p ≠ [] ∧ (∀ x ∈ p, cls x = c) ∧ (c = 0 ∨ top < c) ∧ Rising c ps
def dropPs : Nat → List (List Int) → List (List Int)
  | _, [] => []
  | n, p :: ps => p.drop (min n p.length) :: dropPs (n - min n p.length) ps
variable {cls : Int → Int} {fnd : List Int → Bool} {m : Nat}
theorem Rising.mono : ∀ {ps : List (List Int)} {a b : Int}, Rising cls a ps → b ≤ a → Rising cls b ps := by
  intro ps
  induction ps with
  | nil => intro a b _ _; trivial
  | cons p ps ih =>
    intro a b h hb
    rcases h with ⟨h1, h2⟩ | ⟨c, hp0, h1, h2, h3⟩
    · exact .inl ⟨h1, ih h2 hb⟩
    · exact .inr ⟨c, hp0, h1, by omega, h3⟩
theorem dropPs_flat : ∀ (ps : List (List Int)) (n : Nat), (dropPs n ps).flatten = ps.flatten.drop n := by
  intro ps
  induction ps with
  | nil => intro n; simp [dropPs]
  | cons p ps ih =>
    intro n
    rw [dropPs, List.flatten_cons, List.flatten_cons, ih, List.drop_append]
    congr 1
    · by_cases h : n ≤ p.length
      · rw [Nat.min_eq_left h]
      · rw [Nat.min_eq_right (by omega), List.drop_eq_nil_of_le (Nat.le_refl _), List.drop_eq_nil_of_le (by omega)]
    · congr 1
      omega
theorem dropPs_zero : ∀ (ps : List (List Int)), dropPs 0 ps = ps := by
  intro ps
  induction ps with
  | nil => rfl
  | cons p ps ih => simp [dropPs, ih]
theorem dropPs_length : ∀ (ps : List (List Int)) (n : Nat), (dropPs n ps).length = ps.length := by
  intro ps
  induction ps with
  | nil => intro n; rfl
  | cons p ps ih => intro n; simp [dropPs, ih]
theorem Rising.drop (_hc0 : ∀ x, 0 ≤ cls x) : ∀ (ps : List (List Int)) (n : Nat), Rising cls 0 ps → Rising cls 0 (dropPs n ps) := by
  intro ps
  induction ps with
  | nil => intro n _; trivial
  | cons p ps ih =>
    intro n h
    rcases h with ⟨h1, h2⟩ | ⟨c, hp0, h1, h2, h3⟩
    · subst h1
      exact .inl ⟨by simp, by simpa using ih n h2⟩
    · by_cases hn : n < p.length
      · have e : n - min n p.length = 0 := by omega
        rw [dropPs, e, dropPs_zero]
        exact .inr ⟨c, by rw [Nat.min_eq_left (by omega)]; intro e; have := congrArg List.length e; simp at this; omega, fun x hx => h1 x (List.mem_of_mem_drop hx), h2, h3⟩
      · have e : min n p.length = p.length := by omega
        rw [dropPs, e]
        exact .inl ⟨by simp, ih _ (h3.mono (by omega))⟩
def Most (fnd : List Int → Bool) (x : Int) (m : Nat) : Prop := ∀ q, fnd q = true → q.head? = some x → q.length ≤ m
theorem scanD_full {x : Int} (hm : Most fnd x m) : ∀ (xs r : List Int) (top : Int), r.head? = some x → m ≤ r.length → scanD cls fnd r top xs = (r, xs) := by
  intro xs
  induction xs with
  | nil => intro r top _ _; rfl
  | cons y xs ih =>
    intro r top hr hl
    unfold scanD
    split
    · rfl
    · rw [if_neg, ih r _ hr hl]
      intro h
      have := hm _ h.1 (by rw [List.head?_append, hr]; rfl)
      simp at this
      omega
theorem scanD_block : ∀ (p xs r : List Int) (top : Int), (∀ y ∈ p, cls y ≠ 0 ∧ cls y ≤ top) → scanD cls fnd r top (p ++ xs) = ((scanD cls fnd r top xs).1, p ++ (scanD cls fnd r top xs).2) := by
  intro p
  induction p with
  | nil => intro xs r top _; rfl
  | cons y p ih =>
    intro xs r top h
    have hy := h y (by simp)
    have e : max top (cls y) = top := by omega
    rw [List.cons_append]
    conv => lhs; unfold scanD
    rw [if_neg hy.1, if_neg (by omega), e, ih xs r top (fun z hz => h z (by simp [hz]))]
    rfl
theorem joinPc_len : ∀ (p row : List Int), row.length ≤ m → (joinPc cls fnd m row p).1.length ≤ m ∧ ∃ a, (joinPc cls fnd m row p).1 = row ++ a ∧ p = a ++ (joinPc cls fnd m row p).2.1 := by
  intro p
  induction p with
  | nil => intro row h; exact ⟨h, [], by simp [joinPc], by simp [joinPc]⟩
  | cons x xs ih =>
    intro row h
    unfold joinPc
    split
    · exact ⟨h, [], by simp, by simp⟩
    · rename_i hc
      split
      · obtain ⟨h1, a, h2, h3⟩ := ih (row ++ [x]) (by simp; omega)
        exact ⟨h1, x :: a, by rw [h2]; simp, by rw [List.cons_append, ← h3]⟩
      · exact ⟨h, [], by simp, by simp⟩
theorem joinPc_go {x : Int} (hm : Most fnd x m) {c : Int} (hc : c ≠ 0) : ∀ (p row : List Int) (top : Int) (rest : List Int), (∀ y ∈ p, cls y = c) → top < c → row.head? = some x → row.length ≤ m →
    scanD cls fnd row top (p ++ rest) = (if (joinPc cls fnd m row p).2.2 = true then ((joinPc cls fnd m row p).1, (joinPc cls fnd m row p).2.1 ++ rest) else if (joinPc cls fnd m row p).2.1 = [] then scanD cls fnd (joinPc cls fnd m row p).1 top rest else ((scanD cls fnd (joinPc cls fnd m row p).1 c rest).1, (joinPc cls fnd m row p).2.1 ++ (scanD cls fnd (joinPc cls fnd m row p).1 c rest).2)) := by
  intro p
  induction p with
  | nil => intro row top rest _ _ _ _; simp [joinPc]
  | cons y p ih =>
    intro row top rest hp ht hr hl
    have hy : cls y = c := hp y (by simp)
    unfold joinPc
    by_cases h1 : row.length = m ∨ cls y = 0
    · rw [if_pos h1]
      simp only [if_true]
      rw [scanD_full hm _ _ _ hr (by omega)]
    · rw [if_neg h1]
      by_cases h2 : fnd (row ++ [y]) = true
      · rw [if_pos h2, List.cons_append]
        conv => lhs; unfold scanD
        rw [if_neg (by omega), if_pos ⟨h2, by omega⟩]
        exact ih (row ++ [y]) top rest (fun z hz => hp z (by simp [hz])) ht (by rw [List.head?_append, hr]; rfl) (by simp; omega)
      · rw [if_neg h2, List.cons_append]
        conv => lhs; unfold scanD
        have e : max top (cls y) = c := by omega
        rw [if_neg (by omega), if_neg (fun h => h2 h.1), e, scanD_block p rest row c (fun z hz => by have := hp z (by simp [hz]); omega)]
        simp
theorem join_scan {x : Int} (hm : Most fnd x m) (_hc0 : ∀ x, 0 ≤ cls x) : ∀ (ps : List (List Int)) (row : List Int) (top : Int), Rising cls top ps → 0 ≤ top → row.head? = some x → row.length ≤ m →
    scanD cls fnd row top ps.flatten = ((joinPs cls fnd m row ps).1, (joinPs cls fnd m row ps).2.flatten) ∧ Rising cls top (joinPs cls fnd m row ps).2 ∧ (joinPs cls fnd m row ps).2.length = ps.length := by
  intro ps
  induction ps with
  | nil => intro row top _ _ _ _; exact ⟨by simp [joinPs, scanD], trivial, rfl⟩
  | cons p ps ih =>
    intro row top h h0 hr hl
    rw [List.flatten_cons]
    rcases h with ⟨h1, h2⟩ | ⟨c, hp0, h1, h2, h3⟩
    · subst h1
      obtain ⟨i1, i2, i3⟩ := ih row top h2 h0 hr hl
      simp only [joinPs, joinPc, Bool.false_eq_true, if_false, List.nil_append, List.flatten_cons, List.length_cons]
      exact ⟨i1, .inl ⟨rfl, i2⟩, by rw [i3]⟩
    · by_cases hc : c = 0
      · subst hc
        cases p with
        | nil => exact absurd rfl hp0
        | cons y p =>
          have hy : cls y = 0 := h1 y (by simp)
          have e : joinPc cls fnd m row (y :: p) = (row, y :: p, true) := by unfold joinPc; rw [if_pos (.inr hy)]
          simp only [joinPs, e, if_true, List.flatten_cons, List.length_cons]
          refine ⟨?_, .inr ⟨0, hp0, h1, .inl rfl, h3⟩, trivial⟩
          rw [List.cons_append]
          unfold scanD
          rw [if_pos hy]
      · have ht : top < c := by omega
        have hgo := joinPc_go hm hc p row top ps.flatten h1 ht hr hl
        obtain ⟨k1, a, k2, k3⟩ := joinPc_len (cls := cls) (fnd := fnd) p row hl
        have hr' : (joinPc cls fnd m row p).1.head? = some x := by rw [k2, List.head?_append, hr]; rfl
        have hp' : ∀ y ∈ (joinPc cls fnd m row p).2.1, cls y = c := fun y hy => h1 y (by rw [k3]; exact List.mem_append_right _ hy)
        rw [hgo]
        simp only [joinPs]
        generalize joinPc cls fnd m row p = J at k1 hr' hp' ⊢
        obtain ⟨r', p', st⟩ := J
        simp only at k1 hr' hp' ⊢
        cases st with
        | true =>
          simp only [if_true, List.flatten_cons, List.length_cons]
          refine ⟨trivial, ?_, trivial⟩
          by_cases e : p' = []
          · exact .inl ⟨e, h3.mono (by omega)⟩
          · exact .inr ⟨c, e, hp', .inr ht, h3⟩
        | false =>
          simp only [Bool.false_eq_true, if_false, List.flatten_cons, List.length_cons]
          by_cases e : p' = []
          · subst e
            obtain ⟨i1, i2, i3⟩ := ih r' top (h3.mono (by omega)) h0 hr' k1
            simp only [if_true, List.nil_append]
            exact ⟨i1, .inl ⟨rfl, i2⟩, by rw [i3]⟩
          · obtain ⟨i1, i2, i3⟩ := ih r' c h3 (by omega) hr' k1
            simp only [if_neg e]
            rw [i1]
            exact ⟨rfl, .inr ⟨c, e, hp', .inr ht, i2⟩, by rw [i3]⟩
def byC (cls : Int → Int) : Nat → List Int → List (List Int)
  | 0, _ => []
  | _ + 1, [] => []
  | n + 1, x :: xs => (x :: xs.takeWhile (fun y => cls y == cls x)) :: byC cls n (xs.dropWhile (fun y => cls y == cls x))
theorem dropWhile_len {p : Int → Bool} : ∀ l : List Int, (l.dropWhile p).length ≤ l.length := by
  intro l
  induction l with
  | nil => simp
  | cons x t ih =>
    rw [List.dropWhile_cons]
    split
    · simp; omega
    · simp
theorem byC_flat : ∀ (n : Nat) (l : List Int), l.length ≤ n → (byC cls n l).flatten = l := by
  intro n
  induction n with
  | zero => intro l h; obtain rfl : l = [] := List.eq_nil_of_length_eq_zero (by omega); rfl
  | succ n ih =>
    intro l h
    cases l with
    | nil => rfl
    | cons x xs =>
      have h1 := dropWhile_len (p := fun y => cls y == cls x) xs
      simp only [List.length_cons] at h
      rw [byC, List.flatten_cons, ih _ (by omega), List.cons_append, List.takeWhile_append_dropWhile]
theorem CO.dropW {p : Int → Bool} : ∀ {l : List Int}, CO cls l → CO cls (l.dropWhile p) := by
  intro l
  induction l with
  | nil => intro h; exact h
  | cons x t ih =>
    intro h
    rw [List.dropWhile_cons]
    split
    · exact ih h.tail
    · exact h
theorem CO.next : ∀ {xs : List Int} {x : Int}, CO cls (x :: xs) → ∀ y, (xs.dropWhile (fun y => cls y == cls x)).head? = some y → cls y = 0 ∨ cls x < cls y := by
  intro xs
  induction xs with
  | nil => intro x _ y hy; simp at hy
  | cons z t ih =>
    intro x h y hy
    rw [List.dropWhile_cons] at hy
    by_cases e : cls z = cls x
    · rw [if_pos (by simp [e])] at hy
      have h2 := ih h.2 y (by rw [e]; exact hy)
      rw [e] at h2
      exact h2
    · rw [if_neg (by simp [e])] at hy
      obtain rfl : z = y := by simpa using hy
      have := h.1
      by_cases h0 : cls z = 0
      · exact .inl h0
      · have := this h0; omega
theorem byC_rising (_hc0 : ∀ x, 0 ≤ cls x) : ∀ (n : Nat) (l : List Int) (top : Int), CO cls l → (∀ y, l.head? = some y → cls y = 0 ∨ top < cls y) → Rising cls top (byC cls n l) := by
  intro n
  induction n with
  | zero => intro l top _ _; trivial
  | succ n ih =>
    intro l top h ht
    cases l with
    | nil => trivial
    | cons x xs =>
      refine .inr ⟨cls x, by simp, fun y hy => ?_, ht x rfl, ih _ _ h.tail.dropW h.next⟩
      rcases List.mem_cons.1 hy with rfl | hy
      · rfl
      · simpa using List.all_eq_true.1 (List.all_takeWhile (p := fun y => cls y == cls x) (l := xs)) y hy
end
end Go.Vf
