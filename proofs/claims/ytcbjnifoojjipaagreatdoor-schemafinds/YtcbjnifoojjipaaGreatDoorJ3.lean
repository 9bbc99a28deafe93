/- Contracts and lemmas (nothing is claimed here). -/
namespace Go.Vf
def flipL (l : List UInt8) : List UInt8 := l.map (255 - ·)
theorem flipL_length (l : List UInt8) : (flipL l).length = l.length := by simp [flipL]
theorem set_fill {α : Type} (l : List α) (k : Nat) (hk : k < l.length) (z : α) : (l.take k ++ List.replicate (l.length - k) z).set k l[k] = l.take (k + 1) ++ List.replicate (l.length - (k + 1)) z := by
  rw [List.set_append_right k l[k] (by simp; omega)]
  have h1 : l.length - k = (l.length - (k + 1)) + 1 := by omega
  rw [h1, List.replicate_succ]
  simp only [List.length_take, Nat.min_eq_left (Nat.le_of_lt hk), Nat.sub_self, List.set_cons_zero]
  rw [List.take_succ_eq_append_getElem hk, List.append_assoc]
  rfl
def inner : List UInt8 → List UInt8
  | [] => []
  | c :: r => if c = 0 then 0 :: 255 :: inner r else c :: inner r
def esc (l : List UInt8) : List UInt8 := inner l ++ [0, 1]
theorem inner_append (a b : List UInt8) : inner (a ++ b) = inner a ++ inner b := by
  induction a with
  | nil => rfl
  | cons c r ih => simp only [List.cons_append, inner]; split <;> simp [ih]
theorem inner_plain (a : List UInt8) (h : ∀ x ∈ a, x ≠ 0) : inner a = a := by
  induction a with
  | nil => rfl
  | cons c r ih =>
    simp only [inner]
    rw [if_neg (h c (by simp)), ih (fun x hx => h x (by simp [hx]))]
def zerosL (l : List UInt8) : Nat := (l.filter (· == 0)).length
theorem zerosL_le (l : List UInt8) : zerosL l ≤ l.length := List.length_filter_le _ _
theorem inner_length (l : List UInt8) : (inner l).length = l.length + zerosL l := by
  induction l with
  | nil => rfl
  | cons c r ih =>
    simp only [inner, zerosL, List.filter_cons] at *
    by_cases h : c = 0
    · simp [h, ih]; omega
    · simp [h, ih]; omega
theorem zerosL_snoc (l : List UInt8) (c : UInt8) : zerosL (l ++ [c]) = zerosL l + if c = 0 then 1 else 0 := by
  unfold zerosL
  rw [List.filter_append]
  by_cases h : c = 0 <;> simp [h]
def fill (acc : List UInt8) (N : Nat) : List UInt8 := acc ++ List.replicate (N - acc.length) 0
theorem fill_length (acc : List UInt8) (N : Nat) (h : acc.length ≤ N) : (fill acc N).length = N := by simp [fill]; omega
theorem fill_put (acc t : List UInt8) (N : Nat) (h : acc.length + t.length ≤ N) :
    (fill acc N).take acc.length ++ (t.take (N - acc.length) ++ (fill acc N).drop (acc.length + min t.length (N - acc.length))) = fill (acc ++ t) N := by
  have h1 : (fill acc N).take acc.length = acc := by simp [fill]
  have h2 : t.take (N - acc.length) = t := List.take_of_length_le (by omega)
  have h3 : min t.length (N - acc.length) = t.length := Nat.min_eq_left (by omega)
  rw [h1, h2, h3]
  have h4 : (fill acc N).drop (acc.length + t.length) = List.replicate (N - (acc ++ t).length) 0 := by
    rw [fill, List.drop_append, List.drop_eq_nil_of_le (by omega)]
    simp
    omega
  rw [h4, ← List.append_assoc]
  rfl
theorem fill_set (acc : List UInt8) (x : UInt8) (N : Nat) (h : acc.length < N) : (fill acc N).set acc.length x = fill (acc ++ [x]) N := by
  have h1 : N - acc.length = (N - (acc ++ [x]).length) + 1 := by simp; omega
  unfold fill
  rw [h1, List.replicate_succ, List.set_append_right acc.length x (Nat.le_refl _), Nat.sub_self, List.set_cons_zero, List.append_assoc]
  rfl
theorem fill_take (acc : List UInt8) (N : Nat) : (fill acc N).take acc.length = acc := by simp [fill]
theorem fill_nil (N : Nat) : fill [] N = List.replicate N 0 := by simp [fill]
def EscInv (l : List UInt8) (k fr : Nat) (acc : List UInt8) : Prop := fr ≤ k ∧ acc ++ (l.take k).drop fr = inner (l.take k)
theorem EscInv.zero (l : List UInt8) : EscInv l 0 0 [] := by simp [EscInv, inner]
theorem EscInv.other {l : List UInt8} {k fr : Nat} {acc : List UInt8} (h : EscInv l k fr acc) (hk : k < l.length) (hc : l[k] ≠ 0) : EscInv l (k + 1) fr acc := by
  obtain ⟨h1, h2⟩ := h
  refine ⟨by omega, ?_⟩
  rw [List.take_succ_eq_append_getElem hk, inner_append, ← h2, List.drop_append_of_le_length (by simp; omega)]
  simp [inner, hc]
theorem EscInv.null {l : List UInt8} {k fr : Nat} {acc : List UInt8} (h : EscInv l k fr acc) (hk : k < l.length) (hc : l[k] = 0) : EscInv l (k + 1) (k + 1) (acc ++ (l.drop fr).take (k + 1 - fr) ++ [255]) := by
  obtain ⟨h1, h2⟩ := h
  refine ⟨Nat.le_refl _, ?_⟩
  have e : (l.drop fr).take (k + 1 - fr) = (l.take (k + 1)).drop fr := by rw [List.drop_take]
  rw [e, List.take_succ_eq_append_getElem hk, inner_append, ← h2, List.drop_append_of_le_length (by simp; omega)]
  simp [inner, hc]
  omega
theorem EscInv.length {l : List UInt8} {k fr : Nat} {acc : List UInt8} (h : EscInv l k fr acc) (hk : k ≤ l.length) : acc.length + (k - fr) = (inner (l.take k)).length := by
  rw [← h.2]; simp; omega
theorem inner_take_le (l : List UInt8) (k : Nat) : (inner (l.take k)).length ≤ (inner l).length := by
  have h : inner l = inner (l.take k) ++ inner (l.drop k) := by rw [← inner_append, List.take_append_drop]
  rw [h]; simp
theorem EscInv.done {l : List UInt8} {fr : Nat} {acc : List UInt8} (h : EscInv l l.length fr acc) : acc ++ l.drop fr = inner l := by
  have := h.2
  simpa using this
def dec : List UInt8 → Nat × Option (List UInt8)
  | [] => (0, none)
  | [_] => (1, none)
  | c :: d :: r => if c = 0 then (if d = 1 then (2, some []) else if d = 255 then ((dec r).1 + 2, (dec r).2.map (0 :: ·)) else (1, none)) else ((dec (d :: r)).1 + 1, (dec (d :: r)).2.map (c :: ·))
def scan : Bool → List UInt8 → Nat × Bool
  | _, [] => (0, false)
  | op, c :: r => if op = true ∧ c = 1 then (1, true) else if op = true ∧ c ≠ 255 then (0, false) else ((scan (c == 0) r).1 + 1, (scan (c == 0) r).2)
theorem scan_dec (l : List UInt8) : scan false l = ((dec l).1, (dec l).2.isSome) := by
  fun_induction dec l with
  | case1 => rfl
  | case2 c => simp [scan]
  | case3 r => simp [scan]
  | case4 r h ih => simp [scan, ih]
  | case5 d r h1 h2 => simp [scan, h1, h2]
  | case6 c d r h ih =>
    have e : scan false (c :: d :: r) = ((scan false (d :: r)).1 + 1, (scan false (d :: r)).2) := by
      rw [scan]; simp [show (c == 0) = false by simp [h]]
    rw [e, ih]; simp
theorem dec_some {l : List UInt8} : ∀ {n : Nat} {t : List UInt8}, dec l = (n, some t) → ∃ r, l = inner t ++ 0 :: 1 :: r ∧ n = (inner t).length + 2 := by
  fun_induction dec l with
  | case1 => intro n t h; simp at h
  | case2 c => intro n t h; simp at h
  | case3 r =>
    intro n t h
    simp at h
    obtain ⟨rfl, rfl⟩ := h
    exact ⟨r, by simp [inner], by simp [inner]⟩
  | case4 r h ih =>
    intro n t h
    simp only [Prod.mk.injEq, Option.map_eq_some_iff] at h
    obtain ⟨rfl, u, hu, rfl⟩ := h
    obtain ⟨r', e1, e2⟩ := ih (n := (dec r).1) (t := u) (by rw [← hu])
    exact ⟨r', by simp [inner, ← e1], by simp [inner, e2]⟩
  | case5 d r h1 h2 => intro n t h; simp at h
  | case6 c d r h ih =>
    intro n t h'
    simp only [Prod.mk.injEq, Option.map_eq_some_iff] at h'
    obtain ⟨rfl, u, hu, rfl⟩ := h'
    obtain ⟨r', e1, e2⟩ := ih (n := (dec (d :: r)).1) (t := u) (by rw [← hu])
    exact ⟨r', by simp [inner, h, ← e1], by simp [inner, h, e2]⟩
theorem dec_esc (t r : List UInt8) : dec (inner t ++ 0 :: 1 :: r) = ((inner t).length + 2, some t) := by
  induction t with
  | nil => simp [inner, dec]
  | cons c t ih =>
    by_cases h : c = 0
    · simp [inner, h, dec, ih]
    · have e : inner (c :: t) ++ 0 :: 1 :: r = c :: (inner t ++ 0 :: 1 :: r) := by simp [inner, h]
      have hl : (inner (c :: t)).length = (inner t).length + 1 := by simp [inner, h]
      rw [e, hl]
      obtain ⟨d, q, hq⟩ : ∃ d q, inner t ++ 0 :: 1 :: r = d :: q := by
        cases inner t with
        | nil => exact ⟨_, _, rfl⟩
        | cons a b => exact ⟨_, _, rfl⟩
      rw [hq] at ih ⊢
      rw [dec, if_neg h, ih]
      simp
theorem dec_le (l : List UInt8) : (dec l).1 ≤ l.length := by
  fun_induction dec l <;> simp_all <;> omega
def PlInv (t : List UInt8) (k fr : Nat) (acc : List UInt8) : Prop :=
  (∃ t1 t2, t = t1 ++ t2 ∧ k = (inner t1).length ∧ fr ≤ k ∧ acc ++ ((inner t).take k).drop fr = t1) ∨
  (∃ t1 t2, t = t1 ++ 0 :: t2 ∧ k = (inner t1).length + 1 ∧ fr = k + 1 ∧ acc = t1 ++ [0])
theorem length_inner_ge (t : List UInt8) : t.length ≤ (inner t).length := by rw [inner_length]; omega
theorem PlInv.zero (t : List UInt8) : PlInv t 0 0 [] := .inl ⟨[], t, rfl, rfl, Nat.le_refl _, rfl⟩
theorem PlInv.other {t : List UInt8} {k fr : Nat} {acc : List UInt8} (h : PlInv t k fr acc) (hk : k < (inner t).length) (hc : (inner t)[k] ≠ 0) : PlInv t (k + 1) fr acc := by
  rcases h with ⟨t1, t2, rfl, rfl, h3, h4⟩ | ⟨t1, t2, rfl, rfl, rfl, rfl⟩
  · cases t2 with
    | nil => simp at hk
    | cons c t2 =>
      by_cases h0 : c = 0
      · exact absurd (by simp [inner_append, inner, h0]) hc
      · refine .inl ⟨t1 ++ [c], t2, by simp, by simp [inner_append, inner, h0], by omega, ?_⟩
        rw [List.take_succ_eq_append_getElem hk, List.drop_append_of_le_length (by simp; omega), ← List.append_assoc, h4]
        simp [inner_append, inner, h0]
  · refine .inl ⟨t1 ++ [0], t2, by simp, by simp [inner_append, inner], by omega, ?_⟩
    simp
theorem PlInv.null {t : List UInt8} {k fr : Nat} {acc : List UInt8} (h : PlInv t k fr acc) (hk : k < (inner t).length) (hc : (inner t)[k] = 0) :
    PlInv t (k + 1) (k + 2) (acc ++ ((inner t).drop fr).take (k + 1 - fr)) ∧ fr ≤ k ∧ k + 2 ≤ (inner t).length := by
  rcases h with ⟨t1, t2, rfl, rfl, h3, h4⟩ | ⟨t1, t2, rfl, rfl, rfl, rfl⟩
  · cases t2 with
    | nil => simp at hk
    | cons c t2 =>
      by_cases h0 : c = 0
      · subst h0
        refine ⟨.inr ⟨t1, t2, rfl, rfl, rfl, ?_⟩, h3, by simp [inner_append, inner]⟩
        rw [← List.drop_take, List.take_succ_eq_append_getElem hk, List.drop_append_of_le_length (by simp; omega), ← List.append_assoc, h4]
        simp [inner_append, inner]
      · exact absurd hc (by simp [inner_append, inner, h0])
  · exact absurd hc (by simp [inner_append, inner])
theorem PlInv.done {t : List UInt8} {fr : Nat} {acc : List UInt8} (h : PlInv t (inner t).length fr acc) : acc ++ (inner t).drop fr = t ∧ fr ≤ (inner t).length := by
  rcases h with ⟨t1, t2, rfl, h2, h3, h4⟩ | ⟨t1, t2, rfl, h2, h3, h4⟩
  · have : t2 = [] := by
      have h5 := length_inner_ge t2
      have h6 : (inner t2).length = 0 := by rw [inner_append, List.length_append] at h2; omega
      exact List.eq_nil_of_length_eq_zero (by omega)
    subst this
    simp at h3 h4 ⊢
    exact ⟨h4, h3⟩
  · exfalso
    simp [inner_append, inner] at h2
theorem PlInv.le {t : List UInt8} {k fr : Nat} {acc : List UInt8} (h : PlInv t k fr acc) (hk : k ≤ (inner t).length) : acc.length ≤ k ∧ (fr ≤ k → acc.length + (k - fr) ≤ k) := by
  rcases h with ⟨t1, t2, rfl, h2, h3, h4⟩ | ⟨t1, t2, rfl, h2, h3, h4⟩
  · have h5 := congrArg List.length h4
    have := length_inner_ge t1
    simp at h5
    omega
  · have := length_inner_ge t1
    subst h4
    simp
    omega
def nextL : List UInt8 → Option (List UInt8)
  | [] => none
  | c :: r => match nextL r with
    | some x => some (c :: x)
    | none => if c = 255 then none else some [c + 1]
theorem nextL_append_none (a b : List UInt8) (h : nextL b = none) : nextL (a ++ b) = nextL a := by
  induction a with
  | nil => simpa [nextL] using h
  | cons c r ih => simp only [List.cons_append, nextL]; rw [ih]
theorem nextL_append_some (a b x : List UInt8) (h : nextL b = some x) : nextL (a ++ b) = some (a ++ x) := by
  induction a with
  | nil => simpa using h
  | cons c r ih => simp only [List.cons_append, nextL]; rw [ih]
theorem nextL_last (l : List UInt8) (n : Nat) (hn : n < l.length) (h : nextL (l.drop (n + 1)) = none) (hc : l[n] ≠ 255) : nextL l = some (l.take n ++ [l[n] + 1]) := by
  have e : l = l.take n ++ l[n] :: l.drop (n + 1) := by simp
  have h2 : nextL (l[n] :: l.drop (n + 1)) = some [l[n] + 1] := by simp [nextL, h, hc]
  conv => lhs; rw [e]
  exact nextL_append_some _ _ _ h2
theorem nextL_high (l : List UInt8) (n : Nat) (hn : n < l.length) (h : nextL (l.drop (n + 1)) = none) (hc : l[n] = 255) : nextL (l.drop n) = none := by
  rw [List.drop_eq_getElem_cons hn]
  simp [nextL, h, hc]
def cmpL : List UInt8 → List UInt8 → Int
  | [], [] => 0
  | [], _ :: _ => -1
  | _ :: _, [] => 1
  | a :: x, b :: y => if a < b then -1 else if b < a then 1 else cmpL x y
theorem cmpL_same (a : List UInt8) : cmpL a a = 0 := by
  induction a with
  | nil => rfl
  | cons c r ih => simp [cmpL, ih]
theorem cmpL_eq {a b : List UInt8} : cmpL a b = 0 ↔ a = b := by
  fun_induction cmpL a b <;> simp_all
  · rename_i h; intro e; subst e; simp at h
  · rename_i h; intro e; subst e; simp at h
  · rename_i h1 h2 _
    intro _
    exact UInt8.le_antisymm h2 h1
theorem cmpL_three (a b : List UInt8) : cmpL a b = -1 ∨ cmpL a b = 0 ∨ cmpL a b = 1 := by
  fun_induction cmpL a b <;> simp_all
theorem cmpL_neg (a b : List UInt8) : cmpL b a = - cmpL a b := by
  fun_induction cmpL a b <;> simp_all [cmpL]
  · rename_i h; exact UInt8.le_of_lt h
  · rename_i h1 h2 ih
    rw [if_neg (by simpa using h2), if_neg (by simpa using h1)]
theorem cmpL_append (p a b : List UInt8) : cmpL (p ++ a) (p ++ b) = cmpL a b := by
  induction p with
  | nil => rfl
  | cons c r ih => simp [cmpL, ih]
theorem cmpL_cons_ne (a b : UInt8) (x y : List UInt8) (h : a ≠ b) : cmpL (a :: x) (b :: y) = if (a.toNat : Int) < (b.toNat : Int) then -1 else if (b.toNat : Int) < (a.toNat : Int) then 1 else 0 := by
  have h' : a.toNat ≠ b.toNat := fun e => h (UInt8.toNat_inj.1 e)
  simp only [cmpL, UInt8.lt_iff_toNat_lt]
  by_cases h1 : a.toNat < b.toNat
  · rw [if_pos h1, if_pos (by omega)]
  · rw [if_neg h1, if_pos (by omega), if_neg (by omega), if_pos (by omega)]
theorem cmpL_ends (a b : List UInt8) (h : a = [] ∨ b = []) : cmpL a b = if (a.length : Int) < (b.length : Int) then -1 else if (b.length : Int) < (a.length : Int) then 1 else 0 := by
  cases a <;> cases b <;> simp_all [cmpL] <;> omega
def beginsL (a b : List UInt8) : Bool := b.isPrefixOf a
theorem beginsL_take (a b : List UInt8) (_h : b.length ≤ a.length) : (a.take b.length == b) = beginsL a b := by
  rw [Bool.eq_iff_iff, beq_iff_eq, beginsL, List.isPrefixOf_iff_prefix, List.prefix_iff_eq_take]
  exact ⟨fun h => h.symm, fun h => h.symm⟩
theorem beginsL_short (a b : List UInt8) (h : ¬ b.length ≤ a.length) : beginsL a b = false := by
  rw [beginsL, Bool.eq_false_iff]
  intro hp
  rw [List.isPrefixOf_iff_prefix] at hp
  exact h hp.length_le
end Go.Vf
namespace Go.Vf
theorem flip_flip (x : UInt8) : 255 - (255 - x) = x := by
  rw [← UInt8.toNat_inj]
  have h := x.toNat_lt
  have h255 : (255 : UInt8).toNat = 255 := rfl
  have h1 : (255 - x).toNat = 255 - x.toNat := by
    rw [UInt8.toNat_sub_of_le _ _ (by rw [UInt8.le_iff_toNat_le]; omega), h255]
  rw [UInt8.toNat_sub_of_le _ _ (by rw [UInt8.le_iff_toNat_le]; omega), h1]
  omega
theorem flipL_flipL (l : List UInt8) : flipL (flipL l) = l := by
  simp only [flipL, List.map_map]
  exact (List.map_congr_left fun x _ => flip_flip x).trans (List.map_id l)
theorem nextL_above (s n : List UInt8) (h : nextL s = some n) : cmpL s n = -1 := by
  induction s generalizing n with
  | nil => simp [nextL] at h
  | cons c r ih =>
    simp only [nextL] at h
    cases hr : nextL r with
    | some x =>
      rw [hr] at h
      simp only [Option.some.injEq] at h
      subst h
      simp [cmpL, ih x hr]
    | none =>
      rw [hr] at h
      by_cases hc : c = 255
      · simp [hc] at h
      · simp only [hc, if_false, Option.some.injEq] at h
        subst h
        have : c < c + 1 := by
          have h1 := c.toNat_lt
          have h2 : c.toNat ≠ 255 := fun e => hc (UInt8.toNat_inj.1 e)
          rw [UInt8.lt_iff_toNat_lt, UInt8.toNat_add]
          have : (1 : UInt8).toNat = 1 := rfl
          omega
        simp [cmpL, this]
theorem begins_ne (c d : UInt8) (r u : List UInt8) (h : ¬ d = c) : beginsL (d :: u) (c :: r) = false := by
  simp [beginsL, List.isPrefixOf, Ne.symm h]
theorem begins_none (s : List UInt8) : ∀ t, nextL s = none → decide (0 ≤ cmpL t s) = beginsL t s := by
  induction s with
  | nil =>
    intro t _
    cases t <;> simp [cmpL, beginsL]
  | cons c r ih =>
    intro t h
    simp only [nextL] at h
    cases hr : nextL r with
    | some x => rw [hr] at h; simp at h
    | none =>
      rw [hr] at h
      by_cases hc : c = 255
      · subst hc
        cases t with
        | nil => simp [cmpL, beginsL]
        | cons d u =>
          have hi := ih u hr
          have hd := d.toNat_lt
          by_cases e : d = 255
          · subst e
            simp only [cmpL, beginsL, List.isPrefixOf] at hi ⊢
            simpa using hi
          · have h1 : d < 255 := by
              rw [UInt8.lt_iff_toNat_lt]
              have : (255 : UInt8).toNat = 255 := rfl
              have h2 : d.toNat ≠ 255 := fun q => e (UInt8.toNat_inj.1 q)
              omega
            simp [cmpL, begins_ne _ _ _ _ e, h1]
      · simp [hc] at h
theorem begins_some (s : List UInt8) : ∀ t n, nextL s = some n → (decide (0 ≤ cmpL t s) && decide (cmpL t n < 0)) = beginsL t s := by
  induction s with
  | nil => intro t n h; simp [nextL] at h
  | cons c r ih =>
    intro t n h
    simp only [nextL] at h
    cases hr : nextL r with
    | some x =>
      rw [hr] at h
      simp only [Option.some.injEq] at h
      subst h
      cases t with
      | nil => simp [cmpL, beginsL]
      | cons d u =>
        have hi := ih u x hr
        by_cases e : d = c
        · subst e
          simp only [cmpL, beginsL, List.isPrefixOf] at hi ⊢
          simpa using hi
        · by_cases h1 : d < c
          · simp [cmpL, begins_ne _ _ _ _ e, h1]
          · have h2 : c < d := UInt8.lt_of_le_of_ne (UInt8.not_lt.1 h1) (Ne.symm e)
            simp [cmpL, begins_ne _ _ _ _ e, h1, h2]
    | none =>
      rw [hr] at h
      by_cases hc : c = 255
      · simp [hc] at h
      · simp only [hc, if_false, Option.some.injEq] at h
        subst h
        cases t with
        | nil => simp [cmpL, beginsL]
        | cons d u =>
          have hi := begins_none r u hr
          have h0 := c.toNat_lt
          have hc2 : c.toNat ≠ 255 := fun q => hc (UInt8.toNat_inj.1 q)
          have h1n : (c + 1).toNat = c.toNat + 1 := by
            rw [UInt8.toNat_add]
            have : (1 : UInt8).toNat = 1 := rfl
            omega
          by_cases e : d = c
          · subst e
            have h3 : d < d + 1 := by rw [UInt8.lt_iff_toNat_lt]; omega
            simp only [cmpL, beginsL, List.isPrefixOf] at hi ⊢
            simpa [h3] using hi
          · by_cases h1 : d < c
            · simp [cmpL, begins_ne _ _ _ _ e, h1]
            · have h2 : c < d := UInt8.lt_of_le_of_ne (UInt8.not_lt.1 h1) (Ne.symm e)
              have h4 : ¬ d < c + 1 := by
                rw [UInt8.lt_iff_toNat_lt, h1n]
                rw [UInt8.lt_iff_toNat_lt] at h2
                omega
              have h5 : ¬ (if c + 1 < d then (1 : Int) else cmpL u []) < 0 := by
                split
                · omega
                · cases u <;> simp [cmpL]
              simp only [cmpL, h1, h2, h4, if_true, if_false, beginsL, List.isPrefixOf, decide_eq_false h5]
              simp [Ne.symm e]
def Parts (A B : List UInt8) (c : Int) : Prop := ∃ pre u v ra rb, A = pre ++ u :: ra ∧ B = pre ++ v :: rb ∧ u ≠ v ∧ c = (if u < v then -1 else 1)
theorem Parts.add {A B : List UInt8} {c : Int} (h : Parts A B c) (p : List UInt8) : Parts (p ++ A) (p ++ B) c := by
  obtain ⟨pre, u, v, ra, rb, rfl, rfl, h1, h2⟩ := h
  exact ⟨p ++ pre, u, v, ra, rb, by simp, by simp, h1, h2⟩
theorem Parts.behind {A B : List UInt8} {c : Int} (h : Parts A B c) (x y : List UInt8) : Parts (A ++ x) (B ++ y) c := by
  obtain ⟨pre, u, v, ra, rb, rfl, rfl, h1, h2⟩ := h
  exact ⟨pre, u, v, ra ++ x, rb ++ y, by simp, by simp, h1, h2⟩
theorem Parts.cmp {A B : List UInt8} {c : Int} (h : Parts A B c) : cmpL A B = c := by
  obtain ⟨pre, u, v, ra, rb, rfl, rfl, h1, h2⟩ := h
  rw [cmpL_append, h2]
  simp only [cmpL]
  by_cases h3 : u < v
  · simp [h3]
  · have h4 : v < u := UInt8.lt_of_le_of_ne (UInt8.not_lt.1 h3) (Ne.symm h1)
    simp [h3, h4]
theorem Parts.not_begins {A B : List UInt8} {c : Int} (h : Parts A B c) : beginsL A B = false ∧ beginsL B A = false := by
  obtain ⟨pre, u, v, ra, rb, rfl, rfl, h1, h2⟩ := h
  constructor
  · rw [beginsL, Bool.eq_false_iff]
    intro hp
    rw [List.isPrefixOf_iff_prefix, List.prefix_append_right_inj] at hp
    obtain ⟨z, hz⟩ := hp
    simp at hz
    exact h1 hz.1.symm
  · rw [beginsL, Bool.eq_false_iff]
    intro hp
    rw [List.isPrefixOf_iff_prefix, List.prefix_append_right_inj] at hp
    obtain ⟨z, hz⟩ := hp
    simp at hz
    exact h1 hz.1
theorem flip_lt (u v : UInt8) : (255 - u < 255 - v) ↔ v < u := by
  have h1 := u.toNat_lt
  have h2 := v.toNat_lt
  have h255 : (255 : UInt8).toNat = 255 := rfl
  rw [UInt8.lt_iff_toNat_lt, UInt8.lt_iff_toNat_lt, UInt8.toNat_sub_of_le _ _ (by rw [UInt8.le_iff_toNat_le]; omega), UInt8.toNat_sub_of_le _ _ (by rw [UInt8.le_iff_toNat_le]; omega), h255]
  omega
theorem Parts.flip {A B : List UInt8} {c : Int} (h : Parts A B c) : Parts (flipL A) (flipL B) (-c) := by
  obtain ⟨pre, u, v, ra, rb, rfl, rfl, h1, h2⟩ := h
  refine ⟨flipL pre, 255 - u, 255 - v, flipL ra, flipL rb, by simp [flipL], by simp [flipL], fun e => h1 (by rw [← flip_flip u, e, flip_flip]), ?_⟩
  rw [h2]
  by_cases h3 : u < v
  · have h4 : ¬ v < u := fun h => absurd (UInt8.lt_trans h3 h) (UInt8.lt_irrefl _)
    simp [flip_lt, h3, h4]
  · have h4 : v < u := UInt8.lt_of_le_of_ne (UInt8.not_lt.1 h3) (Ne.symm h1)
    simp [flip_lt, h3, h4]
theorem pos_of_ne (d : UInt8) (h : d ≠ 0) : 0 < d := by
  rw [UInt8.lt_iff_toNat_lt]
  have h2 : d.toNat ≠ 0 := fun q => h (UInt8.toNat_inj.1 q)
  have : (0 : UInt8).toNat = 0 := rfl
  omega
theorem esc_parts (a : List UInt8) : ∀ b, a ≠ b → Parts (esc a) (esc b) (cmpL a b) := by
  induction a with
  | nil =>
    intro b h
    cases b with
    | nil => exact absurd rfl h
    | cons d b =>
      by_cases e : d = 0
      · subst e
        exact ⟨[0], 1, 255, [], inner b ++ [0, 1], by simp [esc, inner], by simp [esc, inner], by decide, by simp [cmpL]⟩
      · exact ⟨[], 0, d, [1], inner b ++ [0, 1], by simp [esc, inner], by simp [esc, inner, e], Ne.symm e, by simp [cmpL, pos_of_ne d e]⟩
  | cons c a ih =>
    intro b h
    cases b with
    | nil =>
      by_cases e : c = 0
      · subst e
        exact ⟨[0], 255, 1, inner a ++ [0, 1], [], by simp [esc, inner], by simp [esc, inner], by decide, by simp [cmpL]⟩
      · exact ⟨[], c, 0, inner a ++ [0, 1], [1], by simp [esc, inner, e], by simp [esc, inner], e, by simp [cmpL]⟩
    | cons d b =>
      by_cases e : c = d
      · subst e
        have hab : a ≠ b := fun q => h (by rw [q])
        have hi := ih b hab
        have hc : cmpL (c :: a) (c :: b) = cmpL a b := by simp [cmpL]
        rw [hc]
        by_cases h0 : c = 0
        · have e1 : esc (c :: a) = [0, 255] ++ esc a := by simp [esc, inner, h0]
          have e2 : esc (c :: b) = [0, 255] ++ esc b := by simp [esc, inner, h0]
          rw [e1, e2]; exact hi.add _
        · have e1 : esc (c :: a) = [c] ++ esc a := by simp [esc, inner, h0]
          have e2 : esc (c :: b) = [c] ++ esc b := by simp [esc, inner, h0]
          rw [e1, e2]; exact hi.add _
      · have hp : ∀ x : UInt8, ∀ y, ∃ r, esc (x :: y) = x :: r := by
          intro x y
          by_cases h0 : x = 0
          · exact ⟨_, by simp [esc, inner, h0]; rfl⟩
          · exact ⟨_, by simp [esc, inner, h0]; rfl⟩
        obtain ⟨r1, e1⟩ := hp c a
        obtain ⟨r2, e2⟩ := hp d b
        refine ⟨[], c, d, r1, r2, e1, e2, e, ?_⟩
        by_cases h3 : c < d
        · simp [cmpL, h3]
        · have h4 : d < c := UInt8.lt_of_le_of_ne (UInt8.not_lt.1 h3) (Ne.symm e)
          simp [cmpL, h3, h4]
end Go.Vf
