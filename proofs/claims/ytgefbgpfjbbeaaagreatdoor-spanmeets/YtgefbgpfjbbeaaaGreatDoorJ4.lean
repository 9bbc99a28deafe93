/- Contracts and lemmas (nothing is claimed here). -/
import Derived.WalkKit
import Derived.WalkSpells
import Derived.WalkLawsBesides
import Derived.Laws.IdiomCopy
import Derived.Laws.BytesArg
import Derived.Lib.Strings
import Derived.Deep.OwnRows
import Derived.Test.YtgefbgpfjbbeaaaGreatDoorProg
import Derived.Defers
import Derived.Recover
import Derived.Laws.IdiomStrings
import Derived.Lib.UnsafeStr
namespace Go.Vf

/-- Each byte turned. -/
def flipL (l : List UInt8) : List UInt8 := l.map (255 - ·)
theorem flipL_length (l : List UInt8) : (flipL l).length = l.length := by simp [flipL]

theorem set_fill {α : Type} (l : List α) (k : Nat) (hk : k < l.length) (z : α) : (l.take k ++ List.replicate (l.length - k) z).set k l[k] = l.take (k + 1) ++ List.replicate (l.length - (k + 1)) z := by
  rw [List.set_append_right k l[k] (by simp; omega)]
  have h1 : l.length - k = (l.length - (k + 1)) + 1 := by omega
  rw [h1, List.replicate_succ]
  simp only [List.length_take, Nat.min_eq_left (Nat.le_of_lt hk), Nat.sub_self, List.set_cons_zero]
  rw [List.take_succ_eq_append_getElem hk, List.append_assoc]
  rfl

/-- A text escaped, without its end. -/
def inner : List UInt8 → List UInt8
  | [] => []
  | c :: r => if c = 0 then 0 :: 255 :: inner r else c :: inner r
def esc (l : List UInt8) : List UInt8 := inner l ++ [0, 1]

theorem inner_append (a b : List UInt8) : inner (a ++ b) = inner a ++ inner b := by
  induction a with
  | nil => rfl
  | cons c r ih => simp only [List.cons_append, inner]; split <;> simp [ih]

theorem inner_plain (a : List UInt8) (h : ∀ x ∈ a, x ≠ 0) : inner a = a := by
  induction a with
  | nil => rfl
  | cons c r ih =>
    simp only [inner]
    rw [if_neg (h c (by simp)), ih (fun x hx => h x (by simp [hx]))]

/-- How many bytes need another one behind them. -/
def zerosL (l : List UInt8) : Nat := (l.filter (· == 0)).length
theorem zerosL_le (l : List UInt8) : zerosL l ≤ l.length := List.length_filter_le _ _
theorem inner_length (l : List UInt8) : (inner l).length = l.length + zerosL l := by
  induction l with
  | nil => rfl
  | cons c r ih =>
    simp only [inner, zerosL, List.filter_cons] at *
    by_cases h : c = 0
    · simp [h, ih]; omega
    · simp [h, ih]; omega
theorem zerosL_snoc (l : List UInt8) (c : UInt8) : zerosL (l ++ [c]) = zerosL l + if c = 0 then 1 else 0 := by
  unfold zerosL
  rw [List.filter_append]
  by_cases h : c = 0 <;> simp [h]

/-- A row of N bytes that is filled from the front, 0 behind. -/
def fill (acc : List UInt8) (N : Nat) : List UInt8 := acc ++ List.replicate (N - acc.length) 0
theorem fill_length (acc : List UInt8) (N : Nat) (h : acc.length ≤ N) : (fill acc N).length = N := by simp [fill]; omega
theorem fill_put (acc t : List UInt8) (N : Nat) (h : acc.length + t.length ≤ N) :
    (fill acc N).take acc.length ++ (t.take (N - acc.length) ++ (fill acc N).drop (acc.length + min t.length (N - acc.length))) = fill (acc ++ t) N := by
  have h1 : (fill acc N).take acc.length = acc := by simp [fill]
  have h2 : t.take (N - acc.length) = t := List.take_of_length_le (by omega)
  have h3 : min t.length (N - acc.length) = t.length := Nat.min_eq_left (by omega)
  rw [h1, h2, h3]
  have h4 : (fill acc N).drop (acc.length + t.length) = List.replicate (N - (acc ++ t).length) 0 := by
    rw [fill, List.drop_append, List.drop_eq_nil_of_le (by omega)]
    simp
    omega
  rw [h4, ← List.append_assoc]
  rfl
theorem fill_set (acc : List UInt8) (x : UInt8) (N : Nat) (h : acc.length < N) : (fill acc N).set acc.length x = fill (acc ++ [x]) N := by
  have h1 : N - acc.length = (N - (acc ++ [x]).length) + 1 := by simp; omega
  unfold fill
  rw [h1, List.replicate_succ, List.set_append_right acc.length x (Nat.le_refl _), Nat.sub_self, List.set_cons_zero, List.append_assoc]
  rfl
theorem fill_take (acc : List UInt8) (N : Nat) : (fill acc N).take acc.length = acc := by simp [fill]
theorem fill_nil (N : Nat) : fill [] N = List.replicate N 0 := by simp [fill]

/-- What Escape knows behind k rounds: acc lies there, from 'fr' on nothing has been copied. -/
def EscInv (l : List UInt8) (k fr : Nat) (acc : List UInt8) : Prop := fr ≤ k ∧ acc ++ (l.take k).drop fr = inner (l.take k)

theorem EscInv.zero (l : List UInt8) : EscInv l 0 0 [] := by simp [EscInv, inner]
theorem EscInv.other {l : List UInt8} {k fr : Nat} {acc : List UInt8} (h : EscInv l k fr acc) (hk : k < l.length) (hc : l[k] ≠ 0) : EscInv l (k + 1) fr acc := by
  obtain ⟨h1, h2⟩ := h
  refine ⟨by omega, ?_⟩
  rw [List.take_succ_eq_append_getElem hk, inner_append, ← h2, List.drop_append_of_le_length (by simp; omega)]
  simp [inner, hc]
theorem EscInv.null {l : List UInt8} {k fr : Nat} {acc : List UInt8} (h : EscInv l k fr acc) (hk : k < l.length) (hc : l[k] = 0) : EscInv l (k + 1) (k + 1) (acc ++ (l.drop fr).take (k + 1 - fr) ++ [255]) := by
  obtain ⟨h1, h2⟩ := h
  refine ⟨Nat.le_refl _, ?_⟩
  have e : (l.drop fr).take (k + 1 - fr) = (l.take (k + 1)).drop fr := by rw [List.drop_take]
  rw [e, List.take_succ_eq_append_getElem hk, inner_append, ← h2, List.drop_append_of_le_length (by simp; omega)]
  simp [inner, hc]
  omega
theorem EscInv.length {l : List UInt8} {k fr : Nat} {acc : List UInt8} (h : EscInv l k fr acc) (hk : k ≤ l.length) : acc.length + (k - fr) = (inner (l.take k)).length := by
  rw [← h.2]; simp; omega
theorem inner_take_le (l : List UInt8) (k : Nat) : (inner (l.take k)).length ≤ (inner l).length := by
  have h : inner l = inner (l.take k) ++ inner (l.drop k) := by rw [← inner_append, List.take_append_drop]
  rw [h]; simp
theorem EscInv.done {l : List UInt8} {fr : Nat} {acc : List UInt8} (h : EscInv l l.length fr acc) : acc ++ l.drop fr = inner l := by
  have := h.2
  simpa using this

/-- Reading an escaped text: the place where that ends, or breaks off; the text, if there is one. -/
def dec : List UInt8 → Nat × Option (List UInt8)
  | [] => (0, none)
  | [_] => (1, none)
  | c :: d :: r => if c = 0 then (if d = 1 then (2, some []) else if d = 255 then ((dec r).1 + 2, (dec r).2.map (0 :: ·)) else (1, none)) else ((dec (d :: r)).1 + 1, (dec (d :: r)).2.map (c :: ·))

/-- The same, a byte at a time: 'op': a 00 stands right ahead. -/
def scan : Bool → List UInt8 → Nat × Bool
  | _, [] => (0, false)
  | op, c :: r => if op = true ∧ c = 1 then (1, true) else if op = true ∧ c ≠ 255 then (0, false) else ((scan (c == 0) r).1 + 1, (scan (c == 0) r).2)

theorem scan_dec (l : List UInt8) : scan false l = ((dec l).1, (dec l).2.isSome) := by
  fun_induction dec l with
  | case1 => rfl
  | case2 c => simp [scan]
  | case3 r => simp [scan]
  | case4 r h ih => simp [scan, ih]
  | case5 d r h1 h2 => simp [scan, h1, h2]
  | case6 c d r h ih =>
    have e : scan false (c :: d :: r) = ((scan false (d :: r)).1 + 1, (scan false (d :: r)).2) := by
      rw [scan]; simp [show (c == 0) = false by simp [h]]
    rw [e, ih]; simp

theorem dec_some {l : List UInt8} : ∀ {n : Nat} {t : List UInt8}, dec l = (n, some t) → ∃ r, l = inner t ++ 0 :: 1 :: r ∧ n = (inner t).length + 2 := by
  fun_induction dec l with
  | case1 => intro n t h; simp at h
  | case2 c => intro n t h; simp at h
  | case3 r =>
    intro n t h
    simp at h
    obtain ⟨rfl, rfl⟩ := h
    exact ⟨r, by simp [inner], by simp [inner]⟩
  | case4 r h ih =>
    intro n t h
    simp only [Prod.mk.injEq, Option.map_eq_some_iff] at h
    obtain ⟨rfl, u, hu, rfl⟩ := h
    obtain ⟨r', e1, e2⟩ := ih (n := (dec r).1) (t := u) (by rw [← hu])
    exact ⟨r', by simp [inner, ← e1], by simp [inner, e2]⟩
  | case5 d r h1 h2 => intro n t h; simp at h
  | case6 c d r h ih =>
    intro n t h'
    simp only [Prod.mk.injEq, Option.map_eq_some_iff] at h'
    obtain ⟨rfl, u, hu, rfl⟩ := h'
    obtain ⟨r', e1, e2⟩ := ih (n := (dec (d :: r)).1) (t := u) (by rw [← hu])
    exact ⟨r', by simp [inner, h, ← e1], by simp [inner, h, e2]⟩

theorem dec_esc (t r : List UInt8) : dec (inner t ++ 0 :: 1 :: r) = ((inner t).length + 2, some t) := by
  induction t with
  | nil => simp [inner, dec]
  | cons c t ih =>
    by_cases h : c = 0
    · simp [inner, h, dec, ih]
    · have e : inner (c :: t) ++ 0 :: 1 :: r = c :: (inner t ++ 0 :: 1 :: r) := by simp [inner, h]
      have hl : (inner (c :: t)).length = (inner t).length + 1 := by simp [inner, h]
      rw [e, hl]
      obtain ⟨d, q, hq⟩ : ∃ d q, inner t ++ 0 :: 1 :: r = d :: q := by
        cases inner t with
        | nil => exact ⟨_, _, rfl⟩
        | cons a b => exact ⟨_, _, rfl⟩
      rw [hq] at ih ⊢
      rw [dec, if_neg h, ih]
      simp

theorem dec_le (l : List UInt8) : (dec l).1 ≤ l.length := by
  fun_induction dec l <;> simp_all <;> omega

/-- What 'plain' knows behind k rounds. -/
def PlInv (t : List UInt8) (k fr : Nat) (acc : List UInt8) : Prop :=
  (∃ t1 t2, t = t1 ++ t2 ∧ k = (inner t1).length ∧ fr ≤ k ∧ acc ++ ((inner t).take k).drop fr = t1) ∨
  (∃ t1 t2, t = t1 ++ 0 :: t2 ∧ k = (inner t1).length + 1 ∧ fr = k + 1 ∧ acc = t1 ++ [0])

theorem length_inner_ge (t : List UInt8) : t.length ≤ (inner t).length := by rw [inner_length]; omega

theorem PlInv.zero (t : List UInt8) : PlInv t 0 0 [] := .inl ⟨[], t, rfl, rfl, Nat.le_refl _, rfl⟩

theorem PlInv.other {t : List UInt8} {k fr : Nat} {acc : List UInt8} (h : PlInv t k fr acc) (hk : k < (inner t).length) (hc : (inner t)[k] ≠ 0) : PlInv t (k + 1) fr acc := by
  rcases h with ⟨t1, t2, rfl, rfl, h3, h4⟩ | ⟨t1, t2, rfl, rfl, rfl, rfl⟩
  · cases t2 with
    | nil => simp at hk
    | cons c t2 =>
      by_cases h0 : c = 0
      · exact absurd (by simp [inner_append, inner, h0]) hc
      · refine .inl ⟨t1 ++ [c], t2, by simp, by simp [inner_append, inner, h0], by omega, ?_⟩
        rw [List.take_succ_eq_append_getElem hk, List.drop_append_of_le_length (by simp; omega), ← List.append_assoc, h4]
        simp [inner_append, inner, h0]
  · refine .inl ⟨t1 ++ [0], t2, by simp, by simp [inner_append, inner], by omega, ?_⟩
    simp

theorem PlInv.null {t : List UInt8} {k fr : Nat} {acc : List UInt8} (h : PlInv t k fr acc) (hk : k < (inner t).length) (hc : (inner t)[k] = 0) :
    PlInv t (k + 1) (k + 2) (acc ++ ((inner t).drop fr).take (k + 1 - fr)) ∧ fr ≤ k ∧ k + 2 ≤ (inner t).length := by
  rcases h with ⟨t1, t2, rfl, rfl, h3, h4⟩ | ⟨t1, t2, rfl, rfl, rfl, rfl⟩
  · cases t2 with
    | nil => simp at hk
    | cons c t2 =>
      by_cases h0 : c = 0
      · subst h0
        refine ⟨.inr ⟨t1, t2, rfl, rfl, rfl, ?_⟩, h3, by simp [inner_append, inner]⟩
        rw [← List.drop_take, List.take_succ_eq_append_getElem hk, List.drop_append_of_le_length (by simp; omega), ← List.append_assoc, h4]
        simp [inner_append, inner]
      · exact absurd hc (by simp [inner_append, inner, h0])
  · exact absurd hc (by simp [inner_append, inner])

theorem PlInv.done {t : List UInt8} {fr : Nat} {acc : List UInt8} (h : PlInv t (inner t).length fr acc) : acc ++ (inner t).drop fr = t ∧ fr ≤ (inner t).length := by
  rcases h with ⟨t1, t2, rfl, h2, h3, h4⟩ | ⟨t1, t2, rfl, h2, h3, h4⟩
  · have : t2 = [] := by
      have h5 := length_inner_ge t2
      have h6 : (inner t2).length = 0 := by rw [inner_append, List.length_append] at h2; omega
      exact List.eq_nil_of_length_eq_zero (by omega)
    subst this
    simp at h3 h4 ⊢
    exact ⟨h4, h3⟩
  · exfalso
    simp [inner_append, inner] at h2

theorem PlInv.le {t : List UInt8} {k fr : Nat} {acc : List UInt8} (h : PlInv t k fr acc) (hk : k ≤ (inner t).length) : acc.length ≤ k ∧ (fr ≤ k → acc.length + (k - fr) ≤ k) := by
  rcases h with ⟨t1, t2, rfl, h2, h3, h4⟩ | ⟨t1, t2, rfl, h2, h3, h4⟩
  · have h5 := congrArg List.length h4
    have := length_inner_ge t1
    simp at h5
    omega
  · have := length_inner_ge t1
    subst h4
    simp
    omega

/-- The least text above all that begin with this one. -/
def nextL : List UInt8 → Option (List UInt8)
  | [] => none
  | c :: r => match nextL r with
    | some x => some (c :: x)
    | none => if c = 255 then none else some [c + 1]

theorem nextL_append_none (a b : List UInt8) (h : nextL b = none) : nextL (a ++ b) = nextL a := by
  induction a with
  | nil => simpa [nextL] using h
  | cons c r ih => simp only [List.cons_append, nextL]; rw [ih]
theorem nextL_append_some (a b x : List UInt8) (h : nextL b = some x) : nextL (a ++ b) = some (a ++ x) := by
  induction a with
  | nil => simpa using h
  | cons c r ih => simp only [List.cons_append, nextL]; rw [ih]
theorem nextL_last (l : List UInt8) (n : Nat) (hn : n < l.length) (h : nextL (l.drop (n + 1)) = none) (hc : l[n] ≠ 255) : nextL l = some (l.take n ++ [l[n] + 1]) := by
  have e : l = l.take n ++ l[n] :: l.drop (n + 1) := by simp
  have h2 : nextL (l[n] :: l.drop (n + 1)) = some [l[n] + 1] := by simp [nextL, h, hc]
  conv => lhs; rw [e]
  exact nextL_append_some _ _ _ h2
theorem nextL_high (l : List UInt8) (n : Nat) (hn : n < l.length) (h : nextL (l.drop (n + 1)) = none) (hc : l[n] = 255) : nextL (l.drop n) = none := by
  rw [List.drop_eq_getElem_cons hn]
  simp [nextL, h, hc]

/-- The order of bytes. -/
def cmpL : List UInt8 → List UInt8 → Int
  | [], [] => 0
  | [], _ :: _ => -1
  | _ :: _, [] => 1
  | a :: x, b :: y => if a < b then -1 else if b < a then 1 else cmpL x y

theorem cmpL_same (a : List UInt8) : cmpL a a = 0 := by
  induction a with
  | nil => rfl
  | cons c r ih => simp [cmpL, ih]
theorem cmpL_eq {a b : List UInt8} : cmpL a b = 0 ↔ a = b := by
  fun_induction cmpL a b <;> simp_all
  · rename_i h; intro e; subst e; simp at h
  · rename_i h; intro e; subst e; simp at h
  · rename_i h1 h2 _
    intro _
    exact UInt8.le_antisymm h2 h1
theorem cmpL_three (a b : List UInt8) : cmpL a b = -1 ∨ cmpL a b = 0 ∨ cmpL a b = 1 := by
  fun_induction cmpL a b <;> simp_all
theorem cmpL_neg (a b : List UInt8) : cmpL b a = - cmpL a b := by
  fun_induction cmpL a b <;> simp_all [cmpL]
  · rename_i h; exact UInt8.le_of_lt h
  · rename_i h1 h2 ih
    rw [if_neg (by simpa using h2), if_neg (by simpa using h1)]
theorem cmpL_append (p a b : List UInt8) : cmpL (p ++ a) (p ++ b) = cmpL a b := by
  induction p with
  | nil => rfl
  | cons c r ih => simp [cmpL, ih]
theorem cmpL_cons_ne (a b : UInt8) (x y : List UInt8) (h : a ≠ b) : cmpL (a :: x) (b :: y) = if (a.toNat : Int) < (b.toNat : Int) then -1 else if (b.toNat : Int) < (a.toNat : Int) then 1 else 0 := by
  have h' : a.toNat ≠ b.toNat := fun e => h (UInt8.toNat_inj.1 e)
  simp only [cmpL, UInt8.lt_iff_toNat_lt]
  by_cases h1 : a.toNat < b.toNat
  · rw [if_pos h1, if_pos (by omega)]
  · rw [if_neg h1, if_pos (by omega), if_neg (by omega), if_pos (by omega)]
theorem cmpL_ends (a b : List UInt8) (h : a = [] ∨ b = []) : cmpL a b = if (a.length : Int) < (b.length : Int) then -1 else if (b.length : Int) < (a.length : Int) then 1 else 0 := by
  cases a <;> cases b <;> simp_all [cmpL] <;> omega

/-- Begins a with b? -/
def beginsL (a b : List UInt8) : Bool := b.isPrefixOf a
theorem beginsL_take (a b : List UInt8) (_h : b.length ≤ a.length) : (a.take b.length == b) = beginsL a b := by
  rw [Bool.eq_iff_iff, beq_iff_eq, beginsL, List.isPrefixOf_iff_prefix, List.prefix_iff_eq_take]
  exact ⟨fun h => h.symm, fun h => h.symm⟩
theorem beginsL_short (a b : List UInt8) (h : ¬ b.length ≤ a.length) : beginsL a b = false := by
  rw [beginsL, Bool.eq_false_iff]
  intro hp
  rw [List.isPrefixOf_iff_prefix] at hp
  exact h hp.length_le

end Go.Vf

namespace Go.Vf
open Go.RowKit
variable {P : Program}

/-- The string of these bytes. -/
def bs (l : List UInt8) : ByteArray := ⟨l.toArray⟩
theorem bs_data (l : List UInt8) : (bs l).data.toList = l := by simp [bs]
theorem bs_size (l : List UInt8) : (bs l).size = l.length := by rw [Lib.size_eq, bs_data]
theorem bs_toList (l : List UInt8) : (bs l).toList = l := by rw [ByteArray.toList_eq, bs_data]
theorem data_inj {a b : ByteArray} (h : a.data.toList = b.data.toList) : a = b := by
  obtain ⟨⟨x⟩⟩ := a; obtain ⟨⟨y⟩⟩ := b; simp at h; rw [h]
theorem bs_of (s : ByteArray) : bs s.data.toList = s := data_inj (bs_data _)

/-- The block h begins with these bytes, none frozen. -/
structure BRow (w : World) (h : Nat) (l : List UInt8) : Prop where
  cell : ∀ j (hj : j < l.length), w.cell? ⟨h, j, none⟩ = some (.int .u8 ((l[j]'hj).toNat : Int))
  free : ∀ j, j < l.length → w.frozen? ⟨h, j, none⟩ = false

theorem BRow.at_ {w : World} {h : Nat} {l : List UInt8} (hr : BRow w h l) (j : Nat) (hj : j < l.length) : ∃ n : Int, w.cell? ⟨h, j, none⟩ = some (.int .u8 n) := ⟨_, hr.cell j hj⟩

theorem BRow.like {w w' : World} {h : Nat} {l : List UInt8} (hr : BRow w h l) (hc : ∀ a, w'.cell? a = w.cell? a) (hf : ∀ a, w'.frozen? a = w.frozen? a) : BRow w' h l :=
  ⟨fun j hj => by rw [hc]; exact hr.cell j hj, fun j hj => by rw [hf]; exact hr.free j hj⟩

theorem BRow.drew {w : World} {h : Nat} {l : List UInt8} (hr : BRow w h l) : BRow w.drew h l := ⟨hr.cell, hr.free⟩

theorem BRow.made (w : World) (n : Nat) (t : TypeId) : BRow (w.alloc (.cells (madeCells #[.int .u8 0] n) t)) w.heap.size (List.replicate n 0) := by
  have h := World.rowIs_made w (.int .u8 0) n t
  refine ⟨fun j hj => ?_, fun j _ => h.frozen j⟩
  rw [h.cell (by simpa using hj)]
  simp

theorem BRow.set {w : World} {h : Nat} {l : List UInt8} (hr : BRow w h l) (i : Nat) (x : UInt8) : BRow (w.setCell ⟨h, i, none⟩ (.int .u8 (x.toNat : Int))) h (l.set i x) := by
  refine ⟨fun j hj => ?_, fun j hj => ?_⟩
  · have hj' : j < l.length := by simpa using hj
    by_cases e : j = i
    · subst e
      obtain ⟨v, hv⟩ : ∃ v, w.cell? ⟨h, j, none⟩ = some v := ⟨_, hr.cell j hj'⟩
      have := World.cell?_setCell_same w ⟨h, j, none⟩ (.int .u8 (x.toNat : Int)) (by rw [hv])
      rw [this]; simp
    · rw [World.cell?_setCell_other _ _ _ _ (by simp), hr.cell j hj']
      simp [Ne.symm e]
  · rw [World.frozen?_setCell]
    exact hr.free j (by simpa using hj)

/-- A store of the next byte into a row that is filled from the front. -/
theorem BRow.push {w : World} {h N : Nat} {acc : List UInt8} (hr : BRow w h (fill acc N)) (i : Nat) (hi : i = acc.length) (hN : i < N) (x : UInt8) (n : Int) (hn : n = (x.toNat : Int)) : BRow (w.setCell ⟨h, i, none⟩ (.int .u8 n)) h (fill (acc ++ [x]) N) := by
  subst hi hn
  have h' := hr.set acc.length x
  rwa [fill_set acc x N hN] at h'

def cellsL (l : List UInt8) : List Value := l.map fun x => Value.int .u8 (x.toNat : Int)
theorem cellsL_length (l : List UInt8) : (cellsL l).length = l.length := by simp [cellsL]

theorem BRow.put {w : World} {h : Nat} {l : List UInt8} (hr : BRow w h l) (n : Nat) (t : List UInt8) (hfit : n + t.length ≤ l.length) : BRow (w.setCells h n (cellsL t)) h (l.take n ++ (t ++ l.drop (n + t.length))) := by
  have hlen : (l.take n ++ (t ++ l.drop (n + t.length))).length = l.length := by simp; omega
  refine ⟨fun j hj => ?_, fun j hj => ?_⟩
  · have hj' : j < l.length := by omega
    by_cases h1 : n ≤ j ∧ j < n + t.length
    · obtain ⟨d, rfl⟩ : ∃ d, j = n + d := ⟨j - n, by omega⟩
      rw [World.cell?_setCells_in h (cellsL t) n w (fun i hi => by rw [cellsL_length] at hi; rw [hr.cell (n + i) (by omega)]; rfl) d (by rw [cellsL_length]; omega)]
      have hd : d < t.length := by omega
      simp [cellsL, hd, Nat.min_eq_left (show n ≤ l.length by omega)]
    · rw [World.cell?_setCells_out h (cellsL t) n w ⟨h, j, none⟩ (fun _ _ => by rw [cellsL_length]; show j < n ∨ _ ≤ j; omega), hr.cell j hj']
      congr 3
      by_cases h2 : j < n
      · simp only [List.getElem_append, List.length_take, Nat.min_eq_left (show n ≤ l.length by omega), h2, dite_true, List.getElem_take]
      · have h3 : n + t.length ≤ j := by omega
        simp only [List.getElem_append, List.length_take, Nat.min_eq_left (show n ≤ l.length by omega), h2, dite_false, show ¬ j - n < t.length by omega, List.getElem_drop]
        congr 2; omega
  · rw [World.frozen?_setCells]
    exact hr.free j (by omega)

theorem below_setCells {B : Nat} {a : World} (b : Nat) (hb : B ≤ b) : ∀ (vs : List Value) (o : Nat) {w : World}, Below B a w → Below B a (w.setCells b o vs)
  | [], _, _, h => h
  | v :: r, o, _, h => below_setCells b hb r (o + 1) (h.setCell (p := ⟨b, o, none⟩) hb v)

theorem size_setCells (b : Nat) : ∀ (vs : List Value) (o : Nat) (w : World), (w.setCells b o vs).heap.size = w.heap.size
  | [], _, _ => rfl
  | v :: r, o, w => by rw [World.setCells, size_setCells b r (o + 1)]; simp [World.setCell]

/-- 'out[n:]' of 'out', the N bytes of block h. -/
def cutV (h N n : Nat) : Value := .slice (some (if N = n then ⟨h, 0, none⟩ else ⟨h, n, none⟩)) (N - n) (N - n)

theorem run_cut (W : World) (t e : TypeId) (ht : P.underlying t = some (.slice e)) (hz : ∀ w, (Go.sizeOf e).run P w = .ok 1 w) (h N n : Nat) (hb : n ≤ N) :
    (Instr.slice t (.slice (some ⟨h, 0, none⟩) N N) (some (.int .i64 (n : Int))) none none).run P W = .ok (cutV h N n) W := by
  have ht' : P.underlying t = some (.slice (P.elem t)) := by simp [Program.elem, ht]
  have he : P.elem t = e := by simp [Program.elem, ht]
  rw [run_slice_l W t _ _ _ ht' .i64 _ (by omega) (by omega), he, hz]
  unfold cutV
  by_cases h0 : N = n
  · simp [Result.andThen, sliced, h0]
  · by_cases h1 : n = 0
    · subst h1; simp [Result.andThen, sliced, Addr.add, h0]
    · simp [Result.andThen, sliced, Addr.add, h0, h1]

theorem cutV_zero (h N : Nat) : cutV h N 0 = .slice (some ⟨h, 0, none⟩) N N := by
  unfold cutV
  split <;> simp_all

theorem take_cells (t : ByteArray) (k : Nat) : List.take k (t.data.toList.map fun x => Value.int .u8 (x.toNat : Int)) = cellsL (t.data.toList.take k) := by
  simp [cellsL]

/-- 'copy(out[n:], t)', t a string: as many of its bytes as there is room for. -/
theorem run_copy_str (w : World) (dT sT ty e : TypeId) (h N n : Nat) (t : ByteArray) (l : List UInt8) (hl : l.length = N) (hn : n ≤ N) (hu : P.underlying dT = some (.slice e)) (hz : ∀ w, (Go.sizeOf e).run P w = .ok 1 w) (hr : BRow w h l) :
    (Builtin.copy_ #[dT, sT] ty #[cutV h N n, .string t]).run P w = .ok (.int .i64 (min t.size (N - n) : Nat)) (w.setCells h n (cellsL (t.data.toList.take (N - n)))) := by
  have hlt : (cellsL (t.data.toList.take (N - n))).length = min t.size (N - n) := by rw [cellsL_length, List.length_take, ← Lib.size_eq, Nat.min_comm]
  unfold cutV
  by_cases h0 : N = n
  · subst h0
    simp [Builtin.copy_, run_underlying hu, Builtin.lenOf, Builtin.firstCells, hz, cellsL, World.setCells, storeCells, goInt]
  · rw [if_neg h0]
    have hst := run_storeCells_cells (P := P) h n (cellsL (t.data.toList.take (N - n))) 0 w (by rw [hlt]; intro j hj; rw [Nat.add_zero, hr.cell (n + j) (by omega)]; rfl) (by rw [hlt]; intro j hj; rw [Nat.add_zero]; exact hr.free (n + j) (by omega)) (by
      intro v hv
      obtain ⟨x, _, rfl⟩ := List.mem_map.1 hv
      rfl)
    have hmin : List.take (min t.size (N - n)) (t.data.toList.map fun x => Value.int .u8 (x.toNat : Int)) = cellsL (t.data.toList.take (N - n)) := by
      rw [take_cells]
      congr 1
      by_cases hc : t.size ≤ N - n
      · rw [Nat.min_eq_left hc, List.take_of_length_le (by rw [← Lib.size_eq]; exact Nat.le_refl _), List.take_of_length_le (by rw [← Lib.size_eq]; exact hc)]
      · rw [Nat.min_eq_right (by omega)]
    simp only [Nat.add_zero] at hst
    simp [Builtin.copy_, run_underlying hu, Builtin.lenOf, Builtin.firstCells, hz]
    rw [show t.size.min (N - n) = min t.size (N - n) from rfl, hmin, hst]
    rfl

/-- .. its run, the world behind it a variable. -/
theorem run_copy_ex (w : World) (dT sT ty e : TypeId) (h N n : Nat) (t : ByteArray) (l : List UInt8) (hl : l.length = N) (hn : n ≤ N) (hu : P.underlying dT = some (.slice e)) (hz : ∀ w, (Go.sizeOf e).run P w = .ok 1 w) (hr : BRow w h l) (B : Nat) (w0 : World) (hb : Below B w0 w) (hB : B ≤ h) :
    ∃ w', (Builtin.copy_ #[dT, sT] ty #[cutV h N n, .string t]).run P w = .ok (.int .i64 (min t.size (N - n) : Nat)) w' ∧ BRow w' h (l.take n ++ (t.data.toList.take (N - n) ++ l.drop (n + min t.size (N - n)))) ∧ Below B w0 w' ∧ w'.heap.size = w.heap.size := by
  have hlen : (t.data.toList.take (N - n)).length = min t.size (N - n) := by rw [List.length_take, ← Lib.size_eq, Nat.min_comm]
  have hp := hr.put n (t.data.toList.take (N - n)) (by rw [hlen]; omega)
  rw [hlen] at hp
  exact ⟨_, run_copy_str (P := P) w dT sT ty e h N n t l hl hn hu hz hr, hp, below_setCells h hB _ _ hb, size_setCells _ _ _ _⟩

/-- .. for the walk, in a list of operations: the world behind it is a variable. -/
theorem wpList_copy_str {w : World} {ops : Array Oper} {rest : List Oper} {o : Oper} {a : Act} {Q : Exit → Act → World → Prop} (hgd : o.guard = none) (d x : Operand) (dT sT : TypeId)
    (hop : o.op = .call { callee := .builtin .copy, args := #[d, x], argTypes := #[dT, sT] }) (e : TypeId) (hu : P.underlying dT = some (.slice e)) (hz : ∀ w, (Go.sizeOf e).run P w = .ok 1 w)
    (h N n : Nat) (hd : a.eval d = cutV h N n) (t : ByteArray) (hx : a.eval x = .string t) (l : List UInt8) (hl : l.length = N) (hn : n ≤ N) (hr : BRow w h l) (B : Nat) (w0 : World) (hb : Below B w0 w) (hB : B ≤ h)
    (hK : ∀ w', Hid (BRow w' h (l.take n ++ (t.data.toList.take (N - n) ++ l.drop (n + min t.size (N - n))))) → Below B w0 w' → w'.heap.size = w.heap.size → wpList P ops Q rest (a.put o.dst (.int .i64 (min t.size (N - n) : Nat))) w') :
    wpList P ops Q (o :: rest) a w := by
  refine wpList_plain hgd fun K hK' => ?_
  have hrun := run_copy_str (P := P) w dT sT o.type e h N n t l hl hn hu hz hr
  have hlen : (t.data.toList.take (N - n)).length = min t.size (N - n) := by rw [List.length_take, ← Lib.size_eq, Nat.min_comm]
  unfold Oper.wp
  simp only [execOp, hop, resolve, invoke, builtin, Sem.run_bind, Sem.run_pure, Result.andThen_ok, List.map_toArray, List.map_cons, List.map_nil, hd, hx, hrun]
  have hp := hr.put n (t.data.toList.take (N - n)) (by rw [hlen]; omega)
  rw [hlen] at hp
  exact hK' _ _ (hK _ hp (below_setCells h hB _ _ hb) (size_setCells _ _ _ _))

/-- .. as one step of a region that draws its order. -/
theorem step_copy_str {ops : Array Oper} {o : Oper} {a : Act} {w : World} {K : Act → World → Prop} {Q : Exit → Act → World → Prop} {E : Prop} (hgd : o.guard = none) (d x : Operand) (dT sT : TypeId)
    (hop : o.op = Op.call { callee := Callee.builtin Builtin.copy, args := #[d, x], argTypes := #[dT, sT] }) (e : TypeId) (hu : P.underlying dT = some (.slice e)) (hz : ∀ w, (Go.sizeOf e).run P w = .ok 1 w)
    (h N n : Nat) (hd : a.eval d = cutV h N n) (t : ByteArray) (hx : a.eval x = .string t) (l : List UInt8) (hl : l.length = N) (hn : n ≤ N) (hr : BRow w h l) (B : Nat) (w0 : World) (hb : Below B w0 w) (hB : B ≤ h)
    (hK : ∀ w', Hid (BRow w' h (l.take n ++ (t.data.toList.take (N - n) ++ l.drop (n + min t.size (N - n))))) → Below B w0 w' → w'.heap.size = w.heap.size → K (a.put o.dst (.int .i64 (min t.size (N - n) : Nat))) w') :
    if Region.wanted o (yielded ops a.tmps) = true then Oper.wp P o a w K Q else E := by
  have hw : Region.wanted o (yielded ops a.tmps) = true := by simp [Region.wanted, hgd]
  rw [if_pos hw]
  have hrun := run_copy_str (P := P) w dT sT o.type e h N n t l hl hn hu hz hr
  have hlen : (t.data.toList.take (N - n)).length = min t.size (N - n) := by rw [List.length_take, ← Lib.size_eq, Nat.min_comm]
  unfold Oper.wp
  simp only [execOp, hop, resolve, invoke, builtin, Sem.run_bind, Sem.run_pure, Result.andThen_ok, List.map_toArray, List.map_cons, List.map_nil, hd, hx, hrun]
  have hp := hr.put n (t.data.toList.take (N - n)) (by rw [hlen]; omega)
  rw [hlen] at hp
  exact hK _ hp (below_setCells h hB _ _ hb) (size_setCells _ _ _ _)

/-- .. into a row that is filled from the front, with room enough. -/
theorem step_copy_fill {ops : Array Oper} {o : Oper} {a : Act} {w : World} {K : Act → World → Prop} {Q : Exit → Act → World → Prop} {E : Prop} (hgd : o.guard = none) (d x : Operand) (dT sT : TypeId)
    (hop : o.op = Op.call { callee := Callee.builtin Builtin.copy, args := #[d, x], argTypes := #[dT, sT] }) (e : TypeId) (hu : P.underlying dT = some (.slice e)) (hz : ∀ w, (Go.sizeOf e).run P w = .ok 1 w)
    (h N : Nat) (acc : List UInt8) (hd : a.eval d = cutV h N acc.length) (t : ByteArray) (hx : a.eval x = .string t) (m : Nat) (hm : t.size = m) (acc2 : List UInt8) (ha2 : acc2 = acc ++ t.data.toList) (hfit : acc.length + m ≤ N) (hr : BRow w h (fill acc N)) (B : Nat) (w0 : World) (hb : Below B w0 w) (hB : B ≤ h)
    (hK : ∀ w', BRow w' h (fill acc2 N) → Below B w0 w' → Hid (w'.heap.size = w.heap.size) → K (a.put o.dst (.int .i64 (m : Nat))) w') :
    if Region.wanted o (yielded ops a.tmps) = true then Oper.wp P o a w K Q else E := by
  subst hm ha2
  refine step_copy_str hgd d x dT sT hop e hu hz h N acc.length hd t hx (fill acc N) (fill_length acc N (by omega)) (by omega) hr B w0 hb hB ?_
  intro w' h1 h2 h3
  have e1 := fill_put acc t.data.toList N (by rw [← Lib.size_eq]; exact hfit)
  rw [← Lib.size_eq] at e1
  have h1' := h1.out
  rw [e1] at h1'
  have := hK w' h1' h2 h3
  rwa [Nat.min_eq_left (show t.size ≤ N - acc.length by omega)]

/-- 'string(out)', 'string(out[:n])'. -/
theorem run_string_row (w : World) (src dst e : TypeId) (hs : P.underlying src = some (.slice e)) (he : P.underlying e = some (.int .u8)) (hd : P.underlying dst = some .string) (h n cap : Nat) (l : List UInt8) (hn : n ≤ l.length) (hr : BRow w h l) :
    (convert src dst (.slice (some ⟨h, 0, none⟩) n cap)).run P w = .ok (.string (bs (l.take n))) w := by
  have hc := run_convert_bytes_arg (P := P) w src e hs he h 0 n cap ((l.take n).map fun x => (x.toNat : Int)) (by simp; omega) (fun i hi => by
    rw [Nat.zero_add, hr.cell i (by omega)]
    simp [List.getD, hi, List.getElem?_eq_getElem (show i < l.length by omega)]) dst hd
  rw [hc]
  have e : strOfNums ((l.take n).map fun x => (x.toNat : Int)) = bs (l.take n) := data_inj (by rw [strOfNums_data, bs_data]; simp [Function.comp_def])
  rw [e]

end Go.Vf

namespace Go.Vf
open Go.RowKit
variable {P : Program}

/-- The slice v owns these bytes (in blocks from base on). -/
def BOwn (e : TypeId) (w : World) (base : Nat) (v : Value) (acc : List UInt8) : Prop := w.ownsRow base e 1 v acc.length (cellsL acc)

theorem BOwn.nil (e : TypeId) (w : World) (base : Nat) : BOwn e w base (.slice none 0 0) [] := World.ownsRow_nil _ _ _ _

theorem BOwn.alloc {e : TypeId} {w : World} {base : Nat} {v : Value} {acc : List UInt8} (h : BOwn e w base v acc) (o : Obj) : BOwn e (w.alloc o) base v acc := World.ownsRow.alloc h o

theorem BOwn.form {e : TypeId} {w : World} {base : Nat} {v : Value} {acc : List UInt8} (h : BOwn e w base v acc) :
    (v = .slice none 0 0 ∧ acc = []) ∨ ∃ g cap, v = .slice (some ⟨g, 0, none⟩) acc.length cap ∧ base ≤ g ∧ acc.length ≤ cap ∧ cap ≤ maxLen ∧ BRow w g acc := by
  obtain ⟨h1, h2⟩ := h
  rcases h2 with ⟨rfl, hn⟩ | ⟨g, cap, cur, rfl, hb, hh, hc1, hc2, hc3, hc4⟩
  · exact .inl ⟨rfl, List.eq_nil_of_length_eq_zero hn⟩
  · refine .inr ⟨g, cap, rfl, hb, hc1, hc2, ⟨fun j hj => ?_, fun j hj => ?_⟩⟩
    · have hx : (cellsL acc)[j]? = some (.int .u8 ((acc[j]'hj).toNat : Int)) := by simp [cellsL, hj]
      rw [← hc4, List.getElem?_take_of_lt (by omega)] at hx
      simp only [World.cell?, hh]
      simpa using hx
    · simp [World.frozen?, hh]

/-- 'string(out)'. -/
theorem run_string_own (w : World) (src dst e : TypeId) (hs : P.underlying src = some (.slice e)) (he : P.underlying e = some (.int .u8)) (hd : P.underlying dst = some .string) (base : Nat) (v : Value) (acc : List UInt8) (h : BOwn e w base v acc) :
    (convert src dst v).run P w = .ok (.string (bs acc)) w := by
  rcases h.form with ⟨rfl, rfl⟩ | ⟨g, cap, rfl, _, _, _, hr⟩
  · rw [run_convert_bytes_nil (P := P) w src e hs he 0 0 dst hd]
    rfl
  · rw [run_string_row w src dst e hs he hd g acc.length cap acc (Nat.le_refl _) hr, List.take_length]

/-- 'out = append(out, x)', x having been laid in a new block. -/
theorem wpList_append_byte {w : World} {ops : Array Oper} {rest : List Oper} {o : Oper} {a : Act} {Q : Exit → Act → World → Prop} (hgd : o.guard = none) (s x : Operand) (t : TypeId)
    (ho : o.op = .call { callee := .builtin .append, args := #[s, x], argTypes := #[t, t] }) (e : TypeId) (ht : P.underlying t = some (.slice e)) (hinfo : (P.info? e).map (fun i => (i.zero, i.size, i.bytes)) = some (some (.int .u8 0), 1, 1))
    (base : Nat) (v : Value) (acc : List UInt8) (hs : a.eval s = v) (hown : BOwn e w base v acc) (b : UInt8) (n : Int) (hn : n = (b.toNat : Int)) (c : Nat) (hx : a.eval x = .slice (some ⟨w.heap.size, 0, none⟩) 1 c)
    (hlen : acc.length ≤ 1099511627776) (hbase : base ≤ w.heap.size) (B : Nat) (w0 : World) (hb : Below B w0 w) (hB : B ≤ base)
    (h : ∀ v' w', BOwn e w' base v' (acc ++ [b]) → Below B w0 w' → base ≤ w'.heap.size → wpList P ops Q rest (a.put o.dst v') w') :
    wpList P ops Q (o :: rest) a (w.alloc (.cells #[.int .u8 n] e)) := by
  subst hn
  obtain ⟨i, hi, hzz⟩ := Option.map_eq_some_iff.1 hinfo
  simp only [Prod.mk.injEq] at hzz
  obtain ⟨hz, hsz, hby⟩ := hzz
  have hbB : B ≤ (w.alloc (.cells #[.int .u8 (b.toNat : Int)] e)).heap.size := by simp; omega
  refine wpList_append_own (P := P) _ hgd s x t ho base e i (.int .u8 0) 1 1 ht hi hz hsz hby rfl (by decide) v acc.length (cellsL acc) hs (BOwn.alloc hown _) ⟨w.heap.size, 0, none⟩ 1 c [.int .u8 (b.toNat : Int)] hx rfl ?_ ?_ ?_ ?_ ?_ ?_
  · intro j u hj
    match j, hj with
    | 0, hj => simp at hj; subst hj; simp [Addr.add]
  · intro u hu; simp at hu; subst hu; rfl
  · unfold maxLen; omega
  · omega
  · simp; omega
  · intro v' w' h1 h2 _
    refine h v' w' ?_ ?_ ?_
    · unfold BOwn
      have e1 : cellsL (acc ++ [b]) = cellsL acc ++ [.int .u8 (b.toNat : Int)] := by simp [cellsL]
      rw [e1, List.length_append]
      exact h1
    · exact (hb.alloc (by omega) _).grown h2 hbB (fun k hk => by
        have := (World.ownsRow.lt (BOwn.alloc hown (.cells #[.int .u8 (b.toNat : Int)] e)) k hk).1
        omega)
    · have := h2.size; simp at this; omega

end Go.Vf

namespace Go.Proofs.YtgefbgpfjbbeaaaGreatDoor
open Go.RowKit Go.Vf

/-- What a reader gives up with. -/
abbrev lostV (why at_ : Int) : Value := .iface 333 (.agg #[.int .i64 why, .int .i64 at_])
abbrev lost (why at_ : Int) : Ending := .panicked [{ v := lostV why at_, recovered := false }]

/-- The head of a number's bytes: whether below, how many bytes of magnitude, how long the head; or where it is none. -/
def tkHead : List UInt8 → Except Nat (Bool × Nat × Nat)
  | [] => .error 0
  | x :: r =>
    if x.toNat = 255 then
      match r with
      | [] => .error 1
      | y :: _ => if 126 < y.toNat then .ok (false, y.toNat, 2) else .error 1
    else if x.toNat = 1 then
      match r with
      | [] => .error 1
      | y :: _ => if y.toNat < 129 then .ok (true, 255 - y.toNat, 2) else .error 1
    else if 1 < x.toNat then
      if x.toNat < 128 then .ok (true, 128 - x.toNat, 1) else .ok (false, x.toNat - 128, 1)
    else .error 0

theorem drop_at (s : ByteArray) (k : Nat) (hk : k < s.size) : s.data.toList.drop k = s[k] :: s.data.toList.drop (k + 1) := by
  rw [List.drop_eq_getElem_cons (by rw [← Lib.size_eq]; exact hk)]
  rfl
theorem drop_end (s : ByteArray) (k : Nat) (hk : s.size ≤ k) : s.data.toList.drop k = [] := List.drop_of_length_le (by rw [← Lib.size_eq]; exact hk)

/-- What takeHead answers. -/
def headE (a : Nat) : Except Nat (Bool × Nat × Nat) → Ending
  | .ok (b, k, h) => .returned (.tuple #[.bool b, .int .i64 (k : Int), .int .i64 ((a + h : Nat) : Int)])
  | .error n => lost 20 ((a + n : Nat) : Int)

end Go.Proofs.YtgefbgpfjbbeaaaGreatDoor

namespace Go.Vf
open Go.RowKit
variable {P : Program}

theorem bytesRow_get (s : ByteArray) (c j : Nat) (hj : j < s.data.toList.length) : (bytesRow s c)[j]? = some (.int .u8 ((s.data.toList[j]'hj).toNat : Int)) := by
  have h1 : j < s.data.size := by simpa using hj
  unfold bytesRow
  rw [Array.getElem?_append_left (by simpa using h1)]
  rw [Array.getElem?_map, Array.getElem?_eq_getElem h1]
  rfl

theorem bytesRow_size (s : ByteArray) (c : Nat) : s.size ≤ (bytesRow s c).size := by
  unfold bytesRow
  rw [Array.size_append, Array.size_map]
  exact Nat.le_add_right _ _

/-- '[]byte(s)': a new row with the string's bytes. -/
theorem run_bytes_ex (w : World) (src dst e : TypeId) (s : ByteArray) (hs : P.underlying src = some .string) (hd : P.underlying dst = some (.slice e)) (he : P.underlying e = some (.int .u8)) :
    ∃ cap w', (convert src dst (.string s)).run P w = .ok (.slice (some ⟨w.heap.size, 0, none⟩) s.size cap) w' ∧ s.size ≤ cap ∧ BRow w' w.heap.size s.data.toList ∧ Below w.heap.size w w' ∧ w'.heap.size = w.heap.size + 1 := by
  refine ⟨_, _, run_bytes_of_string w src dst e s hs hd he, ?_, ⟨fun j hj => ?_, fun j hj => ?_⟩, ?_, ?_⟩
  · exact grownCap_ge w _ _ e
  · have hg := heap_alloc_new w.drew (.cells (bytesRow s (grownCap w s.size 0 e)) e ((bytesRow s (grownCap w s.size 0 e)).size, (bytesRow s (grownCap w s.size 0 e)).size + 1))
    have hsz : w.drew.heap.size = w.heap.size := rfl
    rw [hsz] at hg
    simp only [World.cell?, hg]
    exact bytesRow_get s _ j hj
  · have hg := heap_alloc_new w.drew (.cells (bytesRow s (grownCap w s.size 0 e)) e ((bytesRow s (grownCap w s.size 0 e)).size, (bytesRow s (grownCap w s.size 0 e)).size + 1))
    have hsz : w.drew.heap.size = w.heap.size := rfl
    rw [hsz] at hg
    have := bytesRow_size s (grownCap w s.size 0 e)
    rw [← Lib.size_eq] at hj
    simp only [World.frozen?, hg]
    simp
    omega
  · exact ((Below.refl _ _).drew).alloc (Nat.le_refl _) _
  · simp

/-- 'string([]byte{..})': what the slice holds. -/
theorem run_string_cells (w : World) (src dst e : TypeId) (hs : P.underlying src = some (.slice e)) (he : P.underlying e = some (.int .u8)) (hd : P.underlying dst = some .string) (l : List UInt8) (cs : Array Value) (hcs : cs = (cellsL l).toArray) (n c : Nat) (hn : n = l.length) :
    (convert src dst (.slice (some ⟨w.heap.size, 0, none⟩) n c)).run P (w.alloc (.cells cs e)) = .ok (.string (bs l)) (w.alloc (.cells cs e)) := by
  subst hcs hn
  have hr : BRow (w.alloc (.cells (cellsL l).toArray e)) w.heap.size l := by
    have hg := heap_alloc_new w (.cells (cellsL l).toArray e)
    refine ⟨fun j hj => ?_, fun j hj => ?_⟩
    · simp only [World.cell?, hg]
      simp [cellsL, hj]
    · simp only [World.frozen?, hg]
      simp
  have := run_string_row (P := P) (w.alloc (.cells (cellsL l).toArray e)) src dst e hs he hd w.heap.size l.length c l (Nat.le_refl _) hr
  rwa [List.take_length] at this

/-- The string of a row of the call's own, as strings.Clone makes it. -/
theorem run_unsafe_row (w : World) (pt it ty e : TypeId) (hp : P.underlying pt = some (.pointer e)) (hc : P.cellsOf e = 1) (g cells : Nat) (hsh : w.shape? g = some (e, cells)) (l : List UInt8) (h0 : l ≠ []) (hn : l.length ≤ cells) (h63 : l.length ≤ 17179869184) (hr : BRow w g l) :
    (Builtin.unsafeString_ #[pt, it] ty #[.pointer (some ⟨g, 0, none⟩), .int .i64 l.length]).run P w = .ok (.string (bs l)) (w.freeze ⟨g, 0, none⟩ l.length) :=
  Lib.run_unsafeString_row (P := P) w pt it ty e hp hc g cells hsh l h0 hn (by omega) (fun j x hx => by
    have hj : j < l.length := (List.getElem?_eq_some_iff.1 hx).1
    have e1 : (⟨g, 0, none⟩ : Addr).add j = ⟨g, j, none⟩ := by
      by_cases h : j = 0
      · subst h; rfl
      · simp [Addr.add, h]
    rw [e1, hr.cell j hj]
    have : l[j] = x := by simpa [hj] using hx
    rw [this])
end Go.Vf

namespace Go.Vf

theorem flip_flip (x : UInt8) : 255 - (255 - x) = x := by
  rw [← UInt8.toNat_inj]
  have h := x.toNat_lt
  have h255 : (255 : UInt8).toNat = 255 := rfl
  have h1 : (255 - x).toNat = 255 - x.toNat := by
    rw [UInt8.toNat_sub_of_le _ _ (by rw [UInt8.le_iff_toNat_le]; omega), h255]
  rw [UInt8.toNat_sub_of_le _ _ (by rw [UInt8.le_iff_toNat_le]; omega), h1]
  omega
theorem flipL_flipL (l : List UInt8) : flipL (flipL l) = l := by
  simp only [flipL, List.map_map]
  exact (List.map_congr_left fun x _ => flip_flip x).trans (List.map_id l)

theorem nextL_above (s n : List UInt8) (h : nextL s = some n) : cmpL s n = -1 := by
  induction s generalizing n with
  | nil => simp [nextL] at h
  | cons c r ih =>
    simp only [nextL] at h
    cases hr : nextL r with
    | some x =>
      rw [hr] at h
      simp only [Option.some.injEq] at h
      subst h
      simp [cmpL, ih x hr]
    | none =>
      rw [hr] at h
      by_cases hc : c = 255
      · simp [hc] at h
      · simp only [hc, if_false, Option.some.injEq] at h
        subst h
        have : c < c + 1 := by
          have h1 := c.toNat_lt
          have h2 : c.toNat ≠ 255 := fun e => hc (UInt8.toNat_inj.1 e)
          rw [UInt8.lt_iff_toNat_lt, UInt8.toNat_add]
          have : (1 : UInt8).toNat = 1 := rfl
          omega
        simp [cmpL, this]

theorem begins_ne (c d : UInt8) (r u : List UInt8) (h : ¬ d = c) : beginsL (d :: u) (c :: r) = false := by
  simp [beginsL, List.isPrefixOf, Ne.symm h]

theorem begins_none (s : List UInt8) : ∀ t, nextL s = none → decide (0 ≤ cmpL t s) = beginsL t s := by
  induction s with
  | nil =>
    intro t _
    cases t <;> simp [cmpL, beginsL]
  | cons c r ih =>
    intro t h
    simp only [nextL] at h
    cases hr : nextL r with
    | some x => rw [hr] at h; simp at h
    | none =>
      rw [hr] at h
      by_cases hc : c = 255
      · subst hc
        cases t with
        | nil => simp [cmpL, beginsL]
        | cons d u =>
          have hi := ih u hr
          have hd := d.toNat_lt
          by_cases e : d = 255
          · subst e
            simp only [cmpL, beginsL, List.isPrefixOf] at hi ⊢
            simpa using hi
          · have h1 : d < 255 := by
              rw [UInt8.lt_iff_toNat_lt]
              have : (255 : UInt8).toNat = 255 := rfl
              have h2 : d.toNat ≠ 255 := fun q => e (UInt8.toNat_inj.1 q)
              omega
            simp [cmpL, begins_ne _ _ _ _ e, h1]
      · simp [hc] at h

theorem begins_some (s : List UInt8) : ∀ t n, nextL s = some n → (decide (0 ≤ cmpL t s) && decide (cmpL t n < 0)) = beginsL t s := by
  induction s with
  | nil => intro t n h; simp [nextL] at h
  | cons c r ih =>
    intro t n h
    simp only [nextL] at h
    cases hr : nextL r with
    | some x =>
      rw [hr] at h
      simp only [Option.some.injEq] at h
      subst h
      cases t with
      | nil => simp [cmpL, beginsL]
      | cons d u =>
        have hi := ih u x hr
        by_cases e : d = c
        · subst e
          simp only [cmpL, beginsL, List.isPrefixOf] at hi ⊢
          simpa using hi
        · by_cases h1 : d < c
          · simp [cmpL, begins_ne _ _ _ _ e, h1]
          · have h2 : c < d := UInt8.lt_of_le_of_ne (UInt8.not_lt.1 h1) (Ne.symm e)
            simp [cmpL, begins_ne _ _ _ _ e, h1, h2]
    | none =>
      rw [hr] at h
      by_cases hc : c = 255
      · simp [hc] at h
      · simp only [hc, if_false, Option.some.injEq] at h
        subst h
        cases t with
        | nil => simp [cmpL, beginsL]
        | cons d u =>
          have hi := begins_none r u hr
          have h0 := c.toNat_lt
          have hc2 : c.toNat ≠ 255 := fun q => hc (UInt8.toNat_inj.1 q)
          have h1n : (c + 1).toNat = c.toNat + 1 := by
            rw [UInt8.toNat_add]
            have : (1 : UInt8).toNat = 1 := rfl
            omega
          by_cases e : d = c
          · subst e
            have h3 : d < d + 1 := by rw [UInt8.lt_iff_toNat_lt]; omega
            simp only [cmpL, beginsL, List.isPrefixOf] at hi ⊢
            simpa [h3] using hi
          · by_cases h1 : d < c
            · simp [cmpL, begins_ne _ _ _ _ e, h1]
            · have h2 : c < d := UInt8.lt_of_le_of_ne (UInt8.not_lt.1 h1) (Ne.symm e)
              have h4 : ¬ d < c + 1 := by
                rw [UInt8.lt_iff_toNat_lt, h1n]
                rw [UInt8.lt_iff_toNat_lt] at h2
                omega
              have h5 : ¬ (if c + 1 < d then (1 : Int) else cmpL u []) < 0 := by
                split
                · omega
                · cases u <;> simp [cmpL]
              simp only [cmpL, h1, h2, h4, if_true, if_false, beginsL, List.isPrefixOf, decide_eq_false h5]
              simp [Ne.symm e]

/-- Two texts part at a byte, as a and b stand. -/
def Parts (A B : List UInt8) (c : Int) : Prop := ∃ pre u v ra rb, A = pre ++ u :: ra ∧ B = pre ++ v :: rb ∧ u ≠ v ∧ c = (if u < v then -1 else 1)

theorem Parts.add {A B : List UInt8} {c : Int} (h : Parts A B c) (p : List UInt8) : Parts (p ++ A) (p ++ B) c := by
  obtain ⟨pre, u, v, ra, rb, rfl, rfl, h1, h2⟩ := h
  exact ⟨p ++ pre, u, v, ra, rb, by simp, by simp, h1, h2⟩
theorem Parts.behind {A B : List UInt8} {c : Int} (h : Parts A B c) (x y : List UInt8) : Parts (A ++ x) (B ++ y) c := by
  obtain ⟨pre, u, v, ra, rb, rfl, rfl, h1, h2⟩ := h
  exact ⟨pre, u, v, ra ++ x, rb ++ y, by simp, by simp, h1, h2⟩
theorem Parts.cmp {A B : List UInt8} {c : Int} (h : Parts A B c) : cmpL A B = c := by
  obtain ⟨pre, u, v, ra, rb, rfl, rfl, h1, h2⟩ := h
  rw [cmpL_append, h2]
  simp only [cmpL]
  by_cases h3 : u < v
  · simp [h3]
  · have h4 : v < u := UInt8.lt_of_le_of_ne (UInt8.not_lt.1 h3) (Ne.symm h1)
    simp [h3, h4]
theorem Parts.not_begins {A B : List UInt8} {c : Int} (h : Parts A B c) : beginsL A B = false ∧ beginsL B A = false := by
  obtain ⟨pre, u, v, ra, rb, rfl, rfl, h1, h2⟩ := h
  constructor
  · rw [beginsL, Bool.eq_false_iff]
    intro hp
    rw [List.isPrefixOf_iff_prefix, List.prefix_append_right_inj] at hp
    obtain ⟨z, hz⟩ := hp
    simp at hz
    exact h1 hz.1.symm
  · rw [beginsL, Bool.eq_false_iff]
    intro hp
    rw [List.isPrefixOf_iff_prefix, List.prefix_append_right_inj] at hp
    obtain ⟨z, hz⟩ := hp
    simp at hz
    exact h1 hz.1
theorem flip_lt (u v : UInt8) : (255 - u < 255 - v) ↔ v < u := by
  have h1 := u.toNat_lt
  have h2 := v.toNat_lt
  have h255 : (255 : UInt8).toNat = 255 := rfl
  rw [UInt8.lt_iff_toNat_lt, UInt8.lt_iff_toNat_lt, UInt8.toNat_sub_of_le _ _ (by rw [UInt8.le_iff_toNat_le]; omega), UInt8.toNat_sub_of_le _ _ (by rw [UInt8.le_iff_toNat_le]; omega), h255]
  omega
theorem Parts.flip {A B : List UInt8} {c : Int} (h : Parts A B c) : Parts (flipL A) (flipL B) (-c) := by
  obtain ⟨pre, u, v, ra, rb, rfl, rfl, h1, h2⟩ := h
  refine ⟨flipL pre, 255 - u, 255 - v, flipL ra, flipL rb, by simp [flipL], by simp [flipL], fun e => h1 (by rw [← flip_flip u, e, flip_flip]), ?_⟩
  rw [h2]
  by_cases h3 : u < v
  · have h4 : ¬ v < u := fun h => absurd (UInt8.lt_trans h3 h) (UInt8.lt_irrefl _)
    simp [flip_lt, h3, h4]
  · have h4 : v < u := UInt8.lt_of_le_of_ne (UInt8.not_lt.1 h3) (Ne.symm h1)
    simp [flip_lt, h3, h4]

theorem pos_of_ne (d : UInt8) (h : d ≠ 0) : 0 < d := by
  rw [UInt8.lt_iff_toNat_lt]
  have h2 : d.toNat ≠ 0 := fun q => h (UInt8.toNat_inj.1 q)
  have : (0 : UInt8).toNat = 0 := rfl
  omega

theorem esc_parts (a : List UInt8) : ∀ b, a ≠ b → Parts (esc a) (esc b) (cmpL a b) := by
  induction a with
  | nil =>
    intro b h
    cases b with
    | nil => exact absurd rfl h
    | cons d b =>
      by_cases e : d = 0
      · subst e
        exact ⟨[0], 1, 255, [], inner b ++ [0, 1], by simp [esc, inner], by simp [esc, inner], by decide, by simp [cmpL]⟩
      · exact ⟨[], 0, d, [1], inner b ++ [0, 1], by simp [esc, inner], by simp [esc, inner, e], Ne.symm e, by simp [cmpL, pos_of_ne d e]⟩
  | cons c a ih =>
    intro b h
    cases b with
    | nil =>
      by_cases e : c = 0
      · subst e
        exact ⟨[0], 255, 1, inner a ++ [0, 1], [], by simp [esc, inner], by simp [esc, inner], by decide, by simp [cmpL]⟩
      · exact ⟨[], c, 0, inner a ++ [0, 1], [1], by simp [esc, inner, e], by simp [esc, inner], e, by simp [cmpL]⟩
    | cons d b =>
      by_cases e : c = d
      · subst e
        have hab : a ≠ b := fun q => h (by rw [q])
        have hi := ih b hab
        have hc : cmpL (c :: a) (c :: b) = cmpL a b := by simp [cmpL]
        rw [hc]
        by_cases h0 : c = 0
        · have e1 : esc (c :: a) = [0, 255] ++ esc a := by simp [esc, inner, h0]
          have e2 : esc (c :: b) = [0, 255] ++ esc b := by simp [esc, inner, h0]
          rw [e1, e2]; exact hi.add _
        · have e1 : esc (c :: a) = [c] ++ esc a := by simp [esc, inner, h0]
          have e2 : esc (c :: b) = [c] ++ esc b := by simp [esc, inner, h0]
          rw [e1, e2]; exact hi.add _
      · have hp : ∀ x : UInt8, ∀ y, ∃ r, esc (x :: y) = x :: r := by
          intro x y
          by_cases h0 : x = 0
          · exact ⟨_, by simp [esc, inner, h0]; rfl⟩
          · exact ⟨_, by simp [esc, inner, h0]; rfl⟩
        obtain ⟨r1, e1⟩ := hp c a
        obtain ⟨r2, e2⟩ := hp d b
        refine ⟨[], c, d, r1, r2, e1, e2, e, ?_⟩
        by_cases h3 : c < d
        · simp [cmpL, h3]
        · have h4 : d < c := UInt8.lt_of_le_of_ne (UInt8.not_lt.1 h3) (Ne.symm e)
          simp [cmpL, h3, h4]

end Go.Vf

namespace Go.Vf

theorem mix_length {a l : List UInt8} (hal : a.length = l.length) (k : Nat) (hk : k ≤ l.length) : (a.take k ++ l.drop k).length = l.length := by simp; omega
theorem mix_get {a l : List UInt8} (hal : a.length = l.length) (k : Nat) (hk : k < l.length) (h : k < (a.take k ++ l.drop k).length) : (a.take k ++ l.drop k)[k] = l[k] := by
  have h1 : (a.take k).length = k := by simp; omega
  rw [List.getElem_append_right (by omega)]
  simp [h1]
theorem mix_set {a l : List UInt8} (hal : a.length = l.length) (k : Nat) (hk : k < l.length) : (a.take k ++ l.drop k).set k (a[k]'(by omega)) = a.take (k + 1) ++ l.drop (k + 1) := by
  have h1 : (a.take k).length = k := by simp; omega
  rw [List.set_append_right _ _ (by omega), h1, Nat.sub_self, List.drop_eq_getElem_cons hk, List.set_cons_zero]
  have e : a.take (k + 1) = a.take k ++ [a[k]'(by omega)] := by
    rw [List.take_add_one, List.getElem?_eq_getElem (show k < a.length by omega)]
    rfl
  rw [e, List.append_assoc]
  rfl

/-- Digits to the base 256, the lowest first: their number. -/
def lval : List UInt8 → Nat
  | [] => 0
  | x :: r => x.toNat + 256 * lval r
/-- A number's digits to the base 256, the lowest first, no nought behind. -/
def lowD (n : Nat) : List UInt8 := if n = 0 then [] else UInt8.ofNat (n % 256) :: lowD (n / 256)
termination_by n
decreasing_by omega

theorem ofNat_mod (n : Nat) : (UInt8.ofNat (n % 256)).toNat = n % 256 := by
  rw [UInt8.toNat_ofNat_of_lt' (Nat.mod_lt _ (by decide))]
theorem lowD_zero : lowD 0 = [] := by rw [lowD, if_pos rfl]
theorem lowD_pos {n : Nat} (h : n ≠ 0) : lowD n = UInt8.ofNat (n % 256) :: lowD (n / 256) := by rw [lowD, if_neg h]
theorem lval_lowD (n : Nat) : lval (lowD n) = n := by
  induction n using Nat.strongRecOn with
  | ind n ih =>
    by_cases h : n = 0
    · subst h; rw [lowD_zero]; rfl
    · rw [lowD_pos h, lval, ih _ (by omega), ofNat_mod]
      omega
theorem lowD_nil {n : Nat} : lowD n = [] ↔ n = 0 := by
  constructor
  · intro h
    have := lval_lowD n
    rw [h] at this
    exact this.symm
  · rintro rfl; exact lowD_zero
theorem lval_pos {l : List UInt8} (h : l.getLast? ≠ some 0) (h0 : l ≠ []) : lval l ≠ 0 := by
  induction l with
  | nil => exact absurd rfl h0
  | cons x r ih =>
    rw [lval]
    by_cases hr : r = []
    · subst hr
      simp only [List.getLast?_singleton, ne_eq, Option.some.injEq] at h
      intro h1
      exact h (UInt8.toNat_inj.1 (by show x.toNat = 0; omega))
    · have h2 : r.getLast? ≠ some 0 := by
        intro h3
        apply h
        rw [List.getLast?_cons, h3]
        rfl
      have := ih h2 hr
      omega
theorem lowD_lval {l : List UInt8} (h : l.getLast? ≠ some 0) : lowD (lval l) = l := by
  induction l with
  | nil => exact lowD_zero
  | cons x r ih =>
    rw [lowD_pos (lval_pos h (by simp)), lval]
    have hx := x.toNat_lt
    have e1 : (x.toNat + 256 * lval r) % 256 = x.toNat := by omega
    have e2 : (x.toNat + 256 * lval r) / 256 = lval r := by omega
    rw [e1, e2]
    have h2 : r.getLast? ≠ some 0 := by
      intro h3
      apply h
      rw [List.getLast?_cons, h3]
      rfl
    rw [ih h2]
    simp
theorem lowD_last (n : Nat) : (lowD n).getLast? ≠ some 0 := by
  induction n using Nat.strongRecOn with
  | ind n ih =>
    by_cases h : n = 0
    · subst h; rw [lowD_zero]; simp
    · rw [lowD_pos h]
      by_cases h2 : n / 256 = 0
      · rw [h2, lowD_zero]
        simp only [List.getLast?_singleton, ne_eq, Option.some.injEq]
        intro h3
        have := ofNat_mod n
        rw [h3] at this
        have : n % 256 = 0 := this.symm
        omega
      · have h3 := ih (n / 256) (by omega)
        rw [List.getLast?_cons]
        cases h4 : (lowD (n / 256)).getLast? with
        | none => exact absurd (lowD_nil.1 (List.getLast?_eq_none_iff.1 h4)) h2
        | some y => rw [h4] at h3; exact h3
theorem lval_lt (l : List UInt8) : lval l < 256 ^ l.length := by
  induction l with
  | nil => simp [lval]
  | cons x r ih =>
    have := x.toNat_lt
    rw [lval, List.length_cons, Nat.pow_succ]
    omega
theorem lval_ge {l : List UInt8} (h : l.getLast? ≠ some 0) (h0 : l ≠ []) : 256 ^ (l.length - 1) ≤ lval l := by
  induction l with
  | nil => exact absurd rfl h0
  | cons x r ih =>
    rw [lval]
    by_cases hr : r = []
    · subst hr
      have := lval_pos h (by simp)
      rw [lval] at this
      simp [lval] at this ⊢
      omega
    · have h2 : r.getLast? ≠ some 0 := by
        intro h3
        apply h
        rw [List.getLast?_cons, h3]
        rfl
      have := ih h2 hr
      have hl : 0 < r.length := List.length_pos_iff.2 hr
      have e : (x :: r).length - 1 = (r.length - 1) + 1 := by simp; omega
      rw [e, Nat.pow_succ]
      omega
theorem lowD_length_le {n k : Nat} : (lowD n).length ≤ k ↔ n < 256 ^ k := by
  constructor
  · intro h
    have h1 := lval_lt (lowD n)
    rw [lval_lowD] at h1
    exact Nat.lt_of_lt_of_le h1 (Nat.pow_le_pow_right (by decide) h)
  · intro h
    by_cases h0 : n = 0
    · subst h0; rw [lowD_zero]; simp
    · have h1 := lval_ge (lowD_last n) (fun h2 => h0 (lowD_nil.1 h2))
      rw [lval_lowD] at h1
      rcases Nat.lt_or_ge k (lowD n).length with h2 | h2
      · have h3 : 256 ^ k ≤ 256 ^ ((lowD n).length - 1) := Nat.pow_le_pow_right (by decide) (by omega)
        omega
      · exact h2
theorem lowD_length_mono {n m : Nat} (h : n ≤ m) : (lowD n).length ≤ (lowD m).length :=
  lowD_length_le.2 (Nat.lt_of_le_of_lt h (lowD_length_le.1 (Nat.le_refl _)))
theorem lval_append (a b : List UInt8) : lval (a ++ b) = lval a + 256 ^ a.length * lval b := by
  induction a with
  | nil => simp [lval]
  | cons x r ih =>
    rw [List.cons_append, lval, lval, ih, List.length_cons, Nat.pow_succ, Nat.mul_add, ← Nat.mul_assoc, Nat.add_assoc, Nat.mul_comm 256 (256 ^ r.length)]
end Go.Vf
