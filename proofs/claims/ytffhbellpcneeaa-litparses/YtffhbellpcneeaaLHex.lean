/- Digits of sixteen, spelt bytes, quoted bytes, as plain functions (lemmas; nothing is claimed here). -/
import Derived.Test.YtffhbellpcneeaaJ5
namespace Go.Proofs.Ytffhbellpcneeaa
open Go.RowKit Go.Vf

def hexD (n : Nat) : UInt8 := if n < 10 then UInt8.ofNat (48 + n) else UInt8.ofNat (87 + n)
def hex2 (c : UInt8) : List UInt8 := [hexD (c.toNat / 16), hexD (c.toNat % 16)]
def isHex (c : UInt8) : Bool := isDig c || (decide (97 ≤ c.toNat) && decide (c.toNat ≤ 102))
/-- What a digit says; 255 of another byte. -/
def hexV (c : UInt8) : Nat := if isDig c then c.toNat - 48 else if 97 ≤ c.toNat ∧ c.toNat ≤ 102 then c.toNat - 87 else 255
/-- The byte of two digits. -/
def unh (a b : UInt8) : UInt8 := UInt8.ofNat ((hexV a * 16 % 256) ||| hexV b)
def unhex : List UInt8 → List UInt8
  | a :: b :: r => unh a b :: unhex r
  | _ => []
def spelt (q c : UInt8) : List UInt8 := if c = q ∨ c = 92 then [92, c] else if 32 ≤ c.toNat ∧ c.toNat ≤ 126 then [c] else 92 :: 120 :: hex2 c
def meant : List UInt8 → UInt8
  | 92 :: 120 :: a :: b :: _ => unh a b
  | 92 :: a :: _ => a
  | a :: _ => a
  | [] => 0

theorem all_bytes {P : UInt8 → Bool} (h : ((List.range 256).all fun n => P (UInt8.ofNat n)) = true) (c : UInt8) : P c = true := by
  have := List.all_eq_true.1 h c.toNat (List.mem_range.2 c.toNat_lt)
  rwa [show UInt8.ofNat c.toNat = c by simp] at this
theorem unh_hex2 (c : UInt8) : unh (hexD (c.toNat / 16)) (hexD (c.toNat % 16)) = c := by
  have := all_bytes (P := fun c => unh (hexD (c.toNat / 16)) (hexD (c.toNat % 16)) == c) (by kernel_rfl) c
  exact beq_iff_eq.1 this
theorem hex2_hex (c : UInt8) : ∀ x ∈ hex2 c, isHex x = true := by
  have := all_bytes (P := fun c => (hex2 c).all isHex) (by kernel_rfl) c
  exact List.all_eq_true.1 this
theorem hex2_unh {a b : UInt8} (ha : isHex a = true) (hb : isHex b = true) : hex2 (unh a b) = [a, b] := by
  have := all_bytes (P := fun a => !isHex a || (List.range 256).all fun n => !isHex (UInt8.ofNat n) || hex2 (unh a (UInt8.ofNat n)) == [a, UInt8.ofNat n]) (by kernel_rfl) a
  rw [ha] at this
  have := all_bytes (P := fun b => !isHex b || hex2 (unh a b) == [a, b]) (by simpa using this) b
  rw [hb] at this
  simpa using this
theorem unhex_hex2 : ∀ (l : List UInt8), unhex (l.flatMap hex2) = l
  | [] => rfl
  | c :: r => by
    rw [List.flatMap_cons]
    show unh _ _ :: unhex (r.flatMap hex2) = _
    rw [unh_hex2, unhex_hex2 r]
theorem hex2_unhex : ∀ (l : List UInt8), l.length % 2 = 0 → (∀ x ∈ l, isHex x = true) → (unhex l).flatMap hex2 = l
  | [], _, _ => rfl
  | [a], h, _ => by simp at h
  | a :: b :: r, h, hx => by
    rw [unhex, List.flatMap_cons, hex2_unh (hx a (by simp)) (hx b (by simp)), hex2_unhex r (by simp at h; omega) (fun x hm => hx x (by simp [hm]))]
    rfl
theorem unhex_length : ∀ (l : List UInt8), (unhex l).length = l.length / 2
  | [] => rfl
  | [a] => by simp [unhex]
  | a :: b :: r => by rw [unhex, List.length_cons, unhex_length r]; simp; omega
theorem hex2_length (l : List UInt8) : (l.flatMap hex2).length = 2 * l.length := by
  induction l with
  | nil => rfl
  | cons c r ih => rw [List.flatMap_cons, List.length_append, ih]; simp [hex2]; omega
theorem hex2_all (l : List UInt8) : ∀ x ∈ l.flatMap hex2, isHex x = true := by
  intro x hx
  obtain ⟨c, _, h⟩ := List.mem_flatMap.1 hx
  exact hex2_hex c x h
theorem spelt_pos (q c : UInt8) : 0 < (spelt q c).length := by
  unfold spelt; split
  · simp
  · split <;> simp
theorem spelt_le (q c : UInt8) : (spelt q c).length ≤ 4 := by
  unfold spelt; split
  · simp
  · split <;> simp [hex2]

/-- What stands behind a spelt byte doesn't matter: it is the byte that is meant. (The quote is none of the letters that begin an escape's second byte.) -/
theorem meant_spelt {q : UInt8} (hq : q = 39 ∨ q = 34) (c : UInt8) (t : List UInt8) : meant (spelt q c ++ t) = c := by
  unfold spelt
  split
  · rename_i h
    have hx : c ≠ 120 := by rcases h with rfl | rfl <;> rcases hq with rfl | rfl <;> decide
    show meant (92 :: c :: t) = c
    unfold meant
    split
    · rename_i e; simp at e; exact absurd e.1 hx
    · rename_i e; simp at e; exact e.1.symm
    · rename_i h1 h2 e; simp at e; exact (h2 c t e.1.symm e.2.symm).elim
    · rename_i e; simp at e
  · rename_i h
    split
    · have h92 : c ≠ 92 := fun e => h (.inr e)
      show meant (c :: t) = c
      unfold meant
      split
      · rename_i e; simp at e; exact absurd e.1 h92
      · rename_i e; simp at e; exact absurd e.1 h92
      · rename_i e; simp at e; exact e.1.symm
      · rename_i e; simp at e
    · show unh _ _ = c
      exact unh_hex2 c
/-- A spelt byte doesn't begin with the quote. -/
theorem spelt_head {q : UInt8} (hq : q = 39 ∨ q = 34) (c : UInt8) (t : List UInt8) : [q].isPrefixOf (spelt q c ++ t) = false := by
  have h92 : (q == 92) = false := by rcases hq with rfl | rfl <;> rfl
  unfold spelt
  split
  · simp [List.isPrefixOf, h92]
  · rename_i h
    split
    · have : (q == c) = false := by
        rw [beq_eq_false_iff_ne]; intro e; exact h (.inl e.symm)
      simp [List.isPrefixOf, this]
    · simp [List.isPrefixOf, h92]

/-- What stands between quotes, and what stands behind. -/
def unq (q : UInt8) : Nat → List UInt8 → Option (List UInt8 × List UInt8)
  | 0, _ => none
  | n + 1, t => if [q].isPrefixOf t then some ([], t.drop 1) else
      if (spelt q (meant t)).isPrefixOf t then (unq q n (t.drop (spelt q (meant t)).length)).map fun x => (meant t :: x.1, x.2) else none
theorem isPrefixOf_append (a b : List UInt8) : a.isPrefixOf (a ++ b) = true := by simp
theorem prefix_split {a t : List UInt8} (h : a.isPrefixOf t = true) : t = a ++ t.drop a.length := by
  obtain ⟨r, rfl⟩ := List.isPrefixOf_iff_prefix.1 h
  simp
theorem unq_read {q : UInt8} (hq : q = 39 ∨ q = 34) (rest : List UInt8) : ∀ (l : List UInt8) (n : Nat), l.length < n → unq q n (l.flatMap (spelt q) ++ q :: rest) = some (l, rest)
  | [], n + 1, _ => by simp [unq, List.isPrefixOf]
  | c :: r, n + 1, h => by
    rw [List.flatMap_cons, List.append_assoc, unq, if_neg (by rw [spelt_head hq]; simp), meant_spelt hq, if_pos (isPrefixOf_append _ _), List.drop_left, unq_read hq rest r n (by simp at h; omega)]
    rfl
theorem unq_inv (q : UInt8) : ∀ (n : Nat) (t l rest : List UInt8), unq q n t = some (l, rest) → t = l.flatMap (spelt q) ++ q :: rest
  | 0, _, _, _, h => by simp [unq] at h
  | n + 1, t, l, rest, h => by
    rw [unq] at h
    split at h
    · rename_i hp
      have e := prefix_split hp
      simp only [Option.some.injEq, Prod.mk.injEq] at h
      obtain ⟨rfl, rfl⟩ := h
      simpa using e
    · split at h
      · rename_i hp
        have e := prefix_split hp
        obtain ⟨⟨l', r'⟩, h1, h2⟩ := Option.map_eq_some_iff.1 h
        simp only [Prod.mk.injEq] at h2
        obtain ⟨rfl, rfl⟩ := h2
        have := unq_inv q n _ _ _ h1
        rw [List.flatMap_cons, List.append_assoc, ← this]
        exact e
      · simp at h

/-- The longest row of such bytes. -/
theorem takeW {P : UInt8 → Bool} {a rest : List UInt8} (ha : ∀ x ∈ a, P x = true) (hr : ∀ x, rest.head? = some x → P x = false) : (a ++ rest).takeWhile P = a ∧ (a ++ rest).dropWhile P = rest := by
  induction a with
  | nil =>
    cases rest with
    | nil => simp
    | cons x r => simp [hr x rfl]
  | cons x r ih =>
    have h1 := ha x (by simp)
    have := ih (fun y hy => ha y (by simp [hy]))
    simp [h1, this]
theorem takeW_all {P : UInt8 → Bool} (l : List UInt8) : ∀ x ∈ l.takeWhile P, P x = true := by
  induction l with
  | nil => simp
  | cons a r ih =>
    intro x hx
    by_cases h : P a = true
    · rw [List.takeWhile_cons_of_pos h] at hx
      rcases List.mem_cons.1 hx with rfl | hx
      · exact h
      · exact ih x hx
    · rw [List.takeWhile_cons_of_neg h] at hx; simp at hx
end Go.Proofs.Ytffhbellpcneeaa
