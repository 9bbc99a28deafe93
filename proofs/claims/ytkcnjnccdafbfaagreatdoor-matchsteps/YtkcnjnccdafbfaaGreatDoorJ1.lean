/- Contracts and lemmas (nothing is claimed here). -/
import Derived.Lib.SplitLaws
import Derived.WalkKit
import Derived.WalkSpells
import Derived.WalkLawsBesides
import Derived.Laws.IdiomCopy
import Derived.Laws.BytesArg
import Derived.Lib.Strings
import Derived.Deep.OwnRows
namespace Go.Vf
def cutL (c : UInt8) : List UInt8 → List (List UInt8)
  | [] => [[]]
  | b :: r => if b = c then [] :: cutL c r else match cutL c r with
    | [] => [[b]]
    | h :: t => (b :: h) :: t
theorem cutL_ne (c : UInt8) : ∀ l, cutL c l ≠ [] := by
  intro l
  cases l with
  | nil => simp [cutL]
  | cons b r =>
    unfold cutL
    split
    · simp
    · split <;> simp
theorem cutL_plain (c : UInt8) : ∀ l : List UInt8, (∀ x ∈ l, x ≠ c) → cutL c l = [l] := by
  intro l
  induction l with
  | nil => intro _; rfl
  | cons b r ih =>
    intro h
    unfold cutL
    rw [if_neg (h b (by simp)), ih (fun x hx => h x (by simp [hx]))]
theorem cutL_split (c : UInt8) : ∀ (a r : List UInt8), (∀ x ∈ a, x ≠ c) → cutL c (a ++ c :: r) = a :: cutL c r := by
  intro a
  induction a with
  | nil => intro r _; simp [cutL]
  | cons b t ih =>
    intro r h
    rw [List.cons_append, cutL, if_neg (h b (by simp)), ih r (fun x hx => h x (by simp [hx]))]
theorem index_none (c : UInt8) : ∀ l : List UInt8, Lib.index l [c] = -1 → ∀ x ∈ l, x ≠ c := by
  intro l
  induction l with
  | nil => simp
  | cons b r ih =>
    intro h x hx e
    subst e
    by_cases hb : b = x
    · subst hb
      rw [Lib.index] at h
      simp [List.isPrefixOf] at h
    · have hp : ([x] : List UInt8).isPrefixOf (b :: r) = false := by simp [List.isPrefixOf, Ne.symm hb]
      have hix : Lib.index (b :: r) [x] = if Lib.index r [x] == -1 then -1 else Lib.index r [x] + 1 := by rw [Lib.index, hp]; simp
      rw [hix] at h
      have hge := Lib.index_ge r [x]
      by_cases hm : Lib.index r [x] = -1
      · exact ih hm x ((List.mem_cons.1 hx).resolve_left (fun e => hb e.symm)) rfl
      · rw [if_neg (fun e => hm (beq_iff_eq.1 e))] at h; omega
theorem index_some (c : UInt8) : ∀ (l : List UInt8) (i : Nat), Lib.index l [c] = (i : Int) → i < l.length ∧ (∀ x ∈ l.take i, x ≠ c) ∧ l = l.take i ++ c :: l.drop (i + 1) := by
  intro l
  induction l with
  | nil => intro i h; simp [Lib.index] at h
  | cons b r ih =>
    intro i h
    by_cases hb : b = c
    · subst hb
      have hix : Lib.index (b :: r) [b] = ((0 : Nat) : Int) := by rw [Lib.index]; simp [List.isPrefixOf]
      rw [hix] at h
      obtain rfl : i = 0 := by omega
      simp
    · have hp : ([c] : List UInt8).isPrefixOf (b :: r) = false := by simp [List.isPrefixOf, Ne.symm hb]
      have hix : Lib.index (b :: r) [c] = if Lib.index r [c] == -1 then -1 else Lib.index r [c] + 1 := by rw [Lib.index, hp]; simp
      rw [hix] at h
      by_cases hm : Lib.index r [c] = -1
      · rw [if_pos (beq_iff_eq.2 hm)] at h; omega
      · rw [if_neg (fun e => hm (beq_iff_eq.1 e))] at h
        obtain ⟨j, rfl⟩ : ∃ j, i = j + 1 := ⟨i - 1, by have := Lib.index_ge r [c]; omega⟩
        obtain ⟨h1, h2, h3⟩ := ih j (by omega)
        refine ⟨by simp; omega, ?_, ?_⟩
        · intro x hx
          simp only [List.take_succ_cons, List.mem_cons] at hx
          rcases hx with rfl | hx
          · exact hb
          · exact h2 x hx
        · simp only [List.take_succ_cons, List.drop_succ_cons, List.cons_append]
          rw [← h3]
theorem splitK_cut (c : UInt8) : ∀ (k : Nat) (l : List UInt8), Lib.count l [c] = k → Lib.splitK [c] 0 k l = cutL c l := by
  intro k
  induction k with
  | zero =>
    intro l hk
    by_cases hm : Lib.index l [c] = -1
    · rw [cutL_plain c l (index_none c l hm)]; rfl
    · have hge := Lib.index_ge l [c]
      obtain ⟨i, hi⟩ : ∃ i : Nat, Lib.index l [c] = i := ⟨(Lib.index l [c]).toNat, by omega⟩
      rw [Lib.count_hit (by simp) hi] at hk
      omega
  | succ k ih =>
    intro l hk
    by_cases hm : Lib.index l [c] = -1
    · rw [Lib.count_miss hm] at hk; omega
    · have hge := Lib.index_ge l [c]
      obtain ⟨i, hi⟩ : ∃ i : Nat, Lib.index l [c] = i := ⟨(Lib.index l [c]).toNat, by omega⟩
      have hc := Lib.count_hit (by simp) hi
      rw [hk] at hc
      obtain ⟨h1, h2, h3⟩ := index_some c l i hi
      unfold Lib.splitK
      rw [if_neg (fun e => hm (beq_iff_eq.1 e)), hi]
      simp only [Int.toNat_natCast, Nat.add_zero, List.length_cons, List.length_nil, Nat.zero_add]
      rw [ih _ (by simp only [List.length_cons, List.length_nil, Nat.zero_add] at hc; omega)]
      conv => rhs; rw [h3]
      rw [cutL_split c _ _ h2]
abbrev bsz (l : List UInt8) : ByteArray := ⟨l.toArray⟩
theorem split_cut (c : UInt8) (s : ByteArray) : Lib.splitB ⟨#[c]⟩ 0 (Lib.countB s ⟨#[c]⟩) s = (cutL c s.data.toList).map bsz := by
  have h := Lib.splitB_data ⟨#[c]⟩ 0 (Lib.countB s ⟨#[c]⟩) s
  have h2 := splitK_cut c (Lib.countB s ⟨#[c]⟩) s.data.toList rfl
  rw [show (⟨#[c]⟩ : ByteArray).data.toList = [c] from rfl, h2] at h
  rw [← h, List.map_map]
  have : (bsz ∘ fun x : ByteArray => x.data.toList) = id := by
    funext x
    cases x
    rfl
  rw [this, List.map_id]
theorem cutL_length (c : UInt8) (s : ByteArray) : Lib.countB s ⟨#[c]⟩ + 1 = (cutL c s.data.toList).length := by
  have h := split_cut c s
  have h2 := Lib.splitB_all ⟨#[c]⟩ (Nat.le_refl _) 0 _ s rfl
  rw [h, List.length_map] at h2
  exact h2.symm
theorem cutL_sizes (c : UInt8) : ∀ (l : List UInt8), ∀ x ∈ cutL c l, x.length ≤ l.length := by
  intro l
  induction l with
  | nil => simp [cutL]
  | cons b r ih =>
    intro x hx
    unfold cutL at hx
    split at hx
    · rcases List.mem_cons.1 hx with rfl | hx
      · simp
      · have := ih x hx; simp; omega
    · split at hx
      · simp at hx; subst hx; simp
      · rename_i h t e
        rw [e] at ih
        rcases List.mem_cons.1 hx with rfl | hx
        · have := ih h (by simp); simp; omega
        · have := ih x (by simp [hx]); simp; omega
theorem cutL_len_le (c : UInt8) : ∀ (l : List UInt8), (cutL c l).length ≤ l.length + 1 := by
  intro l
  induction l with
  | nil => simp [cutL]
  | cons b r ih =>
    unfold cutL
    split
    · simp; omega
    · split
      · simp
      · rename_i h t e
        rw [e] at ih
        simp at ih ⊢; omega
theorem cutL_no (c : UInt8) : ∀ (l : List UInt8), ∀ x ∈ cutL c l, ∀ b ∈ x, b ≠ c := by
  intro l
  induction l with
  | nil => intro x hx b hb; simp [cutL] at hx; subst hx; simp at hb
  | cons a r ih =>
    intro x hx b hb
    unfold cutL at hx
    split at hx
    · rcases List.mem_cons.1 hx with rfl | hx
      · simp at hb
      · exact ih x hx b hb
    · rename_i hac
      split at hx
      · simp at hx; subst hx; simp at hb; subst hb; exact hac
      · rename_i h t e
        rw [e] at ih
        rcases List.mem_cons.1 hx with rfl | hx
        · rcases List.mem_cons.1 hb with rfl | hb
          · exact hac
          · exact ih h (by simp) b hb
        · exact ih x (by simp [hx]) b hb
def hexV (c : UInt8) : Option Nat := if 65 ≤ c.toNat ∧ c.toNat ≤ 70 then some (c.toNat - 55) else if 48 ≤ c.toNat ∧ c.toNat ≤ 57 then some (c.toNat - 48) else none
def decV (c : UInt8) : Option Nat := if 48 ≤ c.toNat ∧ c.toNat ≤ 57 then some (c.toNat - 48) else none
def numB (v : UInt8 → Option Nat) (b : Nat) : List UInt8 → Nat → Option Nat
  | [], n => some n
  | c :: r, n => match v c with
    | none => none
    | some d => numB v b r (n * b + d)
def isSyl (n : Int) : Bool := decide (44032 ≤ n) && decide (n ≤ 55203)
def mayB (n : Int) : Bool := decide (0 ≤ n) && decide (n ≤ 1114111) && (decide (n < 55296) || decide (57343 < n)) && !isSyl n
def pointR (s : List UInt8) : Option Int :=
  if s.length = 4 ∨ (4 < s.length ∧ s.length ≤ 6 ∧ s.head? ≠ some 48) then
    match numB hexV 16 s 0 with
    | none => none
    | some n => if mayB (n : Int) then some (n : Int) else none
  else none
def classR (s : List UInt8) : Option Int :=
  if s = [48] ∨ (s ≠ [] ∧ s.head? ≠ some 48 ∧ s.length ≤ 3) then
    match numB decV 10 s 0 with
    | none => none
    | some n => if n ≤ 254 then some (n : Int) else none
  else none
def pointsR : List (List UInt8) → Option (List Int)
  | [] => some []
  | s :: r => match pointR s with
    | none => none
    | some p => match pointsR r with
      | none => none
      | some l => some (p :: l)
def partsR (s : List UInt8) : Option (List Int) := if s = [] then some [] else pointsR (cutL 32 s)
structure Mk where
  line : Int
  point : Int
  cls : Int
  parts : List Int
deriving DecidableEq
def markC : List (List UInt8) → Option (Int × Int × List Int)
  | [a, b, c] => match pointR a with
    | none => none
    | some p => match classR b with
      | none => none
      | some k => match partsR c with
        | none => none
        | some l => some (p, k, l)
  | _ => none
def markR (s : List UInt8) : Option (Int × Int × List Int) := markC (cutL 59 s)
def silentL (s : List UInt8) : Bool := s.isEmpty || s.head? == some 35
def linesR : List (List UInt8) → Int → List Mk → Except (Int × Int) (List Mk)
  | [], _, acc => .ok acc
  | s :: r, n, acc =>
    if silentL s then linesR r (n + 1) acc else
    match markR s with
    | none => .error (40, n + 1)
    | some (p, k, l) =>
      if acc.any (fun m => m.point == p) then .error (41, n + 1)
      else if 4096 ≤ acc.length then .error (2, n + 1)
      else linesR r (n + 1) (acc ++ [⟨n + 1, p, k, l⟩])
def markAt (L : List Mk) (p : Int) : Option Mk := L.find? (fun m => m.point == p)
def partsAt (L : List Mk) (p : Int) : List Int := ((markAt L p).map Mk.parts).getD []
def classAt (L : List Mk) (p : Int) : Int := ((markAt L p).map Mk.cls).getD 0
def hasAt (L : List Mk) (p : Int) : Bool := (markAt L p).isSome
end Go.Vf
namespace Go.Vf
def scan : Bool → List UInt8 → Nat × Bool
  | _, [] => (0, false)
  | op, c :: r => if op = true ∧ c = 1 then (1, true) else if op = true ∧ c ≠ 255 then (0, false) else ((scan (c == 0) r).1 + 1, (scan (c == 0) r).2)
end Go.Vf
namespace Go.Vf
open Go.RowKit
variable {P : Program}
def bs (l : List UInt8) : ByteArray := ⟨l.toArray⟩
theorem data_inj {a b : ByteArray} (h : a.data.toList = b.data.toList) : a = b := by
  obtain ⟨⟨x⟩⟩ := a; obtain ⟨⟨y⟩⟩ := b; simp at h; rw [h]
end Go.Vf
namespace Go.Vf
open Go.RowKit
variable {P : Program}
end Go.Vf
