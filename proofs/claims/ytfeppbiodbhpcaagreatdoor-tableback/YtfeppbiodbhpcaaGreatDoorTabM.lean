/- What a table's text says: plain functions (the verifier's own; no program). -/
import Derived.Test.YtfeppbiodbhpcaaGreatDoorCut
namespace Go.Vf

def isPtB (n : Int) : Bool := decide (0 ≤ n) && decide (n ≤ 1114111) && (decide (n < 55296) || decide (57343 < n))
/-- An element. -/
structure El where
  va : Bool
  pr : Int
  se : Int
  te : Int
deriving DecidableEq
abbrev Ent := List Int × List El
def wtB (n : Int) : Bool := decide (0 ≤ n) && decide (n ≤ 65535)
def rightB (e : El) : Bool :=
  wtB e.pr && wtB e.se && wtB e.te && decide (e.pr ≤ 64319) && !(decide (e.pr ≠ 0) && decide (e.se = 0)) && !(decide (e.se ≠ 0) && decide (e.te = 0)) && (decide (e.pr ≠ 0) || !e.va)
def hexN (s : List UInt8) : Option Nat := numB hexV 16 s 0
def ptR (s : List UInt8) : Option Int :=
  if s.length = 4 ∨ (4 < s.length ∧ s.length ≤ 6 ∧ s.head? ≠ some 48) then (hexN s).map (fun n => (n : Int)) else none
def ptsR : List (List UInt8) → Option (List Int)
  | [] => some []
  | s :: r => match ptR s with
    | none => none
    | some p => match ptsR r with
      | none => none
      | some l => some (p :: l)
def rowB (l : List Int) : Bool := decide (1 ≤ l.length) && decide (l.length ≤ 8) && l.all isPtB
def rowR (s : List UInt8) : Option (List Int) := match ptsR (cutL 32 s) with
  | none => none
  | some l => if rowB l then some l else none
def fieldR (s : List UInt8) : Option Int := match hexN s with
  | none => none
  | some n => if s.length = 4 then some (n : Int) else none
def fieldsR (va : Bool) : List (List UInt8) → Option El
  | [a, b, c] => match fieldR a with
    | none => none
    | some x => match fieldR b with
      | none => none
      | some y => match fieldR c with
        | none => none
        | some z => some ⟨va, x, y, z⟩
  | _ => none
def elR (s : List UInt8) : Option El :=
  if s[0]? = some 91 ∧ (s[1]? = some 46 ∨ s[1]? = some 42) ∧ s[16]? = some 93 then fieldsR (s[1]? == some 42) (cutL 46 ((s.drop 2).take 14)) else none
def elsL : Nat → List UInt8 → Option (List El)
  | 0, _ => some []
  | n + 1, s => match elR (s.take 17) with
    | none => none
    | some e => match elsL n (s.drop 17) with
      | none => none
      | some l => some (e :: l)
def elsR (s : List UInt8) : Option (List El) := if s = [] ∨ 272 < s.length ∨ s.length % 17 ≠ 0 then none else elsL (s.length / 17) s
/-- A text cut at the first byte of a kind. -/
def cut1 (c : UInt8) : List UInt8 → List UInt8 × List UInt8
  | [] => ([], [])
  | b :: r => if b = c then ([], r) else (b :: (cut1 c r).1, (cut1 c r).2)
def entR (s : List UInt8) : Option Ent := match rowR (cut1 59 s).1 with
  | none => none
  | some p => match elsR (cut1 59 s).2 with
    | none => none
    | some l => some (p, l)
def hasT (E : List Ent) (p : List Int) : Bool := E.any (fun e => e.1 == p)
def tabL : List (List UInt8) → Int → List Ent → Except (Int × Int) (List Ent)
  | [], _, acc => .ok acc
  | s :: r, n, acc =>
    if silentL s then tabL r (n + 1) acc else
    match entR s with
    | none => .error (60, n + 1)
    | some x =>
      if x.2.all rightB then
        if hasT acc x.1 then .error (61, n + 1)
        else if 4096 ≤ acc.length then .error (2, n + 1)
        else tabL r (n + 1) (acc ++ [x])
      else .error (62, n + 1)
def loadT (s : List UInt8) : Except (Int × Int) (List Ent) := if 65536 < s.length then .error (2, 0) else tabL (cutL 10 s) 0 []

def findT (E : List Ent) (p : List Int) : Option (List El) := (E.find? (fun e => e.1 == p)).map Prod.snd
def longT : List Ent → Int → Nat
  | [], _ => 0
  | e :: r, x => if e.1.head? = some x then max e.1.length (longT r x) else longT r x

/-- What is said of each entry. -/
structure EntOk (x : Ent) : Prop where
  row : rowB x.1 = true
  n0 : 1 ≤ x.2.length
  n1 : x.2.length ≤ 16
  ok : x.2.all rightB = true

theorem rowR_ok {s : List UInt8} {p : List Int} (h : rowR s = some p) : rowB p = true := by
  unfold rowR at h
  split at h
  · cases h
  · split at h
    · cases h; assumption
    · cases h
theorem elsL_len : ∀ (n : Nat) (s : List UInt8) (l : List El), elsL n s = some l → l.length = n := by
  intro n
  induction n with
  | zero => intro s l h; simp [elsL] at h; subst h; rfl
  | succ n ih =>
    intro s l h
    unfold elsL at h
    split at h
    · cases h
    · split at h
      · cases h
      · rename_i q e
        cases h
        simp [ih _ _ e]
theorem elsR_len {s : List UInt8} {l : List El} (h : elsR s = some l) : 1 ≤ l.length ∧ l.length ≤ 16 ∧ l.length * 17 = s.length := by
  unfold elsR at h
  split at h
  · cases h
  · rename_i hc
    have hl := elsL_len _ _ _ h
    have h0 : s.length ≠ 0 := fun e => hc (.inl (List.eq_nil_of_length_eq_zero e))
    omega
theorem entR_ok {s : List UInt8} {x : Ent} (h : entR s = some x) : rowB x.1 = true ∧ 1 ≤ x.2.length ∧ x.2.length ≤ 16 := by
  unfold entR at h
  split at h
  · cases h
  · rename_i p e1
    split at h
    · cases h
    · rename_i l e2
      cases h
      exact ⟨rowR_ok e1, (elsR_len e2).1, (elsR_len e2).2.1⟩
theorem hasT_false {E : List Ent} {p : List Int} (h : hasT E p = false) : p ∉ E.map Prod.fst := by
  intro hp
  obtain ⟨e, he, rfl⟩ := List.mem_map.1 hp
  unfold hasT at h
  rw [List.any_eq_false] at h
  exact h e he (by simp)
theorem hasT_find (E : List Ent) (p : List Int) : hasT E p = (findT E p).isSome := by
  unfold hasT findT
  rw [Option.isSome_map, Bool.eq_iff_iff, List.any_eq_true, List.find?_isSome]
theorem tabL_ok : ∀ (ls : List (List UInt8)) (n : Int) (acc E : List Ent), tabL ls n acc = .ok E → (∀ x ∈ acc, EntOk x) → (acc.map Prod.fst).Nodup → acc.length ≤ 4096 → (∀ x ∈ E, EntOk x) ∧ (E.map Prod.fst).Nodup ∧ E.length ≤ 4096 := by
  intro ls
  induction ls with
  | nil => intro n acc E h h1 h2 h3; simp [tabL] at h; subst h; exact ⟨h1, h2, h3⟩
  | cons s r ih =>
    intro n acc E h h1 h2 h3
    unfold tabL at h
    split at h
    · exact ih _ _ _ h h1 h2 h3
    · split at h
      · cases h
      · rename_i x hx
        split at h
        · split at h
          · cases h
          · split at h
            · cases h
            · rename_i hr ht h4
              have hk := entR_ok hx
              refine ih _ _ _ h ?_ ?_ (by simp; omega)
              · intro y hy
                rcases List.mem_append.1 hy with hy | hy
                · exact h1 y hy
                · rw [List.mem_singleton] at hy; subst hy; exact ⟨hk.1, hk.2.1, hk.2.2, hr⟩
              · rw [List.map_append, List.nodup_append]
                refine ⟨h2, by simp, ?_⟩
                intro a ha b hb e
                simp at hb
                subst hb e
                exact hasT_false (by simpa using ht) ha
        · cases h
theorem loadT_ok {s : List UInt8} {E : List Ent} (h : loadT s = .ok E) : (∀ x ∈ E, EntOk x) ∧ (E.map Prod.fst).Nodup ∧ E.length ≤ 4096 := by
  unfold loadT at h
  split at h
  · cases h
  · exact tabL_ok _ _ _ _ h (by simp) (by simp) (by simp)

end Go.Vf
