/- Contracts and lemmas (nothing is claimed here). -/
import Derived.Test.YtfeppbiodbhpcaaDoorJ1
import Derived.Lib.Case
import Derived.WalkKit
namespace Go.Vf

def isPtB (n : Int) : Bool := decide (0 ≤ n) && decide (n ≤ 1114111) && (decide (n < 55296) || decide (57343 < n))
/-- An element. -/
structure El where
  va : Bool
  pr : Int
  se : Int
  te : Int
deriving DecidableEq
abbrev Ent := List Int × List El
def wtB (n : Int) : Bool := decide (0 ≤ n) && decide (n ≤ 65535)
def rightB (e : El) : Bool :=
  wtB e.pr && wtB e.se && wtB e.te && decide (e.pr ≤ 64319) && !(decide (e.pr ≠ 0) && decide (e.se = 0)) && !(decide (e.se ≠ 0) && decide (e.te = 0)) && (decide (e.pr ≠ 0) || !e.va)
def hexN (s : List UInt8) : Option Nat := numB hexV 16 s 0
def ptR (s : List UInt8) : Option Int :=
  if s.length = 4 ∨ (4 < s.length ∧ s.length ≤ 6 ∧ s.head? ≠ some 48) then (hexN s).map (fun n => (n : Int)) else none
def ptsR : List (List UInt8) → Option (List Int)
  | [] => some []
  | s :: r => match ptR s with
    | none => none
    | some p => match ptsR r with
      | none => none
      | some l => some (p :: l)
def rowB (l : List Int) : Bool := decide (1 ≤ l.length) && decide (l.length ≤ 8) && l.all isPtB
def rowR (s : List UInt8) : Option (List Int) := match ptsR (cutL 32 s) with
  | none => none
  | some l => if rowB l then some l else none
def fieldR (s : List UInt8) : Option Int := match hexN s with
  | none => none
  | some n => if s.length = 4 then some (n : Int) else none
def fieldsR (va : Bool) : List (List UInt8) → Option El
  | [a, b, c] => match fieldR a with
    | none => none
    | some x => match fieldR b with
      | none => none
      | some y => match fieldR c with
        | none => none
        | some z => some ⟨va, x, y, z⟩
  | _ => none
def elR (s : List UInt8) : Option El :=
  if s[0]? = some 91 ∧ (s[1]? = some 46 ∨ s[1]? = some 42) ∧ s[16]? = some 93 then fieldsR (s[1]? == some 42) (cutL 46 ((s.drop 2).take 14)) else none
def elsL : Nat → List UInt8 → Option (List El)
  | 0, _ => some []
  | n + 1, s => match elR (s.take 17) with
    | none => none
    | some e => match elsL n (s.drop 17) with
      | none => none
      | some l => some (e :: l)
def elsR (s : List UInt8) : Option (List El) := if s = [] ∨ 272 < s.length ∨ s.length % 17 ≠ 0 then none else elsL (s.length / 17) s
/-- A text cut at the first byte of a kind. -/
def cut1 (c : UInt8) : List UInt8 → List UInt8 × List UInt8
  | [] => ([], [])
  | b :: r => if b = c then ([], r) else (b :: (cut1 c r).1, (cut1 c r).2)
def entR (s : List UInt8) : Option Ent := match rowR (cut1 59 s).1 with
  | none => none
  | some p => match elsR (cut1 59 s).2 with
    | none => none
    | some l => some (p, l)
def hasT (E : List Ent) (p : List Int) : Bool := E.any (fun e => e.1 == p)
def tabL : List (List UInt8) → Int → List Ent → Except (Int × Int) (List Ent)
  | [], _, acc => .ok acc
  | s :: r, n, acc =>
    if silentL s then tabL r (n + 1) acc else
    match entR s with
    | none => .error (60, n + 1)
    | some x =>
      if x.2.all rightB then
        if hasT acc x.1 then .error (61, n + 1)
        else if 4096 ≤ acc.length then .error (2, n + 1)
        else tabL r (n + 1) (acc ++ [x])
      else .error (62, n + 1)
def loadT (s : List UInt8) : Except (Int × Int) (List Ent) := if 65536 < s.length then .error (2, 0) else tabL (cutL 10 s) 0 []

def findT (E : List Ent) (p : List Int) : Option (List El) := (E.find? (fun e => e.1 == p)).map Prod.snd
def longT : List Ent → Int → Nat
  | [], _ => 0
  | e :: r, x => if e.1.head? = some x then max e.1.length (longT r x) else longT r x

/-- What is said of each entry. -/
structure EntOk (x : Ent) : Prop where
  row : rowB x.1 = true
  n0 : 1 ≤ x.2.length
  n1 : x.2.length ≤ 16
  ok : x.2.all rightB = true

theorem rowR_ok {s : List UInt8} {p : List Int} (h : rowR s = some p) : rowB p = true := by
  unfold rowR at h
  split at h
  · cases h
  · split at h
    · cases h; assumption
    · cases h
theorem elsL_len : ∀ (n : Nat) (s : List UInt8) (l : List El), elsL n s = some l → l.length = n := by
  intro n
  induction n with
  | zero => intro s l h; simp [elsL] at h; subst h; rfl
  | succ n ih =>
    intro s l h
    unfold elsL at h
    split at h
    · cases h
    · split at h
      · cases h
      · rename_i q e
        cases h
        simp [ih _ _ e]
theorem elsR_len {s : List UInt8} {l : List El} (h : elsR s = some l) : 1 ≤ l.length ∧ l.length ≤ 16 ∧ l.length * 17 = s.length := by
  unfold elsR at h
  split at h
  · cases h
  · rename_i hc
    have hl := elsL_len _ _ _ h
    have h0 : s.length ≠ 0 := fun e => hc (.inl (List.eq_nil_of_length_eq_zero e))
    omega
theorem entR_ok {s : List UInt8} {x : Ent} (h : entR s = some x) : rowB x.1 = true ∧ 1 ≤ x.2.length ∧ x.2.length ≤ 16 := by
  unfold entR at h
  split at h
  · cases h
  · rename_i p e1
    split at h
    · cases h
    · rename_i l e2
      cases h
      exact ⟨rowR_ok e1, (elsR_len e2).1, (elsR_len e2).2.1⟩
theorem hasT_false {E : List Ent} {p : List Int} (h : hasT E p = false) : p ∉ E.map Prod.fst := by
  intro hp
  obtain ⟨e, he, rfl⟩ := List.mem_map.1 hp
  unfold hasT at h
  rw [List.any_eq_false] at h
  exact h e he (by simp)
theorem hasT_find (E : List Ent) (p : List Int) : hasT E p = (findT E p).isSome := by
  unfold hasT findT
  rw [Option.isSome_map, Bool.eq_iff_iff, List.any_eq_true, List.find?_isSome]
theorem tabL_ok : ∀ (ls : List (List UInt8)) (n : Int) (acc E : List Ent), tabL ls n acc = .ok E → (∀ x ∈ acc, EntOk x) → (acc.map Prod.fst).Nodup → acc.length ≤ 4096 → (∀ x ∈ E, EntOk x) ∧ (E.map Prod.fst).Nodup ∧ E.length ≤ 4096 := by
  intro ls
  induction ls with
  | nil => intro n acc E h h1 h2 h3; simp [tabL] at h; subst h; exact ⟨h1, h2, h3⟩
  | cons s r ih =>
    intro n acc E h h1 h2 h3
    unfold tabL at h
    split at h
    · exact ih _ _ _ h h1 h2 h3
    · split at h
      · cases h
      · rename_i x hx
        split at h
        · split at h
          · cases h
          · split at h
            · cases h
            · rename_i hr ht h4
              have hk := entR_ok hx
              refine ih _ _ _ h ?_ ?_ (by simp; omega)
              · intro y hy
                rcases List.mem_append.1 hy with hy | hy
                · exact h1 y hy
                · rw [List.mem_singleton] at hy; subst hy; exact ⟨hk.1, hk.2.1, hk.2.2, hr⟩
              · rw [List.map_append, List.nodup_append]
                refine ⟨h2, by simp, ?_⟩
                intro a ha b hb e
                simp at hb
                subst hb e
                exact hasT_false (by simpa using ht) ha
        · cases h
theorem loadT_ok {s : List UInt8} {E : List Ent} (h : loadT s = .ok E) : (∀ x ∈ E, EntOk x) ∧ (E.map Prod.fst).Nodup ∧ E.length ≤ 4096 := by
  unfold loadT at h
  split at h
  · cases h
  · exact tabL_ok _ _ _ _ h (by simp) (by simp) (by simp)

end Go.Vf

namespace Go.Vf

/-- Digits to the base 16, small letters. -/
def lowDig (d : Nat) : UInt8 := if d < 10 then UInt8.ofNat (48 + d) else UInt8.ofNat (87 + d)
def hexLow (u : Nat) : List UInt8 := if u < 16 then [lowDig u] else hexLow (u / 16) ++ [lowDig (u % 16)]
termination_by u
decreasing_by omega
theorem hexLow_big {v : Nat} (h : 16 ≤ v) : hexLow v = hexLow (v / 16) ++ [lowDig (v % 16)] := by
  rw [hexLow, if_neg (by omega)]
theorem hexLow_small {v : Nat} (h : ¬ 16 ≤ v) : hexLow v = [lowDig v] := by
  rw [hexLow, if_pos (by omega)]
/-- A point's digits. -/
def upHex (u : Nat) : List UInt8 := Lib.toUpperA (hexLow u)
def pointS (u : Nat) : List UInt8 := List.replicate (4 - (upHex u).length) 48 ++ upHex u
theorem hexLow_len : ∀ (u k : Nat), u < 16 ^ k → 0 < k → (hexLow u).length ≤ k := by
  intro u
  induction u using Nat.strongRecOn with
  | ind u ih =>
    intro k hk h0
    by_cases h : 16 ≤ u
    · rw [hexLow_big h]
      obtain ⟨k', rfl⟩ : ∃ k', k = k' + 1 := ⟨k - 1, by omega⟩
      rw [Nat.pow_succ] at hk
      have hk' : 0 < k' := by
        by_cases e : k' = 0
        · subst e; omega
        · omega
      have := ih (u / 16) (by omega) k' (by omega) hk'
      simp; omega
    · rw [hexLow_small h]; simp; omega
theorem hexLow_ascii : ∀ (u : Nat), ∀ b ∈ hexLow u, b.toNat < 128 := by
  intro u
  induction u using Nat.strongRecOn with
  | ind u ih =>
    have hl : ∀ d, d < 16 → (lowDig d).toNat < 128 := by decide
    by_cases h : 16 ≤ u
    · intro b hb
      rw [hexLow_big h] at hb
      rcases List.mem_append.1 hb with hb | hb
      · exact ih (u / 16) (by omega) b hb
      · simp at hb; subst hb; exact hl _ (Nat.mod_lt _ (by omega))
    · intro b hb
      rw [hexLow_small h] at hb
      simp at hb; subst hb; exact hl _ (by omega)
theorem toUpperA_len (l : List UInt8) : (Lib.toUpperA l).length = l.length := by simp [Lib.toUpperA]
/-- A mark's line. -/
def joinS : List Nat → List UInt8
  | [] => []
  | [u] => pointS u
  | u :: r => pointS u ++ 32 :: joinS r
theorem joinS_step (us : List Nat) : ∀ (k : Nat) (hk : k < us.length), joinS (us.take (k + 1)) = joinS (us.take k) ++ (if 0 < k then [32] else []) ++ pointS us[k] := by
  have key : ∀ (l : List Nat) (x : Nat), l ≠ [] → joinS (l ++ [x]) = joinS l ++ [32] ++ pointS x := by
    intro l
    induction l with
    | nil => intro x h; exact absurd rfl h
    | cons a r ih =>
      intro x _
      cases r with
      | nil => simp [joinS]
      | cons b t =>
        have := ih x (by simp)
        simp only [List.cons_append] at this ⊢
        rw [joinS, this]
        · simp [joinS]
        · simp
  intro k hk
  rw [List.take_succ_eq_append_getElem hk]
  by_cases h0 : k = 0
  · subst h0; simp [joinS]
  · rw [key _ _ (fun e => by
      have h1 : (us.take k).length = k := by rw [List.length_take]; omega
      rw [e] at h1
      exact h0 h1.symm), if_pos (by omega)]
theorem pointS_len (u : Nat) (hu : u ≤ 1114111) : (pointS u).length ≤ 6 ∧ 4 ≤ (pointS u).length := by
  have := hexLow_len u 6 (by omega) (by omega)
  unfold pointS upHex
  rw [List.length_append, List.length_replicate, toUpperA_len]
  omega
theorem joinS_len : ∀ (us : List Nat), (∀ u ∈ us, u ≤ 1114111) → (joinS us).length ≤ 7 * us.length := by
  intro us
  induction us with
  | nil => simp [joinS]
  | cons a r ih =>
    intro h
    have h1 := pointS_len a (h a (by simp))
    have h2 := ih (fun u hu => h u (by simp [hu]))
    cases r with
    | nil => simp [joinS]; omega
    | cons b t => rw [joinS]; · simp at h2 ⊢; omega
                  · simp
def upDig (d : Nat) : UInt8 := Lib.upperB (lowDig d)
theorem upDig_hex : ∀ d, d < 16 → hexV (upDig d) = some d := by decide
theorem upDig_zero : ∀ d, d < 16 → upDig d = 48 → d = 0 := by decide
theorem upDig_not : ∀ d, d < 16 → upDig d ≠ 10 ∧ upDig d ≠ 32 ∧ upDig d ≠ 59 ∧ upDig d ≠ 35 := by decide
theorem hexV_all : ((List.range 256).all fun n => match hexV (UInt8.ofNat n) with
    | some d => decide (d < 16) && (UInt8.ofNat n == upDig d)
    | none => true) = true := by kernel_rfl
theorem hexV_upDig {c : UInt8} {d : Nat} (h : hexV c = some d) : d < 16 ∧ c = upDig d := by
  have := List.all_eq_true.1 hexV_all c.toNat (List.mem_range.2 c.toNat_lt)
  rw [show UInt8.ofNat c.toNat = c by simp, h] at this
  simpa using this
def padHex : Nat → Nat → List UInt8
  | 0, _ => []
  | k + 1, n => padHex k (n / 16) ++ [upDig (n % 16)]
theorem padHex_len : ∀ (k n : Nat), (padHex k n).length = k := by
  intro k
  induction k with
  | zero => intro n; rfl
  | succ k ih => intro n; simp [padHex, ih]
theorem padHex_mem : ∀ (k n : Nat), ∀ b ∈ padHex k n, ∃ d, d < 16 ∧ b = upDig d := by
  intro k
  induction k with
  | zero => intro n b hb; simp [padHex] at hb
  | succ k ih =>
    intro n b hb
    rw [padHex] at hb
    rcases List.mem_append.1 hb with hb | hb
    · exact ih _ b hb
    · simp at hb; exact ⟨_, Nat.mod_lt _ (by omega), hb⟩
theorem numB_snoc (v : UInt8 → Option Nat) (b : Nat) (c : UInt8) : ∀ (s : List UInt8) (m : Nat), numB v b (s ++ [c]) m = match numB v b s m with
    | none => none
    | some n => match v c with
      | none => none
      | some d => some (n * b + d) := by
  intro s
  induction s with
  | nil =>
    intro m
    simp only [List.nil_append, numB]
    cases v c <;> rfl
  | cons a r ih =>
    intro m
    simp only [List.cons_append, numB]
    cases v a with
    | none => rfl
    | some d => exact ih _
theorem numB_pad : ∀ (k n m : Nat), numB hexV 16 (padHex k n) m = some (m * 16 ^ k + n % 16 ^ k) := by
  intro k
  induction k with
  | zero => intro n m; simp [padHex, numB, Nat.mod_one]
  | succ k ih =>
    intro n m
    rw [padHex, numB_snoc, ih, upDig_hex _ (Nat.mod_lt _ (by omega))]
    show some _ = some _
    congr 1
    have e := @Nat.mod_mul 16 (16 ^ k) n
    rw [Nat.pow_succ, Nat.mul_comm (16 ^ k) 16, e, Nat.add_mul]
    rw [show m * (16 * 16 ^ k) = m * 16 ^ k * 16 by rw [Nat.mul_comm 16, Nat.mul_assoc]]
    omega
theorem pad_numB : ∀ (s : List UInt8) (m n : Nat), numB hexV 16 s m = some n → ∃ r, r < 16 ^ s.length ∧ n = m * 16 ^ s.length + r ∧ s = padHex s.length r := by
  intro s
  induction hk : s.length generalizing s with
  | zero =>
    intro m n h
    have : s = [] := List.length_eq_zero_iff.1 hk
    subst this
    simp [numB] at h
    exact ⟨0, by simp, by simp [h], rfl⟩
  | succ k ih =>
    intro m n h
    have hne : s ≠ [] := by intro e; subst e; simp at hk
    obtain ⟨t, c, rfl⟩ : ∃ t c, s = t ++ [c] := ⟨s.dropLast, s.getLast hne, (List.dropLast_concat_getLast hne).symm⟩
    have hkt : t.length = k := by simpa using hk
    rw [numB_snoc] at h
    cases h1 : numB hexV 16 t m with
    | none => rw [h1] at h; cases h
    | some n' =>
      rw [h1] at h
      cases h2 : hexV c with
      | none => rw [h2] at h; cases h
      | some d =>
        rw [h2] at h
        obtain ⟨hd, hc⟩ := hexV_upDig h2
        obtain ⟨r, hr, hn, ht⟩ := ih t hkt m n' h1
        have hh : n' * 16 + d = n := by simpa using h
        refine ⟨r * 16 + d, ?_, ?_, ?_⟩
        · rw [Nat.pow_succ]; omega
        · rw [← hh, hn, Nat.pow_succ, Nat.add_mul, Nat.mul_assoc]; omega
        · rw [padHex, show (r * 16 + d) / 16 = r by omega, show (r * 16 + d) % 16 = d by omega, ← ht, hc]
theorem upHex_rec (u : Nat) : upHex u = if 16 ≤ u then upHex (u / 16) ++ [upDig (u % 16)] else [upDig u] := by
  unfold upHex
  split
  · rename_i h
    rw [hexLow_big h]
    simp [Lib.toUpperA, upDig]
  · rename_i h
    rw [hexLow_small h]
    simp [Lib.toUpperA, upDig]
theorem upHex_len (u k : Nat) (h : u < 16 ^ k) (h0 : 0 < k) : (upHex u).length ≤ k := by
  unfold upHex
  rw [toUpperA_len]
  exact hexLow_len u k h h0
theorem upHex_lt : ∀ (u k : Nat), (upHex u).length ≤ k → u < 16 ^ k := by
  intro u
  induction u using Nat.strongRecOn with
  | ind u ih =>
    intro k hk
    rw [upHex_rec] at hk
    split at hk
    · rename_i h
      obtain ⟨k', rfl⟩ : ∃ k', k = k' + 1 := ⟨k - 1, by simp at hk; omega⟩
      have := ih (u / 16) (by omega) k' (by simp at hk; omega)
      rw [Nat.pow_succ]; omega
    · simp at hk
      obtain ⟨k', rfl⟩ : ∃ k', k = k' + 1 := ⟨k - 1, by omega⟩
      have := Nat.pow_pos (n := k') (show 0 < 16 by omega)
      rw [Nat.pow_succ]; omega
theorem upHex_pad : ∀ u : Nat, upHex u = padHex (upHex u).length u := by
  intro u
  induction u using Nat.strongRecOn with
  | ind u ih =>
    rw [upHex_rec]
    split
    · rename_i h
      rw [List.length_append]
      show _ = padHex ((upHex (u / 16)).length + 1) u
      rw [padHex, ← ih (u / 16) (by omega)]
    · rename_i h
      show _ = padHex 1 u
      rw [padHex, padHex, Nat.mod_eq_of_lt (by omega)]
      rfl
theorem upHex_pos (u : Nat) : 0 < (upHex u).length := by
  rw [upHex_rec]; split <;> simp
theorem padHex_zero : ∀ (k j u : Nat), u < 16 ^ k → padHex (j + k) u = List.replicate j 48 ++ padHex k u := by
  intro k
  induction k with
  | zero =>
    intro j u h
    have h0 : u = 0 := by simpa using h
    subst h0
    induction j with
    | zero => rfl
    | succ j ih =>
      show padHex (j + 0) 0 ++ [upDig 0] = _
      rw [ih, List.replicate_succ']
      show List.replicate j 48 ++ [] ++ [upDig 0] = List.replicate j 48 ++ [48] ++ []
      simp
      decide
  | succ k ih =>
    intro j u h
    rw [Nat.pow_succ] at h
    show padHex (j + k) (u / 16) ++ [_] = _
    rw [ih j (u / 16) (by omega), padHex, List.append_assoc]
theorem padHex_head : ∀ (k u : Nat), (padHex (k + 1) u).head? = some (upDig (u / 16 ^ k % 16)) := by
  intro k
  induction k with
  | zero => intro u; simp [padHex]
  | succ k ih =>
    intro u
    rw [padHex, List.head?_append, ih, Nat.div_div_eq_div_mul, Nat.pow_succ, Nat.mul_comm 16]
    rfl
theorem pointS_pad (u : Nat) : pointS u = padHex ((4 - (upHex u).length) + (upHex u).length) u := by
  unfold pointS
  rw [padHex_zero _ _ _ (upHex_lt u _ (Nat.le_refl _)), ← upHex_pad]
theorem pointS_mem {u : Nat} {b : UInt8} (h : b ∈ pointS u) : b ≠ 10 ∧ b ≠ 32 ∧ b ≠ 59 ∧ b ≠ 35 := by
  rw [pointS_pad] at h
  obtain ⟨d, hd, rfl⟩ := padHex_mem _ _ b h
  exact upDig_not d hd
theorem pointS_ne (u : Nat) : pointS u ≠ [] := by
  intro e
  have h1 := congrArg List.length e
  rw [pointS_pad, padHex_len] at h1
  have h2 := upHex_pos u
  simp only [List.length_nil] at h1
  omega
theorem cut_joinS : ∀ (us : List Nat), us ≠ [] → cutL 32 (joinS us) = us.map pointS := by
  intro us
  induction us with
  | nil => intro h; exact absurd rfl h
  | cons a r ih =>
    intro _
    cases r with
    | nil => rw [joinS, cutL_plain 32 _ (fun x hx => (pointS_mem hx).2.1)]; rfl
    | cons b t =>
      rw [joinS, cutL_split 32 _ _ (fun x hx => (pointS_mem hx).2.1), ih (by simp)]
      · rfl
      · simp
theorem joinS_flat : ∀ (r : List Nat) (a : Nat), joinS (a :: r) = pointS a ++ r.flatMap fun x => 32 :: pointS x := by
  intro r
  induction r with
  | nil => intro a; simp [joinS]
  | cons b t ih => intro a; rw [joinS, ih b] <;> simp
theorem joinS_ne : ∀ (us : List Nat), us ≠ [] → joinS us ≠ [] := by
  intro us h e
  cases us with
  | nil => exact h rfl
  | cons a r =>
    rw [joinS_flat] at e
    exact pointS_ne a (List.append_eq_nil_iff.1 e).1
theorem joinS_mem : ∀ (us : List Nat), ∀ b ∈ joinS us, b ≠ 10 ∧ b ≠ 59 := by
  intro us
  induction us with
  | nil => intro b hb; simp [joinS] at hb
  | cons a r ih =>
    intro b hb
    cases r with
    | nil => rw [joinS] at hb; exact ⟨(pointS_mem hb).1, (pointS_mem hb).2.2.1⟩
    | cons c t =>
      rw [joinS] at hb
      · rcases List.mem_append.1 hb with hb | hb
        · exact ⟨(pointS_mem hb).1, (pointS_mem hb).2.2.1⟩
        · rcases List.mem_cons.1 hb with rfl | hb
          · decide
          · exact ih b hb
      · simp
theorem cut_join (c : UInt8) : ∀ (s : List UInt8), s = (match cutL c s with
    | [] => []
    | a :: r => a ++ r.flatMap fun x => c :: x) := by
  intro s
  induction s with
  | nil => simp [cutL]
  | cons b r ih =>
    cases hc : cutL c r with
    | nil => exact absurd hc (cutL_ne c r)
    | cons a t =>
      rw [hc] at ih
      simp only at ih
      by_cases hb : b = c
      · have e : cutL c (b :: r) = [] :: a :: t := by rw [cutL, if_pos hb, hc]
        rw [e]
        simp only [List.nil_append, List.flatMap_cons, List.cons_append]
        rw [← ih, hb]
      · have e : cutL c (b :: r) = (b :: a) :: t := by rw [cutL, if_neg hb, hc]
        rw [e]
        simp only [List.cons_append]
        rw [← ih]
end Go.Vf

namespace Go.Vf

theorem ptR_pointS {u : Nat} (hu : u ≤ 1114111) : ptR (pointS u) = some (u : Int) := by
  have hl6 : (upHex u).length ≤ 6 := upHex_len u 6 (by omega) (by omega)
  have hp := upHex_pos u
  have hlt := upHex_lt u _ (Nat.le_refl _)
  have hlen : (pointS u).length = (4 - (upHex u).length) + (upHex u).length := by rw [pointS_pad, padHex_len]
  unfold ptR hexN
  rw [if_pos, pointS_pad, numB_pad]
  · have hmod : u % 16 ^ ((4 - (upHex u).length) + (upHex u).length) = u := Nat.mod_eq_of_lt (Nat.lt_of_lt_of_le hlt (Nat.pow_le_pow_right (by omega) (by omega)))
    rw [hmod, Nat.zero_mul, Nat.zero_add]
    rfl
  · by_cases h4 : (upHex u).length ≤ 4
    · exact .inl (by omega)
    · refine .inr ⟨by omega, by omega, ?_⟩
      rw [pointS_pad]
      obtain ⟨k, hk⟩ : ∃ k, (upHex u).length = k + 1 := ⟨(upHex u).length - 1, by omega⟩
      have hge : 16 ^ k ≤ u := Nat.not_lt.1 fun h => by have := upHex_len u k h (by omega); omega
      rw [hk] at hlt
      rw [show (4 - (upHex u).length) + (upHex u).length = k + 1 by omega, padHex_head]
      intro e
      have e2 := upDig_zero _ (Nat.mod_lt _ (by omega)) (Option.some.inj e)
      have h1 : 1 ≤ u / 16 ^ k := (Nat.le_div_iff_mul_le (Nat.pow_pos (by omega))).2 (by omega)
      have h2 : u / 16 ^ k < 16 := (Nat.div_lt_iff_lt_mul (Nat.pow_pos (by omega))).2 (by rw [Nat.pow_succ] at hlt; omega)
      omega
theorem pointS_ptR {s : List UInt8} {p : Int} (h : ptR s = some p) : ∃ u : Nat, p = (u : Int) ∧ s = pointS u := by
  unfold ptR hexN at h
  split at h
  · rename_i hs
    cases hn : numB hexV 16 s 0 with
    | none => rw [hn] at h; cases h
    | some n =>
      rw [hn] at h
      have hpn : (n : Int) = p := by simpa using h
      obtain ⟨r, hr, hnr, hpad⟩ := pad_numB s 0 n hn
      have hrn : r = n := by simpa using hnr.symm
      subst hrn
      refine ⟨r, hpn.symm, ?_⟩
      have hl := upHex_len r s.length hr (by omega)
      rw [pointS_pad]
      suffices hE : (4 - (upHex r).length) + (upHex r).length = s.length by rw [hE]; exact hpad
      rcases hs with h4 | ⟨h5, h6, hh⟩
      · omega
      · obtain ⟨k, hk⟩ : ∃ k, s.length = k + 1 := ⟨s.length - 1, by omega⟩
        have hgt : ¬ (upHex r).length ≤ k := fun hle => by
          have hlt := upHex_lt r k hle
          rw [hpad, hk, padHex_head, Nat.div_eq_of_lt hlt] at hh
          exact hh rfl
        omega
  · cases h

theorem upDig_not2 : ∀ d, d < 16 → upDig d ≠ 46 ∧ upDig d ≠ 91 ∧ upDig d ≠ 42 ∧ upDig d ≠ 93 := by decide
theorem pointS_mem2 {u : Nat} {b : UInt8} (h : b ∈ pointS u) : b ≠ 46 ∧ b ≠ 91 ∧ b ≠ 42 ∧ b ≠ 93 := by
  rw [pointS_pad] at h
  obtain ⟨d, hd, rfl⟩ := padHex_mem _ _ b h
  exact upDig_not2 d hd
theorem pointS_four {u : Nat} (hu : u < 65536) : pointS u = padHex 4 u := by
  have hl := upHex_len u 4 hu (by omega)
  rw [pointS_pad, show (4 - (upHex u).length) + (upHex u).length = 4 by omega]
theorem pointS_len4 {u : Nat} (hu : u < 65536) : (pointS u).length = 4 := by rw [pointS_four hu, padHex_len]
theorem fieldR_pointS {u : Nat} (hu : u < 65536) : fieldR (pointS u) = some (u : Int) := by
  unfold fieldR hexN
  rw [pointS_four hu, numB_pad]
  show (if (padHex 4 u).length = 4 then _ else _) = _
  rw [if_pos (padHex_len 4 u), Nat.mod_eq_of_lt hu, Nat.zero_mul, Nat.zero_add]
theorem pointS_fieldR {s : List UInt8} {n : Int} (h : fieldR s = some n) : ∃ u : Nat, u < 65536 ∧ n = (u : Int) ∧ s = pointS u := by
  unfold fieldR hexN at h
  split at h
  · cases h
  · rename_i m hm
    split at h
    · rename_i h4
      obtain ⟨r, hr, hnr, hpad⟩ := pad_numB s 0 m hm
      have hrn : r = m := by simpa using hnr.symm
      subst hrn
      rw [h4] at hr hpad
      refine ⟨r, by omega, by simpa using h.symm, ?_⟩
      rw [pointS_four (by omega)]
      exact hpad
    · cases h

/-- An element's text. -/
def elP (e : El) : List UInt8 := 91 :: (if e.va then 42 else 46) :: (pointS e.pr.toNat ++ 46 :: (pointS e.se.toNat ++ 46 :: (pointS e.te.toNat ++ [93])))
def wtE (e : El) : Prop := wtB e.pr = true ∧ wtB e.se = true ∧ wtB e.te = true
theorem wtB_nat {n : Int} (h : wtB n = true) : ∃ u : Nat, n = (u : Int) ∧ u < 65536 := by
  unfold wtB at h
  simp at h
  exact ⟨n.toNat, by omega, by omega⟩
theorem rightB_wt {e : El} (h : rightB e = true) : wtE e := by
  unfold rightB at h
  simp only [Bool.and_eq_true] at h
  exact ⟨h.1.1.1.1.1.1, h.1.1.1.1.1.2, h.1.1.1.1.2⟩
theorem elP_len {e : El} (h : wtE e) : (elP e).length = 17 := by
  obtain ⟨h1, h2, h3⟩ := h
  obtain ⟨a, ea, ha⟩ := wtB_nat h1
  obtain ⟨b, eb, hb⟩ := wtB_nat h2
  obtain ⟨c, ec, hc⟩ := wtB_nat h3
  unfold elP
  rw [ea, eb, ec]
  simp [pointS_len4 ha, pointS_len4 hb, pointS_len4 hc]
theorem four {l : List UInt8} (h : l.length = 4) : ∃ a b c d, l = [a, b, c, d] := by
  match l, h with
  | [a, b, c, d], _ => exact ⟨a, b, c, d, rfl⟩
theorem elR_elP {e : El} (h : wtE e) : elR (elP e) = some e := by
  obtain ⟨h1, h2, h3⟩ := h
  obtain ⟨a, ea, ha⟩ := wtB_nat h1
  obtain ⟨b, eb, hb⟩ := wtB_nat h2
  obtain ⟨c, ec, hc⟩ := wtB_nat h3
  have hA : ∀ x ∈ pointS a, x ≠ 46 := fun x hx => (pointS_mem2 hx).1
  have hB : ∀ x ∈ pointS b, x ≠ 46 := fun x hx => (pointS_mem2 hx).1
  have hC : ∀ x ∈ pointS c, x ≠ 46 := fun x hx => (pointS_mem2 hx).1
  have hcut : cutL 46 (pointS a ++ 46 :: (pointS b ++ 46 :: pointS c)) = [pointS a, pointS b, pointS c] := by
    rw [cutL_split 46 _ _ hA, cutL_split 46 _ _ hB, cutL_plain 46 _ hC]
  obtain ⟨a0, a1, a2, a3, pa⟩ := four (pointS_len4 ha)
  obtain ⟨b0, b1, b2, b3, pb⟩ := four (pointS_len4 hb)
  obtain ⟨c0, c1, c2, c3, pc⟩ := four (pointS_len4 hc)
  have fa := fieldR_pointS ha
  have fb := fieldR_pointS hb
  have fc := fieldR_pointS hc
  obtain ⟨va, pr, se, te⟩ := e
  simp only at ea eb ec
  subst ea eb ec
  unfold elP
  simp only [Int.toNat_natCast]
  simp only [pa, pb, pc] at hcut fa fb fc ⊢
  unfold elR
  rw [if_pos (by cases va <;> simp)]
  have : (List.drop 2 (91 :: (if va = true then 42 else 46) :: ([a0, a1, a2, a3] ++ 46 :: ([b0, b1, b2, b3] ++ 46 :: ([c0, c1, c2, c3] ++ [93]))))).take 14 = [a0, a1, a2, a3] ++ 46 :: ([b0, b1, b2, b3] ++ 46 :: [c0, c1, c2, c3]) := rfl
  rw [this, hcut]
  simp only [fieldsR, fa, fb, fc]
  cases va <;> simp
theorem elP_elR {s : List UInt8} {e : El} (hl : s.length = 17) (h : elR s = some e) : wtE e ∧ s = elP e := by
  unfold elR at h
  split at h
  · rename_i hc
    obtain ⟨h0, h1, h16⟩ := hc
    have hsplit : s = s.take 2 ++ ((s.drop 2).take 14 ++ s.drop 16) := by
      rw [show s.drop 16 = (s.drop 2).drop 14 by rw [List.drop_drop], List.take_append_drop, List.take_append_drop]
    have ht2 : s.take 2 = [s[0]'(by omega), s[1]'(by omega)] := by
      match s, hl with
      | a :: b :: r, _ => simp
    have hd : s.drop 16 = [93] := by
      rw [List.drop_eq_getElem_cons (by omega), List.drop_of_length_le (by omega)]
      rw [List.getElem?_eq_getElem (by omega)] at h16
      rw [Option.some.inj h16]
    rw [List.getElem?_eq_getElem (by omega)] at h0 h1
    have hj := cut_join 46 ((s.drop 2).take 14)
    unfold fieldsR at h
    split at h
    · rename_i va0 a b c hcut
      rw [hcut] at hj
      simp only at hj
      split at h
      · cases h
      · rename_i x hx
        split at h
        · cases h
        · rename_i y hy
          split at h
          · cases h
          · rename_i z hz
            obtain ⟨u, hu, rfl, rfl⟩ := pointS_fieldR hx
            obtain ⟨v, hv, rfl, rfl⟩ := pointS_fieldR hy
            obtain ⟨t, ht, rfl, rfl⟩ := pointS_fieldR hz
            have he := Option.some.inj h
            subst he
            refine ⟨⟨by simp [wtB]; omega, by simp [wtB]; omega, by simp [wtB]; omega⟩, ?_⟩
            have e0 : s[0]'(by omega) = 91 := Option.some.inj h0
            have hsp : s = ([91, s[1]'(by omega)] : List UInt8) ++ (pointS u ++ List.flatMap (fun x => 46 :: x) [pointS v, pointS t] ++ [93]) := by
              rw [← hj, ← hd, ← e0, ← ht2]
              exact hsplit
            have hq : s[1]? = some (s[1]'(by omega)) := List.getElem?_eq_getElem (by omega)
            rw [hq]
            generalize s[1]'(by omega) = q at h1 hsp
            rw [hsp]
            unfold elP
            rcases h1 with h1 | h1
            · have e1 : q = 46 := Option.some.inj h1
              rw [e1]; simp
            · have e1 : q = 42 := Option.some.inj h1
              rw [e1]; simp
    · cases h
  · cases h

def elsP (l : List El) : List UInt8 := l.flatMap elP
theorem elsP_len : ∀ (l : List El), (∀ e ∈ l, wtE e) → (elsP l).length = 17 * l.length := by
  intro l
  induction l with
  | nil => intro _; rfl
  | cons e r ih =>
    intro h
    have := ih (fun x hx => h x (by simp [hx]))
    simp only [elsP, List.flatMap_cons, List.length_append] at this ⊢
    rw [this, elP_len (h e (by simp))]
    simp; omega
theorem elsL_elsP : ∀ (l : List El) (n : Nat), n = l.length → (∀ e ∈ l, wtE e) → elsL n (elsP l) = some l := by
  intro l
  induction l with
  | nil => intro n hn _; subst hn; rfl
  | cons e r ih =>
    intro n hn h
    subst hn
    have hel := elP_len (h e (by simp))
    show elsL (r.length + 1) (elP e ++ elsP r) = _
    rw [elsL, List.take_left' hel, List.drop_left' hel, elR_elP (h e (by simp))]
    simp only
    rw [ih _ rfl (fun x hx => h x (by simp [hx]))]
theorem elsP_elsL : ∀ (n : Nat) (s : List UInt8) (l : List El), s.length = 17 * n → elsL n s = some l → s = elsP l ∧ ∀ e ∈ l, wtE e := by
  intro n
  induction n with
  | zero =>
    intro s l hs h
    simp [elsL] at h; subst h
    refine ⟨List.eq_nil_of_length_eq_zero (by omega), by simp⟩
  | succ n ih =>
    intro s l hs h
    unfold elsL at h
    split at h
    · cases h
    · rename_i e he
      split at h
      · cases h
      · rename_i q hq
        have := Option.some.inj h
        subst this
        obtain ⟨h1, h2⟩ := ih _ _ (by rw [List.length_drop]; omega) hq
        obtain ⟨h3, h4⟩ := elP_elR (by rw [List.length_take]; omega) he
        refine ⟨?_, ?_⟩
        · show s = elP e ++ elsP q
          rw [← h1, ← h4, List.take_append_drop]
        · intro x hx
          rcases List.mem_cons.1 hx with rfl | hx
          · exact h3
          · exact h2 x hx
theorem elsR_elsP {l : List El} (h0 : 1 ≤ l.length) (h1 : l.length ≤ 16) (h : ∀ e ∈ l, wtE e) : elsR (elsP l) = some l := by
  have hl := elsP_len l h
  unfold elsR
  rw [if_neg]
  · exact elsL_elsP l _ (by omega) h
  · rintro (e | e | e)
    · rw [e] at hl; simp at hl; omega
    · omega
    · omega
theorem elsP_elsR {s : List UInt8} {l : List El} (h : elsR s = some l) : s = elsP l ∧ ∀ e ∈ l, wtE e := by
  have h2 := (elsR_len h).2.2
  unfold elsR at h
  split at h
  · cases h
  · exact elsP_elsL _ _ _ (by omega) h

/-! ### cut at the first -/
theorem cut1_plain (c : UInt8) : ∀ l : List UInt8, (∀ x ∈ l, x ≠ c) → cut1 c l = (l, []) := by
  intro l
  induction l with
  | nil => intro _; rfl
  | cons b r ih =>
    intro h
    rw [cut1, if_neg (h b (by simp)), ih (fun x hx => h x (by simp [hx]))]
theorem cut1_split (c : UInt8) : ∀ (a r : List UInt8), (∀ x ∈ a, x ≠ c) → cut1 c (a ++ c :: r) = (a, r) := by
  intro a
  induction a with
  | nil => intro r _; simp [cut1]
  | cons b t ih =>
    intro r h
    rw [List.cons_append, cut1, if_neg (h b (by simp)), ih r (fun x hx => h x (by simp [hx]))]
theorem cut1_join (c : UInt8) : ∀ l : List UInt8, (l = (cut1 c l).1 ∧ (cut1 c l).2 = []) ∨ l = (cut1 c l).1 ++ c :: (cut1 c l).2 := by
  intro l
  induction l with
  | nil => exact .inl ⟨rfl, rfl⟩
  | cons b r ih =>
    by_cases h : b = c
    · subst h
      rw [cut1, if_pos rfl]
      exact .inr rfl
    · rw [cut1, if_neg h]
      rcases ih with ⟨h1, h2⟩ | h1
      · exact .inl ⟨by simp [← h1], h2⟩
      · exact .inr (by simp [← h1])
theorem cut1_len (c : UInt8) (l : List UInt8) : (cut1 c l).1.length ≤ l.length ∧ (cut1 c l).2.length ≤ l.length := by
  rcases cut1_join c l with ⟨h1, h2⟩ | h1
  · exact ⟨by rw [← h1]; exact Nat.le_refl _, by rw [h2]; simp⟩
  · have := congrArg List.length h1
    simp at this
    omega

/-! ### an entry's line -/
theorem ptsR_map : ∀ (us : List Nat), (∀ q ∈ us, q ≤ 1114111) → ptsR (us.map pointS) = some (us.map fun q : Nat => (q : Int)) := by
  intro us
  induction us with
  | nil => intro _; rfl
  | cons a r ih =>
    intro h
    rw [List.map_cons, ptsR, ptR_pointS (h a (by simp))]
    simp only
    rw [ih (fun q hq => h q (by simp [hq]))]
    rfl
theorem ptsR_line : ∀ (C : List (List UInt8)) (ps : List Int), ptsR C = some ps → C = (ps.map Int.toNat).map pointS ∧ C.length = ps.length := by
  intro C
  induction C with
  | nil => intro ps h; simp [ptsR] at h; subst h; exact ⟨rfl, rfl⟩
  | cons a r ih =>
    intro ps h
    unfold ptsR at h
    split at h
    · cases h
    · rename_i p hp
      split at h
      · cases h
      · rename_i q hq
        simp at h; subst h
        obtain ⟨u, rfl, hs⟩ := pointS_ptR hp
        obtain ⟨h1, h2⟩ := ih _ hq
        refine ⟨?_, by simp [h2]⟩
        rw [hs]
        simp only [List.map_cons, Int.toNat_natCast]
        rw [← h1]
def rowP (p : List Int) : List UInt8 := joinS (p.map Int.toNat)
theorem isPtB_nat {n : Int} (h : isPtB n = true) : ∃ u : Nat, n = (u : Int) ∧ u ≤ 1114111 := by
  unfold isPtB at h
  simp at h
  exact ⟨n.toNat, by omega, by omega⟩
theorem rowB_nat {p : List Int} (h : rowB p = true) : ∃ us : List Nat, p = us.map (fun q : Nat => (q : Int)) ∧ us ≠ [] ∧ us.length ≤ 8 ∧ ∀ q ∈ us, q ≤ 1114111 := by
  unfold rowB at h
  simp only [Bool.and_eq_true, decide_eq_true_eq, List.all_eq_true] at h
  obtain ⟨⟨h1, h2⟩, h3⟩ := h
  refine ⟨p.map Int.toNat, ?_, ?_, by simpa using h2, ?_⟩
  · rw [List.map_map]
    conv => lhs; rw [← List.map_id p]
    apply List.map_congr_left
    intro x hx
    obtain ⟨u, rfl, _⟩ := isPtB_nat (h3 x hx)
    simp
  · intro e
    have := congrArg List.length e
    simp at this
    subst this
    simp at h1
  · intro q hq
    obtain ⟨x, hx, rfl⟩ := List.mem_map.1 hq
    obtain ⟨u, rfl, h⟩ := isPtB_nat (h3 x hx)
    simpa using h
theorem toNat_map (us : List Nat) : (us.map (fun q : Nat => (q : Int))).map Int.toNat = us := by
  rw [List.map_map]
  conv => rhs; rw [← List.map_id us]
  apply List.map_congr_left
  intro x _
  simp
theorem rowR_rowP {p : List Int} (h : rowB p = true) : rowR (rowP p) = some p := by
  obtain ⟨us, rfl, hne, _, hq⟩ := rowB_nat h
  unfold rowR rowP
  rw [toNat_map, cut_joinS us hne, ptsR_map us hq]
  simp only
  rw [if_pos h]
theorem rowP_rowR {s : List UInt8} {p : List Int} (h : rowR s = some p) : s = rowP p := by
  have hb := rowR_ok h
  obtain ⟨us, rfl, hne, _, hq⟩ := rowB_nat hb
  unfold rowR at h
  split at h
  · cases h
  · rename_i l hl
    split at h
    · have := Option.some.inj h
      subst this
      obtain ⟨h1, _⟩ := ptsR_line _ _ hl
      rw [toNat_map] at h1
      unfold rowP
      rw [toNat_map]
      have hj := cut_join 32 s
      rw [h1] at hj
      cases us with
      | nil => exact absurd rfl hne
      | cons a r =>
        rw [joinS_flat]
        simp only [List.map_cons] at hj
        rw [hj, List.flatMap_map]
    · cases h
theorem rowP_mem {p : List Int} : ∀ b ∈ rowP p, b ≠ 10 ∧ b ≠ 59 := joinS_mem _
theorem elP_mem {e : El} : ∀ b ∈ elP e, b ≠ 10 := by
  intro b hb
  unfold elP at hb
  simp only [List.mem_cons, List.mem_append, List.not_mem_nil, or_false] at hb
  rcases hb with rfl | rfl | hb | rfl | hb | rfl | hb | rfl
  · decide
  · split <;> decide
  · exact (pointS_mem hb).1
  · decide
  · exact (pointS_mem hb).1
  · decide
  · exact (pointS_mem hb).1
  · decide
/-- An entry's line. -/
def entP (x : Ent) : List UInt8 := rowP x.1 ++ 59 :: elsP x.2
theorem entR_entP {x : Ent} (h : EntOk x) : entR (entP x) = some x := by
  unfold entR entP
  rw [cut1_split 59 _ _ (fun b hb => (rowP_mem b hb).2)]
  simp only
  rw [rowR_rowP h.row]
  simp only
  rw [elsR_elsP h.n0 h.n1 (fun e he => rightB_wt (List.all_eq_true.1 h.ok e he))]
theorem entP_entR {s : List UInt8} {x : Ent} (h : entR s = some x) : s = entP x := by
  unfold entR at h
  split at h
  · cases h
  · rename_i p hp
    split at h
    · cases h
    · rename_i l hl
      have := Option.some.inj h
      subst this
      unfold entP
      have h1 := rowP_rowR hp
      obtain ⟨h2, _⟩ := elsP_elsR hl
      have h3 := (elsR_len hl).2.2
      have h4 := (elsR_len hl).1
      rcases cut1_join 59 s with ⟨_, e⟩ | e
      · rw [e] at h3; simp at h3; omega
      · simp only
        rw [← h1, ← h2]
        exact e
theorem entP_no {x : Ent} (h : EntOk x) : (∀ b ∈ entP x, b ≠ 10) ∧ silentL (entP x) = false := by
  obtain ⟨us, e, hne, _, hq⟩ := rowB_nat h.row
  refine ⟨?_, ?_⟩
  · intro b hb
    unfold entP at hb
    rcases List.mem_append.1 hb with hb | hb
    · exact (rowP_mem b hb).1
    · rcases List.mem_cons.1 hb with rfl | hb
      · decide
      · unfold elsP at hb
        obtain ⟨y, _, hy⟩ := List.mem_flatMap.1 hb
        exact elP_mem b hy
  · unfold entP rowP
    rw [e, toNat_map]
    cases us with
    | nil => exact absurd rfl hne
    | cons a r =>
      rw [joinS_flat]
      cases hs : pointS a with
      | nil => exact absurd hs (pointS_ne a)
      | cons b t =>
        have : b ≠ 35 := (pointS_mem (u := a) (b := b) (by rw [hs]; simp)).2.2.2
        simp [silentL, this]

end Go.Vf
