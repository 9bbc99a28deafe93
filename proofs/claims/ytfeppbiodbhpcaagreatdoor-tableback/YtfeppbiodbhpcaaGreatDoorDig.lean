/- Digits to the base 16, points' texts: plain functions (the verifier's own; no program). -/
import Derived.Test.YtfeppbiodbhpcaaGreatDoorTabM
import Derived.Lib.Case
import Derived.WalkKit
namespace Go.Vf

/-- Digits to the base 16, small letters. -/
def lowDig (d : Nat) : UInt8 := if d < 10 then UInt8.ofNat (48 + d) else UInt8.ofNat (87 + d)
def hexLow (u : Nat) : List UInt8 := if u < 16 then [lowDig u] else hexLow (u / 16) ++ [lowDig (u % 16)]
termination_by u
decreasing_by omega
theorem hexLow_big {v : Nat} (h : 16 ≤ v) : hexLow v = hexLow (v / 16) ++ [lowDig (v % 16)] := by
  rw [hexLow, if_neg (by omega)]
theorem hexLow_small {v : Nat} (h : ¬ 16 ≤ v) : hexLow v = [lowDig v] := by
  rw [hexLow, if_pos (by omega)]
/-- A point's digits. -/
def upHex (u : Nat) : List UInt8 := Lib.toUpperA (hexLow u)
def pointS (u : Nat) : List UInt8 := List.replicate (4 - (upHex u).length) 48 ++ upHex u
theorem hexLow_len : ∀ (u k : Nat), u < 16 ^ k → 0 < k → (hexLow u).length ≤ k := by
  intro u
  induction u using Nat.strongRecOn with
  | ind u ih =>
    intro k hk h0
    by_cases h : 16 ≤ u
    · rw [hexLow_big h]
      obtain ⟨k', rfl⟩ : ∃ k', k = k' + 1 := ⟨k - 1, by omega⟩
      rw [Nat.pow_succ] at hk
      have hk' : 0 < k' := by
        by_cases e : k' = 0
        · subst e; omega
        · omega
      have := ih (u / 16) (by omega) k' (by omega) hk'
      simp; omega
    · rw [hexLow_small h]; simp; omega
theorem hexLow_ascii : ∀ (u : Nat), ∀ b ∈ hexLow u, b.toNat < 128 := by
  intro u
  induction u using Nat.strongRecOn with
  | ind u ih =>
    have hl : ∀ d, d < 16 → (lowDig d).toNat < 128 := by decide
    by_cases h : 16 ≤ u
    · intro b hb
      rw [hexLow_big h] at hb
      rcases List.mem_append.1 hb with hb | hb
      · exact ih (u / 16) (by omega) b hb
      · simp at hb; subst hb; exact hl _ (Nat.mod_lt _ (by omega))
    · intro b hb
      rw [hexLow_small h] at hb
      simp at hb; subst hb; exact hl _ (by omega)
theorem toUpperA_len (l : List UInt8) : (Lib.toUpperA l).length = l.length := by simp [Lib.toUpperA]
/-- A mark's line. -/
def joinS : List Nat → List UInt8
  | [] => []
  | [u] => pointS u
  | u :: r => pointS u ++ 32 :: joinS r
theorem joinS_step (us : List Nat) : ∀ (k : Nat) (hk : k < us.length), joinS (us.take (k + 1)) = joinS (us.take k) ++ (if 0 < k then [32] else []) ++ pointS us[k] := by
  have key : ∀ (l : List Nat) (x : Nat), l ≠ [] → joinS (l ++ [x]) = joinS l ++ [32] ++ pointS x := by
    intro l
    induction l with
    | nil => intro x h; exact absurd rfl h
    | cons a r ih =>
      intro x _
      cases r with
      | nil => simp [joinS]
      | cons b t =>
        have := ih x (by simp)
        simp only [List.cons_append] at this ⊢
        rw [joinS, this]
        · simp [joinS]
        · simp
  intro k hk
  rw [List.take_succ_eq_append_getElem hk]
  by_cases h0 : k = 0
  · subst h0; simp [joinS]
  · rw [key _ _ (fun e => by
      have h1 : (us.take k).length = k := by rw [List.length_take]; omega
      rw [e] at h1
      exact h0 h1.symm), if_pos (by omega)]
theorem pointS_len (u : Nat) (hu : u ≤ 1114111) : (pointS u).length ≤ 6 ∧ 4 ≤ (pointS u).length := by
  have := hexLow_len u 6 (by omega) (by omega)
  unfold pointS upHex
  rw [List.length_append, List.length_replicate, toUpperA_len]
  omega
theorem joinS_len : ∀ (us : List Nat), (∀ u ∈ us, u ≤ 1114111) → (joinS us).length ≤ 7 * us.length := by
  intro us
  induction us with
  | nil => simp [joinS]
  | cons a r ih =>
    intro h
    have h1 := pointS_len a (h a (by simp))
    have h2 := ih (fun u hu => h u (by simp [hu]))
    cases r with
    | nil => simp [joinS]; omega
    | cons b t => rw [joinS]; · simp at h2 ⊢; omega
                  · simp
def upDig (d : Nat) : UInt8 := Lib.upperB (lowDig d)
theorem upDig_hex : ∀ d, d < 16 → hexV (upDig d) = some d := by decide
theorem upDig_zero : ∀ d, d < 16 → upDig d = 48 → d = 0 := by decide
theorem upDig_not : ∀ d, d < 16 → upDig d ≠ 10 ∧ upDig d ≠ 32 ∧ upDig d ≠ 59 ∧ upDig d ≠ 35 := by decide
theorem hexV_all : ((List.range 256).all fun n => match hexV (UInt8.ofNat n) with
    | some d => decide (d < 16) && (UInt8.ofNat n == upDig d)
    | none => true) = true := by kernel_rfl
theorem hexV_upDig {c : UInt8} {d : Nat} (h : hexV c = some d) : d < 16 ∧ c = upDig d := by
  have := List.all_eq_true.1 hexV_all c.toNat (List.mem_range.2 c.toNat_lt)
  rw [show UInt8.ofNat c.toNat = c by simp, h] at this
  simpa using this
def padHex : Nat → Nat → List UInt8
  | 0, _ => []
  | k + 1, n => padHex k (n / 16) ++ [upDig (n % 16)]
theorem padHex_len : ∀ (k n : Nat), (padHex k n).length = k := by
  intro k
  induction k with
  | zero => intro n; rfl
  | succ k ih => intro n; simp [padHex, ih]
theorem padHex_mem : ∀ (k n : Nat), ∀ b ∈ padHex k n, ∃ d, d < 16 ∧ b = upDig d := by
  intro k
  induction k with
  | zero => intro n b hb; simp [padHex] at hb
  | succ k ih =>
    intro n b hb
    rw [padHex] at hb
    rcases List.mem_append.1 hb with hb | hb
    · exact ih _ b hb
    · simp at hb; exact ⟨_, Nat.mod_lt _ (by omega), hb⟩
theorem numB_snoc (v : UInt8 → Option Nat) (b : Nat) (c : UInt8) : ∀ (s : List UInt8) (m : Nat), numB v b (s ++ [c]) m = match numB v b s m with
    | none => none
    | some n => match v c with
      | none => none
      | some d => some (n * b + d) := by
  intro s
  induction s with
  | nil =>
    intro m
    simp only [List.nil_append, numB]
    cases v c <;> rfl
  | cons a r ih =>
    intro m
    simp only [List.cons_append, numB]
    cases v a with
    | none => rfl
    | some d => exact ih _
theorem numB_pad : ∀ (k n m : Nat), numB hexV 16 (padHex k n) m = some (m * 16 ^ k + n % 16 ^ k) := by
  intro k
  induction k with
  | zero => intro n m; simp [padHex, numB, Nat.mod_one]
  | succ k ih =>
    intro n m
    rw [padHex, numB_snoc, ih, upDig_hex _ (Nat.mod_lt _ (by omega))]
    show some _ = some _
    congr 1
    have e := @Nat.mod_mul 16 (16 ^ k) n
    rw [Nat.pow_succ, Nat.mul_comm (16 ^ k) 16, e, Nat.add_mul]
    rw [show m * (16 * 16 ^ k) = m * 16 ^ k * 16 by rw [Nat.mul_comm 16, Nat.mul_assoc]]
    omega
theorem pad_numB : ∀ (s : List UInt8) (m n : Nat), numB hexV 16 s m = some n → ∃ r, r < 16 ^ s.length ∧ n = m * 16 ^ s.length + r ∧ s = padHex s.length r := by
  intro s
  induction hk : s.length generalizing s with
  | zero =>
    intro m n h
    have : s = [] := List.length_eq_zero_iff.1 hk
    subst this
    simp [numB] at h
    exact ⟨0, by simp, by simp [h], rfl⟩
  | succ k ih =>
    intro m n h
    have hne : s ≠ [] := by intro e; subst e; simp at hk
    obtain ⟨t, c, rfl⟩ : ∃ t c, s = t ++ [c] := ⟨s.dropLast, s.getLast hne, (List.dropLast_concat_getLast hne).symm⟩
    have hkt : t.length = k := by simpa using hk
    rw [numB_snoc] at h
    cases h1 : numB hexV 16 t m with
    | none => rw [h1] at h; cases h
    | some n' =>
      rw [h1] at h
      cases h2 : hexV c with
      | none => rw [h2] at h; cases h
      | some d =>
        rw [h2] at h
        obtain ⟨hd, hc⟩ := hexV_upDig h2
        obtain ⟨r, hr, hn, ht⟩ := ih t hkt m n' h1
        have hh : n' * 16 + d = n := by simpa using h
        refine ⟨r * 16 + d, ?_, ?_, ?_⟩
        · rw [Nat.pow_succ]; omega
        · rw [← hh, hn, Nat.pow_succ, Nat.add_mul, Nat.mul_assoc]; omega
        · rw [padHex, show (r * 16 + d) / 16 = r by omega, show (r * 16 + d) % 16 = d by omega, ← ht, hc]
theorem upHex_rec (u : Nat) : upHex u = if 16 ≤ u then upHex (u / 16) ++ [upDig (u % 16)] else [upDig u] := by
  unfold upHex
  split
  · rename_i h
    rw [hexLow_big h]
    simp [Lib.toUpperA, upDig]
  · rename_i h
    rw [hexLow_small h]
    simp [Lib.toUpperA, upDig]
theorem upHex_len (u k : Nat) (h : u < 16 ^ k) (h0 : 0 < k) : (upHex u).length ≤ k := by
  unfold upHex
  rw [toUpperA_len]
  exact hexLow_len u k h h0
theorem upHex_lt : ∀ (u k : Nat), (upHex u).length ≤ k → u < 16 ^ k := by
  intro u
  induction u using Nat.strongRecOn with
  | ind u ih =>
    intro k hk
    rw [upHex_rec] at hk
    split at hk
    · rename_i h
      obtain ⟨k', rfl⟩ : ∃ k', k = k' + 1 := ⟨k - 1, by simp at hk; omega⟩
      have := ih (u / 16) (by omega) k' (by simp at hk; omega)
      rw [Nat.pow_succ]; omega
    · simp at hk
      obtain ⟨k', rfl⟩ : ∃ k', k = k' + 1 := ⟨k - 1, by omega⟩
      have := Nat.pow_pos (n := k') (show 0 < 16 by omega)
      rw [Nat.pow_succ]; omega
theorem upHex_pad : ∀ u : Nat, upHex u = padHex (upHex u).length u := by
  intro u
  induction u using Nat.strongRecOn with
  | ind u ih =>
    rw [upHex_rec]
    split
    · rename_i h
      rw [List.length_append]
      show _ = padHex ((upHex (u / 16)).length + 1) u
      rw [padHex, ← ih (u / 16) (by omega)]
    · rename_i h
      show _ = padHex 1 u
      rw [padHex, padHex, Nat.mod_eq_of_lt (by omega)]
      rfl
theorem upHex_pos (u : Nat) : 0 < (upHex u).length := by
  rw [upHex_rec]; split <;> simp
theorem padHex_zero : ∀ (k j u : Nat), u < 16 ^ k → padHex (j + k) u = List.replicate j 48 ++ padHex k u := by
  intro k
  induction k with
  | zero =>
    intro j u h
    have h0 : u = 0 := by simpa using h
    subst h0
    induction j with
    | zero => rfl
    | succ j ih =>
      show padHex (j + 0) 0 ++ [upDig 0] = _
      rw [ih, List.replicate_succ']
      show List.replicate j 48 ++ [] ++ [upDig 0] = List.replicate j 48 ++ [48] ++ []
      simp
      decide
  | succ k ih =>
    intro j u h
    rw [Nat.pow_succ] at h
    show padHex (j + k) (u / 16) ++ [_] = _
    rw [ih j (u / 16) (by omega), padHex, List.append_assoc]
theorem padHex_head : ∀ (k u : Nat), (padHex (k + 1) u).head? = some (upDig (u / 16 ^ k % 16)) := by
  intro k
  induction k with
  | zero => intro u; simp [padHex]
  | succ k ih =>
    intro u
    rw [padHex, List.head?_append, ih, Nat.div_div_eq_div_mul, Nat.pow_succ, Nat.mul_comm 16]
    rfl
theorem pointS_pad (u : Nat) : pointS u = padHex ((4 - (upHex u).length) + (upHex u).length) u := by
  unfold pointS
  rw [padHex_zero _ _ _ (upHex_lt u _ (Nat.le_refl _)), ← upHex_pad]
theorem pointS_mem {u : Nat} {b : UInt8} (h : b ∈ pointS u) : b ≠ 10 ∧ b ≠ 32 ∧ b ≠ 59 ∧ b ≠ 35 := by
  rw [pointS_pad] at h
  obtain ⟨d, hd, rfl⟩ := padHex_mem _ _ b h
  exact upDig_not d hd
theorem pointS_ne (u : Nat) : pointS u ≠ [] := by
  intro e
  have h1 := congrArg List.length e
  rw [pointS_pad, padHex_len] at h1
  have h2 := upHex_pos u
  simp only [List.length_nil] at h1
  omega
theorem cut_joinS : ∀ (us : List Nat), us ≠ [] → cutL 32 (joinS us) = us.map pointS := by
  intro us
  induction us with
  | nil => intro h; exact absurd rfl h
  | cons a r ih =>
    intro _
    cases r with
    | nil => rw [joinS, cutL_plain 32 _ (fun x hx => (pointS_mem hx).2.1)]; rfl
    | cons b t =>
      rw [joinS, cutL_split 32 _ _ (fun x hx => (pointS_mem hx).2.1), ih (by simp)]
      · rfl
      · simp
theorem joinS_flat : ∀ (r : List Nat) (a : Nat), joinS (a :: r) = pointS a ++ r.flatMap fun x => 32 :: pointS x := by
  intro r
  induction r with
  | nil => intro a; simp [joinS]
  | cons b t ih => intro a; rw [joinS, ih b] <;> simp
theorem joinS_ne : ∀ (us : List Nat), us ≠ [] → joinS us ≠ [] := by
  intro us h e
  cases us with
  | nil => exact h rfl
  | cons a r =>
    rw [joinS_flat] at e
    exact pointS_ne a (List.append_eq_nil_iff.1 e).1
theorem joinS_mem : ∀ (us : List Nat), ∀ b ∈ joinS us, b ≠ 10 ∧ b ≠ 59 := by
  intro us
  induction us with
  | nil => intro b hb; simp [joinS] at hb
  | cons a r ih =>
    intro b hb
    cases r with
    | nil => rw [joinS] at hb; exact ⟨(pointS_mem hb).1, (pointS_mem hb).2.2.1⟩
    | cons c t =>
      rw [joinS] at hb
      · rcases List.mem_append.1 hb with hb | hb
        · exact ⟨(pointS_mem hb).1, (pointS_mem hb).2.2.1⟩
        · rcases List.mem_cons.1 hb with rfl | hb
          · decide
          · exact ih b hb
      · simp
theorem cut_join (c : UInt8) : ∀ (s : List UInt8), s = (match cutL c s with
    | [] => []
    | a :: r => a ++ r.flatMap fun x => c :: x) := by
  intro s
  induction s with
  | nil => simp [cutL]
  | cons b r ih =>
    cases hc : cutL c r with
    | nil => exact absurd hc (cutL_ne c r)
    | cons a t =>
      rw [hc] at ih
      simp only at ih
      by_cases hb : b = c
      · have e : cutL c (b :: r) = [] :: a :: t := by rw [cutL, if_pos hb, hc]
        rw [e]
        simp only [List.nil_append, List.flatMap_cons, List.cons_append]
        rw [← ih, hb]
      · have e : cutL c (b :: r) = (b :: a) :: t := by rw [cutL, if_neg hb, hc]
        rw [e]
        simp only [List.cons_append]
        rw [← ih]
end Go.Vf
