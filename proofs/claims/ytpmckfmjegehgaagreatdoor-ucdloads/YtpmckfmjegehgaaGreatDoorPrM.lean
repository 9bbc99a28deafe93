/- What is printed is read as it was (nothing is claimed here). -/
import Derived.Test.YtpmckfmjegehgaaGreatDoorMarks
namespace Go.Proofs.YtpmckfmjegehgaaGreatDoor
open Go.RowKit Go.Vf Go.Maps

/-! ### digits -/
def upDig (d : Nat) : UInt8 := Lib.upperB (lowDig d)
theorem upDig_hex : ∀ d, d < 16 → hexV (upDig d) = some d := by decide
theorem upDig_zero : ∀ d, d < 16 → upDig d = 48 → d = 0 := by decide
theorem upDig_not : ∀ d, d < 16 → upDig d ≠ 10 ∧ upDig d ≠ 32 ∧ upDig d ≠ 59 ∧ upDig d ≠ 35 := by decide
theorem hexV_all : ((List.range 256).all fun n => match hexV (UInt8.ofNat n) with
    | some d => decide (d < 16) && (UInt8.ofNat n == upDig d)
    | none => true) = true := by kernel_rfl
theorem hexV_upDig {c : UInt8} {d : Nat} (h : hexV c = some d) : d < 16 ∧ c = upDig d := by
  have := List.all_eq_true.1 hexV_all c.toNat (List.mem_range.2 c.toNat_lt)
  rw [show UInt8.ofNat c.toNat = c by simp, h] at this
  simpa using this

def padHex : Nat → Nat → List UInt8
  | 0, _ => []
  | k + 1, n => padHex k (n / 16) ++ [upDig (n % 16)]
theorem padHex_len : ∀ (k n : Nat), (padHex k n).length = k := by
  intro k
  induction k with
  | zero => intro n; rfl
  | succ k ih => intro n; simp [padHex, ih]
theorem padHex_mem : ∀ (k n : Nat), ∀ b ∈ padHex k n, ∃ d, d < 16 ∧ b = upDig d := by
  intro k
  induction k with
  | zero => intro n b hb; simp [padHex] at hb
  | succ k ih =>
    intro n b hb
    rw [padHex] at hb
    rcases List.mem_append.1 hb with hb | hb
    · exact ih _ b hb
    · simp at hb; exact ⟨_, Nat.mod_lt _ (by omega), hb⟩
theorem numB_snoc (v : UInt8 → Option Nat) (b : Nat) (c : UInt8) : ∀ (s : List UInt8) (m : Nat), numB v b (s ++ [c]) m = match numB v b s m with
    | none => none
    | some n => match v c with
      | none => none
      | some d => some (n * b + d) := by
  intro s
  induction s with
  | nil =>
    intro m
    simp only [List.nil_append, numB]
    cases v c <;> rfl
  | cons a r ih =>
    intro m
    simp only [List.cons_append, numB]
    cases v a with
    | none => rfl
    | some d => exact ih _
theorem numB_pad : ∀ (k n m : Nat), numB hexV 16 (padHex k n) m = some (m * 16 ^ k + n % 16 ^ k) := by
  intro k
  induction k with
  | zero => intro n m; simp [padHex, numB, Nat.mod_one]
  | succ k ih =>
    intro n m
    rw [padHex, numB_snoc, ih, upDig_hex _ (Nat.mod_lt _ (by omega))]
    show some _ = some _
    congr 1
    have e := @Nat.mod_mul 16 (16 ^ k) n
    rw [Nat.pow_succ, Nat.mul_comm (16 ^ k) 16, e, Nat.add_mul]
    rw [show m * (16 * 16 ^ k) = m * 16 ^ k * 16 by rw [Nat.mul_comm 16, Nat.mul_assoc]]
    omega
theorem pad_numB : ∀ (s : List UInt8) (m n : Nat), numB hexV 16 s m = some n → ∃ r, r < 16 ^ s.length ∧ n = m * 16 ^ s.length + r ∧ s = padHex s.length r := by
  intro s
  induction hk : s.length generalizing s with
  | zero =>
    intro m n h
    have : s = [] := List.length_eq_zero_iff.1 hk
    subst this
    simp [numB] at h
    exact ⟨0, by simp, by simp [h], rfl⟩
  | succ k ih =>
    intro m n h
    have hne : s ≠ [] := by intro e; subst e; simp at hk
    obtain ⟨t, c, rfl⟩ : ∃ t c, s = t ++ [c] := ⟨s.dropLast, s.getLast hne, (List.dropLast_concat_getLast hne).symm⟩
    have hkt : t.length = k := by simpa using hk
    rw [numB_snoc] at h
    cases h1 : numB hexV 16 t m with
    | none => rw [h1] at h; cases h
    | some n' =>
      rw [h1] at h
      cases h2 : hexV c with
      | none => rw [h2] at h; cases h
      | some d =>
        rw [h2] at h
        obtain ⟨hd, hc⟩ := hexV_upDig h2
        obtain ⟨r, hr, hn, ht⟩ := ih t hkt m n' h1
        have hh : n' * 16 + d = n := by simpa using h
        refine ⟨r * 16 + d, ?_, ?_, ?_⟩
        · rw [Nat.pow_succ]; omega
        · rw [← hh, hn, Nat.pow_succ, Nat.add_mul, Nat.mul_assoc]; omega
        · rw [padHex, show (r * 16 + d) / 16 = r by omega, show (r * 16 + d) % 16 = d by omega, ← ht, hc]
theorem upHex_rec (u : Nat) : upHex u = if 16 ≤ u then upHex (u / 16) ++ [upDig (u % 16)] else [upDig u] := by
  unfold upHex
  split
  · rename_i h
    rw [hexLow_big h]
    simp [Lib.toUpperA, upDig]
  · rename_i h
    rw [hexLow_small h]
    simp [Lib.toUpperA, upDig]
theorem upHex_len (u k : Nat) (h : u < 16 ^ k) (h0 : 0 < k) : (upHex u).length ≤ k := by
  unfold upHex
  rw [toUpperA_len]
  exact hexLow_len u k h h0
theorem upHex_lt : ∀ (u k : Nat), (upHex u).length ≤ k → u < 16 ^ k := by
  intro u
  induction u using Nat.strongRecOn with
  | ind u ih =>
    intro k hk
    rw [upHex_rec] at hk
    split at hk
    · rename_i h
      obtain ⟨k', rfl⟩ : ∃ k', k = k' + 1 := ⟨k - 1, by simp at hk; omega⟩
      have := ih (u / 16) (by omega) k' (by simp at hk; omega)
      rw [Nat.pow_succ]; omega
    · simp at hk
      obtain ⟨k', rfl⟩ : ∃ k', k = k' + 1 := ⟨k - 1, by omega⟩
      have := Nat.pow_pos (n := k') (show 0 < 16 by omega)
      rw [Nat.pow_succ]; omega
theorem upHex_pad : ∀ u : Nat, upHex u = padHex (upHex u).length u := by
  intro u
  induction u using Nat.strongRecOn with
  | ind u ih =>
    rw [upHex_rec]
    split
    · rename_i h
      rw [List.length_append]
      show _ = padHex ((upHex (u / 16)).length + 1) u
      rw [padHex, ← ih (u / 16) (by omega)]
    · rename_i h
      show _ = padHex 1 u
      rw [padHex, padHex, Nat.mod_eq_of_lt (by omega)]
      rfl
theorem upHex_pos (u : Nat) : 0 < (upHex u).length := by
  rw [upHex_rec]; split <;> simp
theorem padHex_zero : ∀ (k j u : Nat), u < 16 ^ k → padHex (j + k) u = List.replicate j 48 ++ padHex k u := by
  intro k
  induction k with
  | zero =>
    intro j u h
    have h0 : u = 0 := by simpa using h
    subst h0
    induction j with
    | zero => rfl
    | succ j ih =>
      show padHex (j + 0) 0 ++ [upDig 0] = _
      rw [ih, List.replicate_succ']
      show List.replicate j 48 ++ [] ++ [upDig 0] = List.replicate j 48 ++ [48] ++ []
      simp
      decide
  | succ k ih =>
    intro j u h
    rw [Nat.pow_succ] at h
    show padHex (j + k) (u / 16) ++ [_] = _
    rw [ih j (u / 16) (by omega), padHex, List.append_assoc]
theorem padHex_head : ∀ (k u : Nat), (padHex (k + 1) u).head? = some (upDig (u / 16 ^ k % 16)) := by
  intro k
  induction k with
  | zero => intro u; simp [padHex]
  | succ k ih =>
    intro u
    rw [padHex, List.head?_append, ih, Nat.div_div_eq_div_mul, Nat.pow_succ, Nat.mul_comm 16]
    rfl
theorem pointS_pad (u : Nat) : pointS u = padHex ((4 - (upHex u).length) + (upHex u).length) u := by
  unfold pointS
  rw [padHex_zero _ _ _ (upHex_lt u _ (Nat.le_refl _)), ← upHex_pad]
theorem pointS_mem {u : Nat} {b : UInt8} (h : b ∈ pointS u) : b ≠ 10 ∧ b ≠ 32 ∧ b ≠ 59 ∧ b ≠ 35 := by
  rw [pointS_pad] at h
  obtain ⟨d, hd, rfl⟩ := padHex_mem _ _ b h
  exact upDig_not d hd
theorem pointR_pointS {u : Nat} (hu : u ≤ 1114111) (hm : mayB (u : Int) = true) : pointR (pointS u) = some (u : Int) := by
  have hl6 : (upHex u).length ≤ 6 := upHex_len u 6 (by omega) (by omega)
  have hp := upHex_pos u
  have hlt := upHex_lt u _ (Nat.le_refl _)
  have hlen : (pointS u).length = (4 - (upHex u).length) + (upHex u).length := by rw [pointS_pad, padHex_len]
  unfold pointR
  rw [if_pos, pointS_pad, numB_pad]
  · have hmod : u % 16 ^ ((4 - (upHex u).length) + (upHex u).length) = u := Nat.mod_eq_of_lt (Nat.lt_of_lt_of_le hlt (Nat.pow_le_pow_right (by omega) (by omega)))
    rw [hmod, Nat.zero_mul, Nat.zero_add]
    show (if mayB (u : Int) = true then _ else _) = _
    rw [if_pos hm]
  · by_cases h4 : (upHex u).length ≤ 4
    · exact .inl (by omega)
    · refine .inr ⟨by omega, by omega, ?_⟩
      rw [pointS_pad]
      obtain ⟨k, hk⟩ : ∃ k, (upHex u).length = k + 1 := ⟨(upHex u).length - 1, by omega⟩
      have hge : 16 ^ k ≤ u := Nat.not_lt.1 fun h => by have := upHex_len u k h (by omega); omega
      rw [hk] at hlt
      rw [show (4 - (upHex u).length) + (upHex u).length = k + 1 by omega, padHex_head]
      intro e
      have e2 := upDig_zero _ (Nat.mod_lt _ (by omega)) (Option.some.inj e)
      have h1 : 1 ≤ u / 16 ^ k := (Nat.le_div_iff_mul_le (Nat.pow_pos (by omega))).2 (by omega)
      have h2 : u / 16 ^ k < 16 := (Nat.div_lt_iff_lt_mul (Nat.pow_pos (by omega))).2 (by rw [Nat.pow_succ] at hlt; omega)
      omega
theorem pointS_pointR {s : List UInt8} {p : Int} (h : pointR s = some p) : ∃ u : Nat, p = (u : Int) ∧ u ≤ 1114111 ∧ mayB (u : Int) = true ∧ s = pointS u := by
  unfold pointR at h
  split at h
  · rename_i hs
    split at h
    · cases h
    · rename_i n hn
      split at h
      · rename_i hm
        have hpn : (n : Int) = p := by simpa using h
        have hmn : n ≤ 1114111 := by
          unfold mayB at hm
          simp at hm
          omega
        obtain ⟨r, hr, hnr, hpad⟩ := pad_numB s 0 n hn
        have hrn : r = n := by simpa using hnr.symm
        subst hrn
        refine ⟨r, hpn.symm, hmn, hm, ?_⟩
        have hl := upHex_len r s.length hr (by omega)
        rw [pointS_pad]
        suffices hE : (4 - (upHex r).length) + (upHex r).length = s.length by rw [hE]; exact hpad
        rcases hs with h4 | ⟨h5, h6, hh⟩
        · omega
        · obtain ⟨k, hk⟩ : ∃ k, s.length = k + 1 := ⟨s.length - 1, by omega⟩
          have hgt : ¬ (upHex r).length ≤ k := fun hle => by
            have hlt := upHex_lt r k hle
            rw [hpad, hk, padHex_head, Nat.div_eq_of_lt hlt] at hh
            exact hh rfl
          omega
      · cases h
  · cases h

/-! ### a mark's line -/
theorem itoa_all : ((List.range 255).all fun c => (classR (Lib.itoa (c : Int)) == some (c : Int)) && (Lib.itoa (c : Int)).all (fun b => !(b == 10) && !(b == 59))) = true := by kernel_rfl
theorem classR_itoa {c : Nat} (hc : c ≤ 254) : classR (Lib.itoa (c : Int)) = some (c : Int) ∧ ∀ b ∈ Lib.itoa (c : Int), b ≠ 10 ∧ b ≠ 59 := by
  have := List.all_eq_true.1 itoa_all c (List.mem_range.2 (by omega))
  simp only [Bool.and_eq_true, beq_iff_eq, List.all_eq_true, Bool.not_eq_true', beq_eq_false_iff_ne] at this
  exact ⟨this.1, fun b hb => this.2 b hb⟩
theorem pointS_ne (u : Nat) : pointS u ≠ [] := by
  intro e
  have h1 := congrArg List.length e
  rw [pointS_pad, padHex_len] at h1
  have h2 := upHex_pos u
  simp only [List.length_nil] at h1
  omega
theorem cut_joinS : ∀ (us : List Nat), us ≠ [] → cutL 32 (joinS us) = us.map pointS := by
  intro us
  induction us with
  | nil => intro h; exact absurd rfl h
  | cons a r ih =>
    intro _
    cases r with
    | nil => rw [joinS, cutL_plain 32 _ (fun x hx => (pointS_mem hx).2.1)]; rfl
    | cons b t =>
      rw [joinS, cutL_split 32 _ _ (fun x hx => (pointS_mem hx).2.1), ih (by simp)]
      · rfl
      · simp
theorem joinS_flat : ∀ (r : List Nat) (a : Nat), joinS (a :: r) = pointS a ++ r.flatMap fun x => 32 :: pointS x := by
  intro r
  induction r with
  | nil => intro a; simp [joinS]
  | cons b t ih => intro a; rw [joinS, ih b] <;> simp
theorem joinS_ne : ∀ (us : List Nat), us ≠ [] → joinS us ≠ [] := by
  intro us h e
  cases us with
  | nil => exact h rfl
  | cons a r =>
    rw [joinS_flat] at e
    exact pointS_ne a (List.append_eq_nil_iff.1 e).1
theorem joinS_mem : ∀ (us : List Nat), ∀ b ∈ joinS us, b ≠ 10 ∧ b ≠ 59 := by
  intro us
  induction us with
  | nil => intro b hb; simp [joinS] at hb
  | cons a r ih =>
    intro b hb
    cases r with
    | nil => rw [joinS] at hb; exact ⟨(pointS_mem hb).1, (pointS_mem hb).2.2.1⟩
    | cons c t =>
      rw [joinS] at hb
      · rcases List.mem_append.1 hb with hb | hb
        · exact ⟨(pointS_mem hb).1, (pointS_mem hb).2.2.1⟩
        · rcases List.mem_cons.1 hb with rfl | hb
          · decide
          · exact ih b hb
      · simp
theorem pointsR_map : ∀ (us : List Nat), (∀ q ∈ us, q ≤ 1114111 ∧ mayB (q : Int) = true) → pointsR (us.map pointS) = some (us.map fun q : Nat => (q : Int)) := by
  intro us
  induction us with
  | nil => intro _; rfl
  | cons a r ih =>
    intro h
    obtain ⟨h1, h2⟩ := h a (by simp)
    rw [List.map_cons, pointsR, pointR_pointS h1 h2, ih (fun q hq => h q (by simp [hq]))]
    rfl
theorem partsR_joinS (us : List Nat) (h : ∀ q ∈ us, q ≤ 1114111 ∧ mayB (q : Int) = true) : partsR (joinS us) = some (us.map fun q : Nat => (q : Int)) := by
  unfold partsR
  by_cases hn : us = []
  · subst hn; rfl
  · rw [if_neg (joinS_ne us hn), cut_joinS us hn, pointsR_map us h]
theorem markR_markS {u c : Nat} {us : List Nat} (hu : u ≤ 1114111 ∧ mayB (u : Int) = true) (hc : c ≤ 254) (h : ∀ q ∈ us, q ≤ 1114111 ∧ mayB (q : Int) = true) : markR (markS u c us) = some ((u : Int), (c : Int), us.map fun q : Nat => (q : Int)) := by
  have e : markS u c us = pointS u ++ 59 :: (Lib.itoa (c : Int) ++ 59 :: joinS us) := by unfold markS; simp
  unfold markR
  rw [e, cutL_split 59 _ _ (fun x hx => (pointS_mem hx).2.2.1), cutL_split 59 _ _ (fun x hx => ((classR_itoa hc).2 x hx).2), cutL_plain 59 _ (fun x hx => (joinS_mem us x hx).2)]
  simp only [markC, pointR_pointS hu.1 hu.2, (classR_itoa hc).1, partsR_joinS us h]
theorem mayPM_may {m : PM} (h : mayPM m = true) : mayB m.point = true ∧ (∀ q ∈ m.parts, mayB q = true) ∧ 0 ≤ m.cls ∧ m.cls ≤ 254 := by
  simp only [mayPM, Bool.and_eq_true, decide_eq_true_eq, List.all_eq_true] at h
  exact ⟨h.2.1, h.1, h.2.2⟩
theorem markR_markP {m : PM} (h : mayPM m = true) : markR (markP m) = some (m.point, m.cls, m.parts) := by
  obtain ⟨h1, h2, _⟩ := mayPM_may h
  obtain ⟨u, c, us, rfl, hu, hc, hus, e⟩ := mayPM_nat h
  rw [e]
  exact markR_markS ⟨hu, h1⟩ hc fun q hq => ⟨hus q hq, h2 _ (List.mem_map.2 ⟨q, hq, rfl⟩)⟩
theorem markP_no {m : PM} (h : mayPM m = true) : (∀ b ∈ markP m, b ≠ 10) ∧ silentL (markP m) = false := by
  obtain ⟨u, c, us, rfl, hu, hc, hus, e⟩ := mayPM_nat h
  rw [e]
  have e : markS u c us = pointS u ++ 59 :: (Lib.itoa (c : Int) ++ 59 :: joinS us) := by unfold markS; simp
  rw [e]
  refine ⟨fun b hb => ?_, ?_⟩
  · simp only [List.mem_append, List.mem_cons] at hb
    rcases hb with hb | rfl | hb | rfl | hb
    · exact (pointS_mem hb).1
    · decide
    · exact ((classR_itoa hc).2 b hb).1
    · decide
    · exact (joinS_mem us b hb).1
  · cases hp : pointS u with
    | nil => exact absurd hp (pointS_ne u)
    | cons a r =>
      have := (pointS_mem (u := u) (b := a) (by rw [hp]; simp)).2.2.2
      simp [silentL, this]

/-! ### all lines -/
def textP : List PM → List UInt8
  | [] => []
  | m :: r => markP m ++ r.flatMap fun x => 10 :: markP x
theorem writeR_inv {m : PM} {r : List PM} {f : Bool} {acc t : List UInt8} (h : writeR (m :: r) f acc = some t) : m.parts.length ≤ 65536 ∧ ((if f then acc else acc ++ [10]) ++ markP m).length ≤ 65536 ∧ writeR r false ((if f then acc else acc ++ [10]) ++ markP m) = some t := by
  rw [writeR_cons] at h
  by_cases h1 : 65536 < m.parts.length
  · rw [if_pos h1] at h; cases h
  · rw [if_neg h1] at h
    by_cases h2 : 65536 < ((if f then acc else acc ++ [10]) ++ markP m).length
    · rw [if_pos h2] at h; cases h
    · rw [if_neg h2] at h
      exact ⟨by omega, by omega, h⟩
theorem writeR_text : ∀ (l : List PM) (acc t : List UInt8), writeR l false acc = some t → t = acc ++ l.flatMap fun x => 10 :: markP x := by
  intro l
  induction l with
  | nil => intro acc t h; simp [writeR] at h; subst h; simp
  | cons m r ih =>
    intro acc t h
    have := ih _ _ (writeR_inv h).2.2
    rw [this]; simp
theorem writeR_len : ∀ (l : List PM) (f : Bool) (acc t : List UInt8), writeR l f acc = some t → acc.length ≤ 65536 → t.length ≤ 65536 := by
  intro l
  induction l with
  | nil => intro f acc t h ha; simp [writeR] at h; subst h; exact ha
  | cons m r ih =>
    intro f acc t h ha
    obtain ⟨_, h2, h3⟩ := writeR_inv h
    exact ih _ _ _ h3 h2
theorem writeR_textP {l : List PM} {t : List UInt8} (h : writeR l true [] = some t) : t = textP l ∧ t.length ≤ 65536 := by
  refine ⟨?_, writeR_len _ _ _ _ h (by simp)⟩
  cases l with
  | nil => simp [writeR] at h; subst h; rfl
  | cons m r =>
    have := writeR_text _ _ _ (writeR_inv h).2.2
    rw [this]; rfl
theorem cut_textP : ∀ (r : List PM) (m : PM), (∀ x ∈ m :: r, mayPM x = true) → cutL 10 (textP (m :: r)) = (m :: r).map markP := by
  intro r
  induction r with
  | nil =>
    intro m h
    rw [textP, List.flatMap_nil, List.append_nil, cutL_plain 10 _ (markP_no (h m (by simp))).1]
    rfl
  | cons b t ih =>
    intro m h
    have e : textP (m :: b :: t) = markP m ++ 10 :: textP (b :: t) := by simp [textP]
    rw [e, cutL_split 10 _ _ (markP_no (h m (by simp))).1, ih b (fun x hx => h x (by simp at hx ⊢; exact .inr hx))]
    rfl
def marksL : List PM → Int → List Mk
  | [], _ => []
  | m :: r, n => ⟨n + 1, m.point, m.cls, m.parts⟩ :: marksL r (n + 1)
theorem marksL_points : ∀ (l : List PM) (n : Int), (marksL l n).map Mk.point = l.map PM.point := by
  intro l
  induction l with
  | nil => intro n; rfl
  | cons m r ih => intro n; simp [marksL, ih]
theorem marksL_length (l : List PM) (n : Int) : (marksL l n).length = l.length := by
  have := congrArg List.length (marksL_points l n)
  simpa using this
theorem marksL_line : ∀ (l : List PM) (n : Int), ∀ m ∈ marksL l n, n + 1 ≤ m.line ∧ m.line ≤ n + l.length := by
  intro l
  induction l with
  | nil => intro n m hm; simp [marksL] at hm
  | cons a r ih =>
    intro n m hm
    rw [marksL] at hm
    rcases List.mem_cons.1 hm with rfl | hm
    · simp; omega
    · have := ih _ m hm
      simp; omega
theorem checkR_rise : ∀ (l : List PM) (ab : Int), checkR l ab = true → (l.map PM.point).Pairwise (· < ·) ∧ ∀ m ∈ l, ab < m.point := by
  intro l
  induction l with
  | nil => intro ab _; simp
  | cons a r ih =>
    intro ab h
    unfold checkR at h
    split at h
    · cases h
    · split at h
      · obtain ⟨h1, h2⟩ := ih _ h
        refine ⟨?_, fun m hm => ?_⟩
        · rw [List.map_cons, List.pairwise_cons]
          refine ⟨fun p hp => ?_, h1⟩
          obtain ⟨m, hm, rfl⟩ := List.mem_map.1 hp
          exact h2 m hm
        · rcases List.mem_cons.1 hm with rfl | hm
          · omega
          · have := h2 m hm; omega
      · cases h
theorem linesR_marksL : ∀ (l : List PM) (n : Int) (acc : List Mk), (∀ m ∈ l, mayPM m = true) → (l.map PM.point).Pairwise (· < ·) → (∀ a ∈ acc, ∀ m ∈ l, a.point ≠ m.point) → acc.length + l.length ≤ 4096 → linesR (l.map markP) n acc = .ok (acc ++ marksL l n) := by
  intro l
  induction l with
  | nil => intro n acc _ _ _ _; simp [linesR, marksL]
  | cons m r ih =>
    intro n acc h1 h2 h3 h4
    have hm := h1 m (by simp)
    rw [List.map_cons, linesR_cons _ _ _ _ (markP_no hm).2, markR_markP hm]
    have hany : acc.any (fun x => x.point == m.point) = false := by
      rw [List.any_eq_false]
      intro a ha
      simpa using h3 a ha m (by simp)
    rw [List.map_cons, List.pairwise_cons] at h2
    simp only [List.length_cons] at h4
    show (if _ = true then _ else _) = _
    rw [if_neg (by rw [hany]; simp), if_neg (by omega), ih _ _ (fun x hx => h1 x (by simp [hx])) h2.2 ?_ (by simp; omega)]
    · simp [marksL]
    · intro a ha x hx
      rcases List.mem_append.1 ha with ha | ha
      · exact h3 a ha x (by simp [hx])
      · simp at ha; subst ha
        have := h2.1 x.point (List.mem_map.2 ⟨x, hx, rfl⟩)
        show m.point ≠ x.point
        omega
theorem markAt_marksL : ∀ (l : List PM) (n : Int), (l.map PM.point).Pairwise (· < ·) → ∀ m ∈ l, ∃ k, markAt (marksL l n) m.point = some ⟨k, m.point, m.cls, m.parts⟩ := by
  intro l
  induction l with
  | nil => intro n _ m hm; simp at hm
  | cons a r ih =>
    intro n h m hm
    rw [List.map_cons, List.pairwise_cons] at h
    unfold markAt
    rw [marksL]
    rcases List.mem_cons.1 hm with rfl | hm
    · exact ⟨n + 1, by simp⟩
    · have hlt := h.1 m.point (List.mem_map.2 ⟨m, hm, rfl⟩)
      rw [List.find?_cons_of_neg (by simp; omega)]
      exact ih (n + 1) h.2 m hm
theorem marksR_marksL (l : List PM) (n : Int) (h : (l.map PM.point).Pairwise (· < ·)) : marksR (marksL l n) = l := by
  unfold marksR
  rw [marksL_points, List.mergeSort_of_pairwise (h.imp (fun h => by simp; omega)), List.map_map]
  conv => rhs; rw [← List.map_id l]
  refine List.map_congr_left fun m hm => ?_
  obtain ⟨k, hk⟩ := markAt_marksL l n h m hm
  simp [classAt, partsAt, hk]
/-- WHAT IS PRINTED IS READ AS IT WAS, or leads back to itself, or is too long. -/
theorem printR_lines {l : List PM} {t : List UInt8} (h : printR l = .ok t) : t = textP l ∧ t.length ≤ 65536 ∧ linesR (cutL 10 t) 0 [] = .ok (marksL l 0) ∧ (l.map PM.point).Pairwise (· < ·) ∧ l.length ≤ 4096 ∧ ∀ m ∈ l, mayPM m = true := by
  unfold printR at h
  split at h
  · cases h
  · rename_i hlen
    split at h
    · rename_i hc
      obtain ⟨h1, _⟩ := checkR_rise _ _ hc
      have hmay := checkR_may _ _ hc
      cases hw : writeR l true [] with
      | none => rw [hw] at h; cases h
      | some t' =>
        rw [hw] at h
        obtain rfl : t' = t := by simpa using h
        obtain ⟨e, hl⟩ := writeR_textP hw
        refine ⟨e, hl, ?_, h1, by omega, hmay⟩
        rw [e]
        cases l with
        | nil => rfl
        | cons m r => rw [cut_textP r m hmay, linesR_marksL _ _ _ hmay h1 (by simp) (by simp at hlen ⊢; omega)]; rfl
    · cases h
theorem again_load {l : List PM} {t : List UInt8} (h : printR l = .ok t) : marksR (marksL l 0) = l ∧ ((∃ E, loadR t = .ok (marksL l 0, E)) ∨ ∃ why line, loadR t = .error (why, line) ∧ (why = 42 ∨ why = 43) ∧ 1 ≤ line ∧ line ≤ l.length) := by
  obtain ⟨_, hlen, hlines, hrise, hl, _⟩ := printR_lines h
  refine ⟨marksR_marksL l 0 hrise, ?_⟩
  obtain ⟨S, hS, _⟩ := walk_total (load_total hlen hlines).2.2.2.2
  unfold loadR
  rw [if_neg (by omega), hlines]
  simp only [hS]
  split
  · rename_i m hm
    have := marksL_line l 0 m (List.mem_of_find?_eq_some hm)
    exact .inr ⟨_, _, rfl, .inl rfl, by omega, by omega⟩
  · split
    · rename_i m hm
      have := marksL_line l 0 m (List.mem_of_find?_eq_some hm)
      exact .inr ⟨_, _, rfl, .inr rfl, by omega, by omega⟩
    · exact .inl ⟨_, rfl⟩

end Go.Proofs.YtpmckfmjegehgaaGreatDoor
