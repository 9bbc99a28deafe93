/- What the contracts of the document's answer lean on (lemmas; nothing is claimed here). -/
import Derived.Test.YtadbkkakjekopaaDoorPlain
import Derived.Test.YtadbkkakjekopaaDoorShelf
import Derived.Lib.Case
import Derived.Lib.ItoaNum
import Derived.Sort.Row
import Derived.Deep.CutRange
import Derived.Lib.AppendStr
import Derived.ProofKit
import Derived.OpenShut
import Derived.Deep.Slices
import Derived.SizedLaws
import Derived.Deep.Upon
namespace Go.Proofs.YtadbkkakjekopaaDoor
open Go.RowKit Go.Vf Go.Maps
/-- Digits to the base 16, small letters. -/
def lowDig (d : Nat) : UInt8 := if d < 10 then UInt8.ofNat (48 + d) else UInt8.ofNat (87 + d)
def hexLow (u : Nat) : List UInt8 := if u < 16 then [lowDig u] else hexLow (u / 16) ++ [lowDig (u % 16)]
termination_by u
decreasing_by omega
theorem hexLow_big {v : Nat} (h : 16 ≤ v) : hexLow v = hexLow (v / 16) ++ [lowDig (v % 16)] := by
  rw [hexLow, if_neg (by omega)]
theorem hexLow_small {v : Nat} (h : ¬ 16 ≤ v) : hexLow v = [lowDig v] := by
  rw [hexLow, if_pos (by omega)]
end Go.Proofs.YtadbkkakjekopaaDoor
namespace Go.Proofs.YtadbkkakjekopaaDoor
open Go.RowKit Go.Vf Go.Maps
/-- A point's digits. -/
def upHex (u : Nat) : List UInt8 := Lib.toUpperA (hexLow u)
def pointS (u : Nat) : List UInt8 := List.replicate (4 - (upHex u).length) 48 ++ upHex u
theorem hexLow_len : ∀ (u k : Nat), u < 16 ^ k → 0 < k → (hexLow u).length ≤ k := by
  intro u
  induction u using Nat.strongRecOn with
  | ind u ih =>
    intro k hk h0
    by_cases h : 16 ≤ u
    · rw [hexLow_big h]
      obtain ⟨k', rfl⟩ : ∃ k', k = k' + 1 := ⟨k - 1, by omega⟩
      rw [Nat.pow_succ] at hk
      have hk' : 0 < k' := by
        by_cases e : k' = 0
        · subst e; omega
        · omega
      have := ih (u / 16) (by omega) k' (by omega) hk'
      simp; omega
    · rw [hexLow_small h]; simp; omega
theorem toUpperA_len (l : List UInt8) : (Lib.toUpperA l).length = l.length := by simp [Lib.toUpperA]
end Go.Proofs.YtadbkkakjekopaaDoor
namespace Go.Vf
/-- A mark, as it is printed. -/
structure PM where
  point : Int
  cls : Int
  parts : List Int
end Go.Vf
namespace Go.Proofs.YtadbkkakjekopaaDoor
open Go.RowKit Go.Vf Go.Maps
/-- Marks in memory. -/
def MIn (n₀ : Nat) (w : World) (v : Value) (l : List PM) : Prop :=
  (∃ a cap, v = .slice a 0 cap ∧ l = []) ∨ ∃ b off cap, v = .slice (some ⟨b, off, none⟩) l.length cap ∧ b < n₀ ∧ ∀ j (hj : j < l.length), ∃ pa pk pc, w.cell? ⟨b, off + j * 3, none⟩ = some (.int .i64 l[j].point) ∧ w.cell? ⟨b, off + j * 3 + 1, none⟩ = some (.int .i64 l[j].cls) ∧
    w.cell? ⟨b, off + j * 3 + 2, none⟩ = some (.slice pa pk pc) ∧ Ints n₀ w (.slice pa pk pc) l[j].parts
theorem MIn.val {n₀ : Nat} {w : World} {v : Value} {l : List PM} (h : MIn n₀ w v l) : ∃ a cap, v = .slice a l.length cap := by
  rcases h with ⟨a, cap, rfl, rfl⟩ | ⟨b, off, cap, rfl, _⟩
  · exact ⟨_, _, rfl⟩
  · exact ⟨_, _, rfl⟩
theorem MIn.below {n₀ n : Nat} {w w' : World} {v : Value} {l : List PM} (h : MIn n₀ w v l) (hb : Below n w w') (hn : n₀ ≤ n) : MIn n₀ w' v l := by
  rcases h with h | ⟨b, off, cap, e, hlt, hc⟩
  · exact .inl h
  · refine .inr ⟨b, off, cap, e, hlt, fun j hj => ?_⟩
    obtain ⟨pa, pk, pc, h1, h2, h3, h4⟩ := hc j hj
    exact ⟨pa, pk, pc, (hb.cell (p := ⟨b, _, none⟩) (show b < n by omega)).trans h1, (hb.cell (p := ⟨b, _, none⟩) (show b < n by omega)).trans h2, (hb.cell (p := ⟨b, _, none⟩) (show b < n by omega)).trans h3, h4.below hb hn⟩
theorem MIn.at {n₀ : Nat} {w : World} {a : Option Addr} {k cap : Nat} {l : List PM} (h : MIn n₀ w (.slice a k cap) l) {j : Nat} (hj : j < l.length) : ∃ b off, a = some ⟨b, off, none⟩ ∧ ∃ pa pk pc, w.cell? ⟨b, off + j * 3, none⟩ = some (.int .i64 l[j].point) ∧ w.cell? ⟨b, off + j * 3 + 1, none⟩ = some (.int .i64 l[j].cls) ∧
    w.cell? ⟨b, off + j * 3 + 2, none⟩ = some (.slice pa pk pc) ∧ Ints n₀ w (.slice pa pk pc) l[j].parts := by
  rcases h with ⟨a', cap', e, rfl⟩ | ⟨b, off, cap', e, hlt, hc⟩
  · simp at hj
  · simp only [Value.slice.injEq] at e
    exact ⟨b, off, e.1, hc j hj⟩
end Go.Proofs.YtadbkkakjekopaaDoor
namespace Go.Vf
/-- The marks of all lines, by rising points. -/
def marksR (L : List Mk) : List PM := ((L.map Mk.point).mergeSort (fun x y => decide (x ≤ y))).map fun p => ⟨p, classAt L p, partsAt L p⟩
end Go.Vf
namespace Go.Proofs.YtadbkkakjekopaaDoor
open Go.RowKit Go.Vf Go.Maps Go.Sort Go.Shelf
theorem info36 : (Tryd.prog.info? 61).map (fun i => (i.zero, i.size, i.bytes)) = some (some (.agg #[.int .i64 0, .int .i64 0, .slice none 0 0]), 3, 40) := by kernel_rfl
/-- Marks that the call owns, each with its list's value. -/
def flatM (ps : List (PM × Value)) : List Value := ps.flatMap fun x => [.int .i64 x.1.point, .int .i64 x.1.cls, x.2]
def MOwn (w : World) (base : Nat) (v : Value) (ps : List (PM × Value)) : Prop := w.ownsRow base 61 3 v ps.length (flatM ps) ∧ ∀ x ∈ ps, IOwn w base x.2 x.1.parts
theorem flatM_at (ps : List (PM × Value)) : ∀ (j : Nat) (hj : j < ps.length), (flatM ps)[j * 3]? = some (.int .i64 ps[j].1.point) ∧ (flatM ps)[j * 3 + 1]? = some (.int .i64 ps[j].1.cls) ∧ (flatM ps)[j * 3 + 2]? = some ps[j].2 := by
  induction ps with
  | nil => intro j hj; simp at hj
  | cons a r ih =>
    intro j hj
    have e : flatM (a :: r) = .int .i64 a.1.point :: .int .i64 a.1.cls :: a.2 :: flatM r := by simp [flatM]
    rw [e]
    cases j with
    | zero => simp
    | succ j =>
      have := ih j (by simpa using hj)
      rw [show (j + 1) * 3 = j * 3 + 1 + 1 + 1 by omega]
      simpa using this
theorem MOwn.min {w : World} {base : Nat} {v : Value} {ps : List (PM × Value)} (h : MOwn w base v ps) : MIn w.heap.size w v (ps.map Prod.fst) := by
  rcases h.1.2 with ⟨rfl, h0⟩ | ⟨g, cap, cur, rfl, _, hg, _, _, _, ht⟩
  · exact .inl ⟨_, _, rfl, by rw [List.eq_nil_of_length_eq_zero h0]; rfl⟩
  · refine .inr ⟨g, 0, cap, by simp, (Array.getElem?_eq_some_iff.1 hg).1, fun j hj => ?_⟩
    have hj' : j < ps.length := by simpa using hj
    obtain ⟨h1, h2, h3⟩ := flatM_at ps j hj'
    rw [← ht] at h1 h2 h3
    rw [List.getElem?_take_of_lt (by omega)] at h1 h2 h3
    have hi := h.2 ps[j] (List.getElem_mem hj')
    obtain ⟨pa, pc, hv⟩ := hi.val
    refine ⟨pa, ps[j].1.parts.length, pc, ?_, ?_, ?_, ?_⟩
    · simp only [World.cell?, hg, Nat.zero_add, List.getElem_map]; simpa using h1
    · simp only [World.cell?, hg, Nat.zero_add, List.getElem_map]; simpa using h2
    · simp only [World.cell?, hg, Nat.zero_add]; rw [← hv]; simpa using h3
    · rw [← hv]; simpa using hi.ints
end Go.Proofs.YtadbkkakjekopaaDoor
namespace Go.Proofs.YtadbkkakjekopaaDoor
open Go.RowKit Go.Vf Go.Maps Go.Sort
theorem marksR_length (L : List Mk) : (marksR L).length = L.length := by
  unfold marksR
  rw [List.length_map, List.length_mergeSort, List.length_map]
end Go.Proofs.YtadbkkakjekopaaDoor
namespace Go.Proofs.YtadbkkakjekopaaDoor
open Go.RowKit Go.Vf Go.Maps
def upDig (d : Nat) : UInt8 := Lib.upperB (lowDig d)
theorem upDig_hex : ∀ d, d < 16 → hexV (upDig d) = some d := by decide
theorem upDig_zero : ∀ d, d < 16 → upDig d = 48 → d = 0 := by decide
theorem hexV_all : ((List.range 256).all fun n => match hexV (UInt8.ofNat n) with
    | some d => decide (d < 16) && (UInt8.ofNat n == upDig d)
    | none => true) = true := by kernel_rfl
theorem hexV_upDig {c : UInt8} {d : Nat} (h : hexV c = some d) : d < 16 ∧ c = upDig d := by
  have := List.all_eq_true.1 hexV_all c.toNat (List.mem_range.2 c.toNat_lt)
  rw [show UInt8.ofNat c.toNat = c by simp, h] at this
  simpa using this
def padHex : Nat → Nat → List UInt8
  | 0, _ => []
  | k + 1, n => padHex k (n / 16) ++ [upDig (n % 16)]
theorem padHex_len : ∀ (k n : Nat), (padHex k n).length = k := by
  intro k
  induction k with
  | zero => intro n; rfl
  | succ k ih => intro n; simp [padHex, ih]
theorem numB_snoc (v : UInt8 → Option Nat) (b : Nat) (c : UInt8) : ∀ (s : List UInt8) (m : Nat), numB v b (s ++ [c]) m = match numB v b s m with
    | none => none
    | some n => match v c with
      | none => none
      | some d => some (n * b + d) := by
  intro s
  induction s with
  | nil =>
    intro m
    simp only [List.nil_append, numB]
    cases v c <;> rfl
  | cons a r ih =>
    intro m
    simp only [List.cons_append, numB]
    cases v a with
    | none => rfl
    | some d => exact ih _
theorem numB_pad : ∀ (k n m : Nat), numB hexV 16 (padHex k n) m = some (m * 16 ^ k + n % 16 ^ k) := by
  intro k
  induction k with
  | zero => intro n m; simp [padHex, numB, Nat.mod_one]
  | succ k ih =>
    intro n m
    rw [padHex, numB_snoc, ih, upDig_hex _ (Nat.mod_lt _ (by omega))]
    show some _ = some _
    congr 1
    have e := @Nat.mod_mul 16 (16 ^ k) n
    rw [Nat.pow_succ, Nat.mul_comm (16 ^ k) 16, e, Nat.add_mul]
    rw [show m * (16 * 16 ^ k) = m * 16 ^ k * 16 by rw [Nat.mul_comm 16, Nat.mul_assoc]]
    omega
theorem pad_numB : ∀ (s : List UInt8) (m n : Nat), numB hexV 16 s m = some n → ∃ r, r < 16 ^ s.length ∧ n = m * 16 ^ s.length + r ∧ s = padHex s.length r := by
  intro s
  induction hk : s.length generalizing s with
  | zero =>
    intro m n h
    have : s = [] := List.length_eq_zero_iff.1 hk
    subst this
    simp [numB] at h
    exact ⟨0, by simp, by simp [h], rfl⟩
  | succ k ih =>
    intro m n h
    have hne : s ≠ [] := by intro e; subst e; simp at hk
    obtain ⟨t, c, rfl⟩ : ∃ t c, s = t ++ [c] := ⟨s.dropLast, s.getLast hne, (List.dropLast_concat_getLast hne).symm⟩
    have hkt : t.length = k := by simpa using hk
    rw [numB_snoc] at h
    cases h1 : numB hexV 16 t m with
    | none => rw [h1] at h; cases h
    | some n' =>
      rw [h1] at h
      cases h2 : hexV c with
      | none => rw [h2] at h; cases h
      | some d =>
        rw [h2] at h
        obtain ⟨hd, hc⟩ := hexV_upDig h2
        obtain ⟨r, hr, hn, ht⟩ := ih t hkt m n' h1
        have hh : n' * 16 + d = n := by simpa using h
        refine ⟨r * 16 + d, ?_, ?_, ?_⟩
        · rw [Nat.pow_succ]; omega
        · rw [← hh, hn, Nat.pow_succ, Nat.add_mul, Nat.mul_assoc]; omega
        · rw [padHex, show (r * 16 + d) / 16 = r by omega, show (r * 16 + d) % 16 = d by omega, ← ht, hc]
theorem upHex_rec (u : Nat) : upHex u = if 16 ≤ u then upHex (u / 16) ++ [upDig (u % 16)] else [upDig u] := by
  unfold upHex
  split
  · rename_i h
    rw [hexLow_big h]
    simp [Lib.toUpperA, upDig]
  · rename_i h
    rw [hexLow_small h]
    simp [Lib.toUpperA, upDig]
theorem upHex_len (u k : Nat) (h : u < 16 ^ k) (h0 : 0 < k) : (upHex u).length ≤ k := by
  unfold upHex
  rw [toUpperA_len]
  exact hexLow_len u k h h0
theorem upHex_lt : ∀ (u k : Nat), (upHex u).length ≤ k → u < 16 ^ k := by
  intro u
  induction u using Nat.strongRecOn with
  | ind u ih =>
    intro k hk
    rw [upHex_rec] at hk
    split at hk
    · rename_i h
      obtain ⟨k', rfl⟩ : ∃ k', k = k' + 1 := ⟨k - 1, by simp at hk; omega⟩
      have := ih (u / 16) (by omega) k' (by simp at hk; omega)
      rw [Nat.pow_succ]; omega
    · simp at hk
      obtain ⟨k', rfl⟩ : ∃ k', k = k' + 1 := ⟨k - 1, by omega⟩
      have := Nat.pow_pos (n := k') (show 0 < 16 by omega)
      rw [Nat.pow_succ]; omega
theorem upHex_pad : ∀ u : Nat, upHex u = padHex (upHex u).length u := by
  intro u
  induction u using Nat.strongRecOn with
  | ind u ih =>
    rw [upHex_rec]
    split
    · rename_i h
      rw [List.length_append]
      show _ = padHex ((upHex (u / 16)).length + 1) u
      rw [padHex, ← ih (u / 16) (by omega)]
    · rename_i h
      show _ = padHex 1 u
      rw [padHex, padHex, Nat.mod_eq_of_lt (by omega)]
      rfl
theorem upHex_pos (u : Nat) : 0 < (upHex u).length := by
  rw [upHex_rec]; split <;> simp
theorem padHex_zero : ∀ (k j u : Nat), u < 16 ^ k → padHex (j + k) u = List.replicate j 48 ++ padHex k u := by
  intro k
  induction k with
  | zero =>
    intro j u h
    have h0 : u = 0 := by simpa using h
    subst h0
    induction j with
    | zero => rfl
    | succ j ih =>
      show padHex (j + 0) 0 ++ [upDig 0] = _
      rw [ih, List.replicate_succ']
      show List.replicate j 48 ++ [] ++ [upDig 0] = List.replicate j 48 ++ [48] ++ []
      simp
      decide
  | succ k ih =>
    intro j u h
    rw [Nat.pow_succ] at h
    show padHex (j + k) (u / 16) ++ [_] = _
    rw [ih j (u / 16) (by omega), padHex, List.append_assoc]
theorem padHex_head : ∀ (k u : Nat), (padHex (k + 1) u).head? = some (upDig (u / 16 ^ k % 16)) := by
  intro k
  induction k with
  | zero => intro u; simp [padHex]
  | succ k ih =>
    intro u
    rw [padHex, List.head?_append, ih, Nat.div_div_eq_div_mul, Nat.pow_succ, Nat.mul_comm 16]
    rfl
theorem pointS_pad (u : Nat) : pointS u = padHex ((4 - (upHex u).length) + (upHex u).length) u := by
  unfold pointS
  rw [padHex_zero _ _ _ (upHex_lt u _ (Nat.le_refl _)), ← upHex_pad]
theorem pointR_pointS {u : Nat} (hu : u ≤ 1114111) (hm : mayB (u : Int) = true) : pointR (pointS u) = some (u : Int) := by
  have hl6 : (upHex u).length ≤ 6 := upHex_len u 6 (by omega) (by omega)
  have hp := upHex_pos u
  have hlt := upHex_lt u _ (Nat.le_refl _)
  have hlen : (pointS u).length = (4 - (upHex u).length) + (upHex u).length := by rw [pointS_pad, padHex_len]
  unfold pointR
  rw [if_pos, pointS_pad, numB_pad]
  · have hmod : u % 16 ^ ((4 - (upHex u).length) + (upHex u).length) = u := Nat.mod_eq_of_lt (Nat.lt_of_lt_of_le hlt (Nat.pow_le_pow_right (by omega) (by omega)))
    rw [hmod, Nat.zero_mul, Nat.zero_add]
    show (if mayB (u : Int) = true then _ else _) = _
    rw [if_pos hm]
  · by_cases h4 : (upHex u).length ≤ 4
    · exact .inl (by omega)
    · refine .inr ⟨by omega, by omega, ?_⟩
      rw [pointS_pad]
      obtain ⟨k, hk⟩ : ∃ k, (upHex u).length = k + 1 := ⟨(upHex u).length - 1, by omega⟩
      have hge : 16 ^ k ≤ u := Nat.not_lt.1 fun h => by have := upHex_len u k h (by omega); omega
      rw [hk] at hlt
      rw [show (4 - (upHex u).length) + (upHex u).length = k + 1 by omega, padHex_head]
      intro e
      have e2 := upDig_zero _ (Nat.mod_lt _ (by omega)) (Option.some.inj e)
      have h1 : 1 ≤ u / 16 ^ k := (Nat.le_div_iff_mul_le (Nat.pow_pos (by omega))).2 (by omega)
      have h2 : u / 16 ^ k < 16 := (Nat.div_lt_iff_lt_mul (Nat.pow_pos (by omega))).2 (by rw [Nat.pow_succ] at hlt; omega)
      omega
theorem pointS_pointR {s : List UInt8} {p : Int} (h : pointR s = some p) : ∃ u : Nat, p = (u : Int) ∧ u ≤ 1114111 ∧ mayB (u : Int) = true ∧ s = pointS u := by
  unfold pointR at h
  split at h
  · rename_i hs
    split at h
    · cases h
    · rename_i n hn
      split at h
      · rename_i hm
        have hpn : (n : Int) = p := by simpa using h
        have hmn : n ≤ 1114111 := by
          unfold mayB at hm
          simp at hm
          omega
        obtain ⟨r, hr, hnr, hpad⟩ := pad_numB s 0 n hn
        have hrn : r = n := by simpa using hnr.symm
        subst hrn
        refine ⟨r, hpn.symm, hmn, hm, ?_⟩
        have hl := upHex_len r s.length hr (by omega)
        rw [pointS_pad]
        suffices hE : (4 - (upHex r).length) + (upHex r).length = s.length by rw [hE]; exact hpad
        rcases hs with h4 | ⟨h5, h6, hh⟩
        · omega
        · obtain ⟨k, hk⟩ : ∃ k, s.length = k + 1 := ⟨s.length - 1, by omega⟩
          have hgt : ¬ (upHex r).length ≤ k := fun hle => by
            have hlt := upHex_lt r k hle
            rw [hpad, hk, padHex_head, Nat.div_eq_of_lt hlt] at hh
            exact hh rfl
          omega
      · cases h
  · cases h
theorem itoa_all : ((List.range 255).all fun c => (classR (Lib.itoa (c : Int)) == some (c : Int)) && (Lib.itoa (c : Int)).all (fun b => !(b == 10) && !(b == 59))) = true := by kernel_rfl
theorem classR_itoa {c : Nat} (hc : c ≤ 254) : classR (Lib.itoa (c : Int)) = some (c : Int) ∧ ∀ b ∈ Lib.itoa (c : Int), b ≠ 10 ∧ b ≠ 59 := by
  have := List.all_eq_true.1 itoa_all c (List.mem_range.2 (by omega))
  simp only [Bool.and_eq_true, beq_iff_eq, List.all_eq_true, Bool.not_eq_true', beq_eq_false_iff_ne] at this
  exact ⟨this.1, fun b hb => this.2 b hb⟩
end Go.Proofs.YtadbkkakjekopaaDoor
namespace Go.Proofs.YtadbkkakjekopaaDoor
open Go.RowKit Go.Vf Go.Maps
def itoaS (c : Nat) : List UInt8 := if c < 10 then [UInt8.ofNat (48 + c)] else if c < 100 then [UInt8.ofNat (48 + c / 10), UInt8.ofNat (48 + c % 10)] else [UInt8.ofNat (48 + c / 100), UInt8.ofNat (48 + c / 10 % 10), UInt8.ofNat (48 + c % 10)]
theorem itoaS_all : ((List.range 255).all fun c => Lib.itoa (c : Int) == itoaS c) = true := by kernel_rfl
theorem itoa_eq {c : Nat} (hc : c ≤ 254) : Lib.itoa (c : Int) = itoaS c := by
  have := List.all_eq_true.1 itoaS_all c (List.mem_range.2 (by omega))
  simpa using this
theorem decV_dig {c : UInt8} {d : Nat} (h : decV c = some d) : d < 10 ∧ c = UInt8.ofNat (48 + d) ∧ (d = 0 → c = 48) := by
  unfold decV at h
  split at h
  · rename_i hh
    simp only [Option.some.injEq] at h
    have hc : c = UInt8.ofNat (48 + d) := by
      apply UInt8.toNat_inj.1
      rw [UInt8.toNat_ofNat']
      omega
    refine ⟨by omega, hc, fun e => ?_⟩
    subst e
    exact hc
  · cases h
theorem itoa_classR {s : List UInt8} {k : Int} (h : classR s = some k) : ∃ c : Nat, k = (c : Int) ∧ c ≤ 254 ∧ s = Lib.itoa (c : Int) := by
  unfold classR at h
  split at h
  · rename_i hs
    split at h
    · cases h
    · rename_i n hn
      split at h
      · rename_i hle
        refine ⟨n, by simpa using h.symm, hle, ?_⟩
        rw [itoa_eq hle]
        rcases hs with rfl | ⟨h1, h2, h3⟩
        · simp [numB, decV] at hn
          subst hn
          rfl
        · match s, h1, h2, h3, hn with
          | [a], _, h2, _, hn =>
            simp only [numB] at hn
            cases ha : decV a with
            | none => rw [ha] at hn; cases hn
            | some d =>
              rw [ha] at hn
              obtain ⟨q1, q2, _⟩ := decV_dig ha
              have e : 0 * 10 + d = n := by simpa using hn
              subst e
              unfold itoaS
              rw [if_pos (by omega), q2]
              simp
          | [a, b], _, h2, _, hn =>
            simp only [numB] at hn
            cases ha : decV a with
            | none => rw [ha] at hn; cases hn
            | some d =>
              rw [ha] at hn
              simp only at hn
              cases hb : decV b with
              | none => rw [hb] at hn; cases hn
              | some d2 =>
                rw [hb] at hn
                obtain ⟨q1, q2, q3⟩ := decV_dig ha
                obtain ⟨r1, r2, _⟩ := decV_dig hb
                have e : (0 * 10 + d) * 10 + d2 = n := by simpa using hn
                have hd : d ≠ 0 := fun e0 => by rw [q3 e0] at h2; simp at h2
                subst e
                unfold itoaS
                rw [if_neg (by omega), if_pos (by omega), q2, r2, show ((0 * 10 + d) * 10 + d2) / 10 = d by omega, show ((0 * 10 + d) * 10 + d2) % 10 = d2 by omega]
          | [a, b, c], _, h2, _, hn =>
            simp only [numB] at hn
            cases ha : decV a with
            | none => rw [ha] at hn; cases hn
            | some d =>
              rw [ha] at hn
              simp only at hn
              cases hb : decV b with
              | none => rw [hb] at hn; cases hn
              | some d2 =>
                rw [hb] at hn
                simp only at hn
                cases hc : decV c with
                | none => rw [hc] at hn; cases hn
                | some d3 =>
                  rw [hc] at hn
                  obtain ⟨q1, q2, q3⟩ := decV_dig ha
                  obtain ⟨r1, r2, _⟩ := decV_dig hb
                  obtain ⟨s1, s2, _⟩ := decV_dig hc
                  have e : ((0 * 10 + d) * 10 + d2) * 10 + d3 = n := by simpa using hn
                  have hd : d ≠ 0 := fun e0 => by rw [q3 e0] at h2; simp at h2
                  subst e
                  unfold itoaS
                  rw [if_neg (by omega), if_neg (by omega), q2, r2, s2, show (((0 * 10 + d) * 10 + d2) * 10 + d3) / 100 = d by omega, show (((0 * 10 + d) * 10 + d2) * 10 + d3) / 10 % 10 = d2 by omega, show (((0 * 10 + d) * 10 + d2) * 10 + d3) % 10 = d3 by omega]
          | a :: b :: c :: x :: r, _, _, h3, _ => simp at h3
      · cases h
  · cases h
def pmOf (m : Mk) : PM := ⟨m.point, m.cls, m.parts⟩
theorem markAt_of_mem {L : List Mk} {m : Mk} (hnd : (L.map Mk.point).Nodup) (hm : m ∈ L) : markAt L m.point = some m := by
  unfold markAt
  induction L with
  | nil => simp at hm
  | cons a r ih =>
    rw [List.map_cons, List.nodup_cons] at hnd
    rcases List.mem_cons.1 hm with rfl | hm
    · simp
    · rw [List.find?_cons_of_neg]
      · exact ih hnd.2 hm
      · simp only [beq_iff_eq]
        intro e
        exact hnd.1 (List.mem_map.2 ⟨m, hm, e.symm⟩)
theorem marksR_perm {L : List Mk} (hnd : (L.map Mk.point).Nodup) : (marksR L).Perm (L.map pmOf) := by
  unfold marksR
  refine ((List.mergeSort_perm (L.map Mk.point) _).map _).trans ?_
  rw [List.map_map]
  have this : ∀ m ∈ L, ((fun p => (⟨p, classAt L p, partsAt L p⟩ : PM)) ∘ Mk.point) m = pmOf m := fun m hm => by
    have hma := markAt_of_mem hnd hm
    simp [classAt, partsAt, hma, pmOf]
  rw [List.map_congr_left this]
theorem sorted_strict : ∀ {l : List Int}, l.Pairwise (fun a b => decide (a ≤ b) = true) → l.Nodup → l.Pairwise (· < ·) := by
  intro l
  induction l with
  | nil => intro _ _; simp
  | cons a r ih =>
    intro h1 h2
    rw [List.pairwise_cons] at h1 ⊢
    rw [List.nodup_cons] at h2
    refine ⟨fun b hb => ?_, ih h1.2 h2.2⟩
    have := h1.1 b hb
    have hne : a ≠ b := fun e => h2.1 (e ▸ hb)
    simp at this
    omega
theorem marksR_points (L : List Mk) : (marksR L).map PM.point = (L.map Mk.point).mergeSort (fun x y => decide (x ≤ y)) := by
  unfold marksR
  rw [List.map_map]
  conv => rhs; rw [← List.map_id ((L.map Mk.point).mergeSort _)]
  rfl
theorem marksR_rise {L : List Mk} (hnd : (L.map Mk.point).Nodup) : ((marksR L).map PM.point).Pairwise (· < ·) := by
  rw [marksR_points]
  refine sorted_strict (List.pairwise_mergeSort (le := fun x y => decide (x ≤ y)) (fun a b c h1 h2 => by simp at h1 h2 ⊢; omega) (fun a b => by simp; omega) _) ?_
  exact (List.mergeSort_perm _ _).nodup_iff.2 hnd
theorem markAt_mem {L : List Mk} (p : Int) : (markAt L p = none ∧ p ∉ L.map Mk.point) ∨ ∃ m ∈ L, m.point = p ∧ markAt L p = some m := by
  cases h : markAt L p with
  | none =>
    refine .inl ⟨rfl, fun hp => ?_⟩
    obtain ⟨m, hm, e⟩ := List.mem_map.1 hp
    have := List.find?_eq_none.1 h m hm
    simp [e] at this
  | some m => exact .inr ⟨m, List.mem_of_find?_eq_some h, by simpa using List.find?_some h, rfl⟩
end Go.Proofs.YtadbkkakjekopaaDoor
namespace Go.Proofs.YtadbkkakjekopaaDoor
open Go.ChangeShapes Go.WideShapes Go.ChangeAt Go.RowKit Go.Deep Go.Vf
theorem list_three {α : Type} {l : List α} (h : l.length = 3) : ∃ a b c, l = [a, b, c] := by
  match l, h with
  | [a, b, c], _ => exact ⟨a, b, c, rfl⟩
end Go.Proofs.YtadbkkakjekopaaDoor
namespace Go.Proofs.YtadbkkakjekopaaDoor
open Go.RowKit Go.Vf Go.Maps
theorem row_some {w : World} {base : Nat} {e : TypeId} {size : Nat} {v : Value} {n : Nat} {xs : List Value} (h : w.ownsRow base e size v n xs) (hn : 0 < n) : ∃ g cap, v = .slice (some ⟨g, 0, none⟩) n cap ∧ n ≤ cap ∧ g < w.heap.size ∧ ∀ j u, xs[j]? = some u → w.cell? ⟨g, j, none⟩ = some u := by
  rcases h.2 with ⟨_, h0⟩ | ⟨g, cap, cur, hv, hb, hg, hc, hm, hs, ht⟩
  · omega
  · refine ⟨g, cap, hv, hc, (Array.getElem?_eq_some_iff.1 hg).1, fun j u hu => ?_⟩
    rw [← ht] at hu
    have hj := (List.getElem?_eq_some_iff.1 hu).1
    rw [List.getElem?_take_of_lt (by rw [List.length_take] at hj; omega)] at hu
    simp only [World.cell?, hg]
    simpa using hu
theorem flatM_len (ps : List (PM × Value)) : (flatM ps).length = ps.length * 3 := by
  induction ps with
  | nil => rfl
  | cons a r ih => simp [flatM] at ih ⊢; omega
end Go.Proofs.YtadbkkakjekopaaDoor
namespace Go.Proofs.YtadbkkakjekopaaDoor
open Go.RowKit Go.Vf Go.Maps
theorem own_other {w w' : World} {b1 : Nat} {e1 : TypeId} {s1 k1 : Nat} {v1 : Value} {x1 : List Value} (h1 : w.ownsRow b1 e1 s1 v1 k1 x1) (hk : ∀ g, v1.ownBlock = some g → w'.heap[g]? = w.heap[g]?) : w'.ownsRow b1 e1 s1 v1 k1 x1 := by
  refine ⟨h1.1, h1.2.imp id fun ⟨g, cap, cur, q1, q2, q3, q4⟩ => ⟨g, cap, cur, q1, q2, ?_, q4⟩⟩
  exact (hk g (by rw [q1]; rfl)).trans q3
theorem wpList_append_markX {w : World} {ops : Array Oper} {rest : List Oper} {o : Oper} {a : Act} {Q : Exit → Act → World → Prop} (hgd : o.guard = none) (s x : Operand)
    (ho : o.op = .call { callee := .builtin .append, args := #[s, x], argTypes := #[27, 27] })
    (base : Nat) (v : Value) (n : Nat) (xs : List Value) (hs : a.eval s = v) (hown : w.ownsRow base 61 3 v n xs) (p c : Int) (ua : Option Addr) (uk uc : Nat) (hx : a.eval x = .slice (some ⟨w.heap.size, 0, none⟩) 1 1)
    (hlen : n ≤ 1099511627776) (hbase : base ≤ w.heap.size)
    (h : ∀ a' c' w', w'.ownsRow base 61 3 (.slice a' (n + 1) c') (n + 1) (xs ++ [.int .i64 p, .int .i64 c, .slice ua uk uc]) → (w.alloc (.cells #[.int .i64 p, .int .i64 c, .slice ua uk uc] 61)).grownBy w' v.ownBlock → ((Value.slice a' (n + 1) c').ownBlock = v.ownBlock ∨ (Value.slice a' (n + 1) c').ownBlock = some (w.alloc (.cells #[.int .i64 p, .int .i64 c, .slice ua uk uc] 61)).heap.size) → wpList Tryd.prog ops Q rest (a.put o.dst (.slice a' (n + 1) c')) w') :
    wpList Tryd.prog ops Q (o :: rest) a (w.alloc (.cells #[.int .i64 p, .int .i64 c, .slice ua uk uc] 61)) := by
  obtain ⟨i, hi, hz, hsz, hby⟩ := info_parts info36
  have hb := Blk.new w 61 #[.int .i64 p, .int .i64 c, .slice ua uk uc]
  refine wpList_append_own_at (P := Tryd.prog) _ hgd s x 27 ho base 61 i _ 3 40 Tryd.underlying27 hi hz hsz hby rfl (by decide) v n xs hs (World.ownsRow.alloc hown _) ⟨w.heap.size, 0, none⟩ 1 1 [.int .i64 p, .int .i64 c, .slice ua uk uc] hx (by rfl) ?_ ?_ ?_ ?_ ?_ ?_
  · intro j u hu
    match j, hu with
    | 0, hu => simp at hu; subst hu; exact hb.cell 0
    | 1, hu => simp at hu; subst hu; exact hb.cell 1
    | 2, hu => simp at hu; subst hu; exact hb.cell 2
  · intro u hu; simp at hu; rcases hu with rfl | rfl | rfl <;> rfl
  · unfold maxLen; omega
  · omega
  · simp; omega
  · intro v' w' h1 h2 _ h4
    obtain ⟨a', c', rfl⟩ := row_val h1
    exact h a' c' w' h1 h2 h4
end Go.Proofs.YtadbkkakjekopaaDoor
