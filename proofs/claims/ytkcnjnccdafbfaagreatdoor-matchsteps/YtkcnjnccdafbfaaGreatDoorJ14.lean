/- Contracts and lemmas (nothing is claimed here). -/
import Derived.Test.YtkcnjnccdafbfaaGreatDoorJ12
import Derived.Test.YtkcnjnccdafbfaaGreatDoorJ13
import Derived.Test.YtkcnjnccdafbfaaGreatDoorJ11
import Derived.Test.YtkcnjnccdafbfaaGreatDoorJ3
import Derived.Lib.Case
import Derived.Lib.ItoaNum
import Derived.Sort.Row
import Derived.Deep.CutRange
import Derived.Lib.AppendStr
import Derived.ProofKit
import Derived.OpenShut
import Derived.Deep.Slices
import Derived.SizedLaws
import Derived.Deep.Upon
import Derived.Test.YtkcnjnccdafbfaaGreatDoorJ2
namespace Go.Proofs.YtkcnjnccdafbfaaGreatDoor
open Go.RowKit Go.Vf Go.Maps
end Go.Proofs.YtkcnjnccdafbfaaGreatDoor
namespace Go.Vf
structure PM where
  point : Int
  cls : Int
  parts : List Int
end Go.Vf
namespace Go.Proofs.YtkcnjnccdafbfaaGreatDoor
open Go.RowKit Go.Vf Go.Maps
def MIn (n₀ : Nat) (w : World) (v : Value) (l : List PM) : Prop :=
  (∃ a cap, v = .slice a 0 cap ∧ l = []) ∨ ∃ b off cap, v = .slice (some ⟨b, off, none⟩) l.length cap ∧ b < n₀ ∧ ∀ j (hj : j < l.length), ∃ pa pk pc, w.cell? ⟨b, off + j * 3, none⟩ = some (.int .i64 l[j].point) ∧ w.cell? ⟨b, off + j * 3 + 1, none⟩ = some (.int .i64 l[j].cls) ∧
    w.cell? ⟨b, off + j * 3 + 2, none⟩ = some (.slice pa pk pc) ∧ Ints n₀ w (.slice pa pk pc) l[j].parts
theorem MIn.val {n₀ : Nat} {w : World} {v : Value} {l : List PM} (h : MIn n₀ w v l) : ∃ a cap, v = .slice a l.length cap := by
  rcases h with ⟨a, cap, rfl, rfl⟩ | ⟨b, off, cap, rfl, _⟩
  · exact ⟨_, _, rfl⟩
  · exact ⟨_, _, rfl⟩
theorem MIn.below {n₀ n : Nat} {w w' : World} {v : Value} {l : List PM} (h : MIn n₀ w v l) (hb : Below n w w') (hn : n₀ ≤ n) : MIn n₀ w' v l := by
  rcases h with h | ⟨b, off, cap, e, hlt, hc⟩
  · exact .inl h
  · refine .inr ⟨b, off, cap, e, hlt, fun j hj => ?_⟩
    obtain ⟨pa, pk, pc, h1, h2, h3, h4⟩ := hc j hj
    exact ⟨pa, pk, pc, (hb.cell (p := ⟨b, _, none⟩) (show b < n by omega)).trans h1, (hb.cell (p := ⟨b, _, none⟩) (show b < n by omega)).trans h2, (hb.cell (p := ⟨b, _, none⟩) (show b < n by omega)).trans h3, h4.below hb hn⟩
theorem MIn.at {n₀ : Nat} {w : World} {a : Option Addr} {k cap : Nat} {l : List PM} (h : MIn n₀ w (.slice a k cap) l) {j : Nat} (hj : j < l.length) : ∃ b off, a = some ⟨b, off, none⟩ ∧ ∃ pa pk pc, w.cell? ⟨b, off + j * 3, none⟩ = some (.int .i64 l[j].point) ∧ w.cell? ⟨b, off + j * 3 + 1, none⟩ = some (.int .i64 l[j].cls) ∧
    w.cell? ⟨b, off + j * 3 + 2, none⟩ = some (.slice pa pk pc) ∧ Ints n₀ w (.slice pa pk pc) l[j].parts := by
  rcases h with ⟨a', cap', e, rfl⟩ | ⟨b, off, cap', e, hlt, hc⟩
  · simp at hj
  · simp only [Value.slice.injEq] at e
    exact ⟨b, off, e.1, hc j hj⟩
end Go.Proofs.YtkcnjnccdafbfaaGreatDoor
namespace Go.Vf
def marksR (L : List Mk) : List PM := ((L.map Mk.point).mergeSort (fun x y => decide (x ≤ y))).map fun p => ⟨p, classAt L p, partsAt L p⟩
end Go.Vf
namespace Go.Proofs.YtkcnjnccdafbfaaGreatDoor
open Go.RowKit Go.Vf Go.Maps Go.Sort Go.Shelf
theorem info36 : (Tryz.prog.info? 73).map (fun i => (i.zero, i.size, i.bytes)) = some (some (.agg #[.int .i64 0, .int .i64 0, .slice none 0 0]), 3, 40) := by kernel_rfl
def flatM (ps : List (PM × Value)) : List Value := ps.flatMap fun x => [.int .i64 x.1.point, .int .i64 x.1.cls, x.2]
def MOwn (w : World) (base : Nat) (v : Value) (ps : List (PM × Value)) : Prop := w.ownsRow base 73 3 v ps.length (flatM ps) ∧ ∀ x ∈ ps, IOwn w base x.2 x.1.parts
theorem flatM_at (ps : List (PM × Value)) : ∀ (j : Nat) (hj : j < ps.length), (flatM ps)[j * 3]? = some (.int .i64 ps[j].1.point) ∧ (flatM ps)[j * 3 + 1]? = some (.int .i64 ps[j].1.cls) ∧ (flatM ps)[j * 3 + 2]? = some ps[j].2 := by
  induction ps with
  | nil => intro j hj; simp at hj
  | cons a r ih =>
    intro j hj
    have e : flatM (a :: r) = .int .i64 a.1.point :: .int .i64 a.1.cls :: a.2 :: flatM r := by simp [flatM]
    rw [e]
    cases j with
    | zero => simp
    | succ j =>
      have := ih j (by simpa using hj)
      rw [show (j + 1) * 3 = j * 3 + 1 + 1 + 1 by omega]
      simpa using this
theorem MOwn.min {w : World} {base : Nat} {v : Value} {ps : List (PM × Value)} (h : MOwn w base v ps) : MIn w.heap.size w v (ps.map Prod.fst) := by
  rcases h.1.2 with ⟨rfl, h0⟩ | ⟨g, cap, cur, rfl, _, hg, _, _, _, ht⟩
  · exact .inl ⟨_, _, rfl, by rw [List.eq_nil_of_length_eq_zero h0]; rfl⟩
  · refine .inr ⟨g, 0, cap, by simp, (Array.getElem?_eq_some_iff.1 hg).1, fun j hj => ?_⟩
    have hj' : j < ps.length := by simpa using hj
    obtain ⟨h1, h2, h3⟩ := flatM_at ps j hj'
    rw [← ht] at h1 h2 h3
    rw [List.getElem?_take_of_lt (by omega)] at h1 h2 h3
    have hi := h.2 ps[j] (List.getElem_mem hj')
    obtain ⟨pa, pc, hv⟩ := hi.val
    refine ⟨pa, ps[j].1.parts.length, pc, ?_, ?_, ?_, ?_⟩
    · simp only [World.cell?, hg, Nat.zero_add, List.getElem_map]; simpa using h1
    · simp only [World.cell?, hg, Nat.zero_add, List.getElem_map]; simpa using h2
    · simp only [World.cell?, hg, Nat.zero_add]; rw [← hv]; simpa using h3
    · rw [← hv]; simpa using hi.ints
end Go.Proofs.YtkcnjnccdafbfaaGreatDoor
namespace Go.Proofs.YtkcnjnccdafbfaaGreatDoor
open Go.RowKit Go.Vf Go.Maps Go.Sort
theorem marksR_length (L : List Mk) : (marksR L).length = L.length := by
  unfold marksR
  rw [List.length_map, List.length_mergeSort, List.length_map]
end Go.Proofs.YtkcnjnccdafbfaaGreatDoor
namespace Go.Proofs.YtkcnjnccdafbfaaGreatDoor
open Go.RowKit Go.Vf Go.Maps
theorem pointR_pointS {u : Nat} (hu : u ≤ 1114111) (hm : mayB (u : Int) = true) : pointR (pointS u) = some (u : Int) := by
  have hl6 : (upHex u).length ≤ 6 := upHex_len u 6 (by omega) (by omega)
  have hp := upHex_pos u
  have hlt := upHex_lt u _ (Nat.le_refl _)
  have hlen : (pointS u).length = (4 - (upHex u).length) + (upHex u).length := by rw [pointS_pad, padHex_len]
  unfold pointR
  rw [if_pos, pointS_pad, numB_pad]
  · have hmod : u % 16 ^ ((4 - (upHex u).length) + (upHex u).length) = u := Nat.mod_eq_of_lt (Nat.lt_of_lt_of_le hlt (Nat.pow_le_pow_right (by omega) (by omega)))
    rw [hmod, Nat.zero_mul, Nat.zero_add]
    show (if mayB (u : Int) = true then _ else _) = _
    rw [if_pos hm]
  · by_cases h4 : (upHex u).length ≤ 4
    · exact .inl (by omega)
    · refine .inr ⟨by omega, by omega, ?_⟩
      rw [pointS_pad]
      obtain ⟨k, hk⟩ : ∃ k, (upHex u).length = k + 1 := ⟨(upHex u).length - 1, by omega⟩
      have hge : 16 ^ k ≤ u := Nat.not_lt.1 fun h => by have := upHex_len u k h (by omega); omega
      rw [hk] at hlt
      rw [show (4 - (upHex u).length) + (upHex u).length = k + 1 by omega, padHex_head]
      intro e
      have e2 := upDig_zero _ (Nat.mod_lt _ (by omega)) (Option.some.inj e)
      have h1 : 1 ≤ u / 16 ^ k := (Nat.le_div_iff_mul_le (Nat.pow_pos (by omega))).2 (by omega)
      have h2 : u / 16 ^ k < 16 := (Nat.div_lt_iff_lt_mul (Nat.pow_pos (by omega))).2 (by rw [Nat.pow_succ] at hlt; omega)
      omega
theorem pointS_pointR {s : List UInt8} {p : Int} (h : pointR s = some p) : ∃ u : Nat, p = (u : Int) ∧ u ≤ 1114111 ∧ mayB (u : Int) = true ∧ s = pointS u := by
  unfold pointR at h
  split at h
  · rename_i hs
    split at h
    · cases h
    · rename_i n hn
      split at h
      · rename_i hm
        have hpn : (n : Int) = p := by simpa using h
        have hmn : n ≤ 1114111 := by
          unfold mayB at hm
          simp at hm
          omega
        obtain ⟨r, hr, hnr, hpad⟩ := pad_numB s 0 n hn
        have hrn : r = n := by simpa using hnr.symm
        subst hrn
        refine ⟨r, hpn.symm, hmn, hm, ?_⟩
        have hl := upHex_len r s.length hr (by omega)
        rw [pointS_pad]
        suffices hE : (4 - (upHex r).length) + (upHex r).length = s.length by rw [hE]; exact hpad
        rcases hs with h4 | ⟨h5, h6, hh⟩
        · omega
        · obtain ⟨k, hk⟩ : ∃ k, s.length = k + 1 := ⟨s.length - 1, by omega⟩
          have hgt : ¬ (upHex r).length ≤ k := fun hle => by
            have hlt := upHex_lt r k hle
            rw [hpad, hk, padHex_head, Nat.div_eq_of_lt hlt] at hh
            exact hh rfl
          omega
      · cases h
  · cases h
theorem itoa_all : ((List.range 255).all fun c => (classR (Lib.itoa (c : Int)) == some (c : Int)) && (Lib.itoa (c : Int)).all (fun b => !(b == 10) && !(b == 59))) = true := by kernel_rfl
theorem classR_itoa {c : Nat} (hc : c ≤ 254) : classR (Lib.itoa (c : Int)) = some (c : Int) ∧ ∀ b ∈ Lib.itoa (c : Int), b ≠ 10 ∧ b ≠ 59 := by
  have := List.all_eq_true.1 itoa_all c (List.mem_range.2 (by omega))
  simp only [Bool.and_eq_true, beq_iff_eq, List.all_eq_true, Bool.not_eq_true', beq_eq_false_iff_ne] at this
  exact ⟨this.1, fun b hb => this.2 b hb⟩
def itoaS (c : Nat) : List UInt8 := if c < 10 then [UInt8.ofNat (48 + c)] else if c < 100 then [UInt8.ofNat (48 + c / 10), UInt8.ofNat (48 + c % 10)] else [UInt8.ofNat (48 + c / 100), UInt8.ofNat (48 + c / 10 % 10), UInt8.ofNat (48 + c % 10)]
theorem itoaS_all : ((List.range 255).all fun c => Lib.itoa (c : Int) == itoaS c) = true := by kernel_rfl
theorem itoa_eq {c : Nat} (hc : c ≤ 254) : Lib.itoa (c : Int) = itoaS c := by
  have := List.all_eq_true.1 itoaS_all c (List.mem_range.2 (by omega))
  simpa using this
theorem decV_dig {c : UInt8} {d : Nat} (h : decV c = some d) : d < 10 ∧ c = UInt8.ofNat (48 + d) ∧ (d = 0 → c = 48) := by
  unfold decV at h
  split at h
  · rename_i hh
    simp only [Option.some.injEq] at h
    have hc : c = UInt8.ofNat (48 + d) := by
      apply UInt8.toNat_inj.1
      rw [UInt8.toNat_ofNat']
      omega
    refine ⟨by omega, hc, fun e => ?_⟩
    subst e
    exact hc
  · cases h
theorem itoa_classR {s : List UInt8} {k : Int} (h : classR s = some k) : ∃ c : Nat, k = (c : Int) ∧ c ≤ 254 ∧ s = Lib.itoa (c : Int) := by
  unfold classR at h
  split at h
  · rename_i hs
    split at h
    · cases h
    · rename_i n hn
      split at h
      · rename_i hle
        refine ⟨n, by simpa using h.symm, hle, ?_⟩
        rw [itoa_eq hle]
        rcases hs with rfl | ⟨h1, h2, h3⟩
        · simp [numB, decV] at hn
          subst hn
          rfl
        · match s, h1, h2, h3, hn with
          | [a], _, h2, _, hn =>
            simp only [numB] at hn
            cases ha : decV a with
            | none => rw [ha] at hn; cases hn
            | some d =>
              rw [ha] at hn
              obtain ⟨q1, q2, _⟩ := decV_dig ha
              have e : 0 * 10 + d = n := by simpa using hn
              subst e
              unfold itoaS
              rw [if_pos (by omega), q2]
              simp
          | [a, b], _, h2, _, hn =>
            simp only [numB] at hn
            cases ha : decV a with
            | none => rw [ha] at hn; cases hn
            | some d =>
              rw [ha] at hn
              simp only at hn
              cases hb : decV b with
              | none => rw [hb] at hn; cases hn
              | some d2 =>
                rw [hb] at hn
                obtain ⟨q1, q2, q3⟩ := decV_dig ha
                obtain ⟨r1, r2, _⟩ := decV_dig hb
                have e : (0 * 10 + d) * 10 + d2 = n := by simpa using hn
                have hd : d ≠ 0 := fun e0 => by rw [q3 e0] at h2; simp at h2
                subst e
                unfold itoaS
                rw [if_neg (by omega), if_pos (by omega), q2, r2, show ((0 * 10 + d) * 10 + d2) / 10 = d by omega, show ((0 * 10 + d) * 10 + d2) % 10 = d2 by omega]
          | [a, b, c], _, h2, _, hn =>
            simp only [numB] at hn
            cases ha : decV a with
            | none => rw [ha] at hn; cases hn
            | some d =>
              rw [ha] at hn
              simp only at hn
              cases hb : decV b with
              | none => rw [hb] at hn; cases hn
              | some d2 =>
                rw [hb] at hn
                simp only at hn
                cases hc : decV c with
                | none => rw [hc] at hn; cases hn
                | some d3 =>
                  rw [hc] at hn
                  obtain ⟨q1, q2, q3⟩ := decV_dig ha
                  obtain ⟨r1, r2, _⟩ := decV_dig hb
                  obtain ⟨s1, s2, _⟩ := decV_dig hc
                  have e : ((0 * 10 + d) * 10 + d2) * 10 + d3 = n := by simpa using hn
                  have hd : d ≠ 0 := fun e0 => by rw [q3 e0] at h2; simp at h2
                  subst e
                  unfold itoaS
                  rw [if_neg (by omega), if_neg (by omega), q2, r2, s2, show (((0 * 10 + d) * 10 + d2) * 10 + d3) / 100 = d by omega, show (((0 * 10 + d) * 10 + d2) * 10 + d3) / 10 % 10 = d2 by omega, show (((0 * 10 + d) * 10 + d2) * 10 + d3) % 10 = d3 by omega]
          | a :: b :: c :: x :: r, _, _, h3, _ => simp at h3
      · cases h
  · cases h
def pmOf (m : Mk) : PM := ⟨m.point, m.cls, m.parts⟩
theorem markAt_of_mem {L : List Mk} {m : Mk} (hnd : (L.map Mk.point).Nodup) (hm : m ∈ L) : markAt L m.point = some m := by
  unfold markAt
  induction L with
  | nil => simp at hm
  | cons a r ih =>
    rw [List.map_cons, List.nodup_cons] at hnd
    rcases List.mem_cons.1 hm with rfl | hm
    · simp
    · rw [List.find?_cons_of_neg]
      · exact ih hnd.2 hm
      · simp only [beq_iff_eq]
        intro e
        exact hnd.1 (List.mem_map.2 ⟨m, hm, e.symm⟩)
theorem marksR_perm {L : List Mk} (hnd : (L.map Mk.point).Nodup) : (marksR L).Perm (L.map pmOf) := by
  unfold marksR
  refine ((List.mergeSort_perm (L.map Mk.point) _).map _).trans ?_
  rw [List.map_map]
  have this : ∀ m ∈ L, ((fun p => (⟨p, classAt L p, partsAt L p⟩ : PM)) ∘ Mk.point) m = pmOf m := fun m hm => by
    have hma := markAt_of_mem hnd hm
    simp [classAt, partsAt, hma, pmOf]
  rw [List.map_congr_left this]
theorem sorted_strict : ∀ {l : List Int}, l.Pairwise (fun a b => decide (a ≤ b) = true) → l.Nodup → l.Pairwise (· < ·) := by
  intro l
  induction l with
  | nil => intro _ _; simp
  | cons a r ih =>
    intro h1 h2
    rw [List.pairwise_cons] at h1 ⊢
    rw [List.nodup_cons] at h2
    refine ⟨fun b hb => ?_, ih h1.2 h2.2⟩
    have := h1.1 b hb
    have hne : a ≠ b := fun e => h2.1 (e ▸ hb)
    simp at this
    omega
theorem marksR_points (L : List Mk) : (marksR L).map PM.point = (L.map Mk.point).mergeSort (fun x y => decide (x ≤ y)) := by
  unfold marksR
  rw [List.map_map]
  conv => rhs; rw [← List.map_id ((L.map Mk.point).mergeSort _)]
  rfl
theorem marksR_rise {L : List Mk} (hnd : (L.map Mk.point).Nodup) : ((marksR L).map PM.point).Pairwise (· < ·) := by
  rw [marksR_points]
  refine sorted_strict (List.pairwise_mergeSort (le := fun x y => decide (x ≤ y)) (fun a b c h1 h2 => by simp at h1 h2 ⊢; omega) (fun a b => by simp; omega) _) ?_
  exact (List.mergeSort_perm _ _).nodup_iff.2 hnd
theorem markAt_mem {L : List Mk} (p : Int) : (markAt L p = none ∧ p ∉ L.map Mk.point) ∨ ∃ m ∈ L, m.point = p ∧ markAt L p = some m := by
  cases h : markAt L p with
  | none =>
    refine .inl ⟨rfl, fun hp => ?_⟩
    obtain ⟨m, hm, e⟩ := List.mem_map.1 hp
    have := List.find?_eq_none.1 h m hm
    simp [e] at this
  | some m => exact .inr ⟨m, List.mem_of_find?_eq_some h, by simpa using List.find?_some h, rfl⟩
end Go.Proofs.YtkcnjnccdafbfaaGreatDoor
namespace Go.Proofs.YtkcnjnccdafbfaaGreatDoor
open Go.ChangeShapes Go.WideShapes Go.ChangeAt Go.RowKit Go.Deep Go.Vf
theorem list_three {α : Type} {l : List α} (h : l.length = 3) : ∃ a b c, l = [a, b, c] := by
  match l, h with
  | [a, b, c], _ => exact ⟨a, b, c, rfl⟩
end Go.Proofs.YtkcnjnccdafbfaaGreatDoor
namespace Go.Proofs.YtkcnjnccdafbfaaGreatDoor
open Go.RowKit Go.Vf Go.Maps
theorem row_some {w : World} {base : Nat} {e : TypeId} {size : Nat} {v : Value} {n : Nat} {xs : List Value} (h : w.ownsRow base e size v n xs) (hn : 0 < n) : ∃ g cap, v = .slice (some ⟨g, 0, none⟩) n cap ∧ n ≤ cap ∧ g < w.heap.size ∧ ∀ j u, xs[j]? = some u → w.cell? ⟨g, j, none⟩ = some u := by
  rcases h.2 with ⟨_, h0⟩ | ⟨g, cap, cur, hv, hb, hg, hc, hm, hs, ht⟩
  · omega
  · refine ⟨g, cap, hv, hc, (Array.getElem?_eq_some_iff.1 hg).1, fun j u hu => ?_⟩
    rw [← ht] at hu
    have hj := (List.getElem?_eq_some_iff.1 hu).1
    rw [List.getElem?_take_of_lt (by rw [List.length_take] at hj; omega)] at hu
    simp only [World.cell?, hg]
    simpa using hu
theorem flatM_len (ps : List (PM × Value)) : (flatM ps).length = ps.length * 3 := by
  induction ps with
  | nil => rfl
  | cons a r ih => simp [flatM] at ih ⊢; omega
theorem wpList_append_markX {w : World} {ops : Array Oper} {rest : List Oper} {o : Oper} {a : Act} {Q : Exit → Act → World → Prop} (hgd : o.guard = none) (s x : Operand)
    (ho : o.op = .call { callee := .builtin .append, args := #[s, x], argTypes := #[29, 29] })
    (base : Nat) (v : Value) (n : Nat) (xs : List Value) (hs : a.eval s = v) (hown : w.ownsRow base 73 3 v n xs) (p c : Int) (ua : Option Addr) (uk uc : Nat) (hx : a.eval x = .slice (some ⟨w.heap.size, 0, none⟩) 1 1)
    (hlen : n ≤ 1099511627776) (hbase : base ≤ w.heap.size)
    (h : ∀ a' c' w', w'.ownsRow base 73 3 (.slice a' (n + 1) c') (n + 1) (xs ++ [.int .i64 p, .int .i64 c, .slice ua uk uc]) → (w.alloc (.cells #[.int .i64 p, .int .i64 c, .slice ua uk uc] 73)).grownBy w' v.ownBlock → ((Value.slice a' (n + 1) c').ownBlock = v.ownBlock ∨ (Value.slice a' (n + 1) c').ownBlock = some (w.alloc (.cells #[.int .i64 p, .int .i64 c, .slice ua uk uc] 73)).heap.size) → wpList Tryz.prog ops Q rest (a.put o.dst (.slice a' (n + 1) c')) w') :
    wpList Tryz.prog ops Q (o :: rest) a (w.alloc (.cells #[.int .i64 p, .int .i64 c, .slice ua uk uc] 73)) := by
  obtain ⟨i, hi, hz, hsz, hby⟩ := info_parts info36
  have hb := Blk.new w 73 #[.int .i64 p, .int .i64 c, .slice ua uk uc]
  refine wpList_append_own_at (P := Tryz.prog) _ hgd s x 29 ho base 73 i _ 3 40 Tryz.underlying29 hi hz hsz hby rfl (by decide) v n xs hs (World.ownsRow.alloc hown _) ⟨w.heap.size, 0, none⟩ 1 1 [.int .i64 p, .int .i64 c, .slice ua uk uc] hx (by rfl) ?_ ?_ ?_ ?_ ?_ ?_
  · intro j u hu
    match j, hu with
    | 0, hu => simp at hu; subst hu; exact hb.cell 0
    | 1, hu => simp at hu; subst hu; exact hb.cell 1
    | 2, hu => simp at hu; subst hu; exact hb.cell 2
  · intro u hu; simp at hu; rcases hu with rfl | rfl | rfl <;> rfl
  · unfold maxLen; omega
  · omega
  · simp; omega
  · intro v' w' h1 h2 _ h4
    obtain ⟨a', c', rfl⟩ := row_val h1
    exact h a' c' w' h1 h2 h4
end Go.Proofs.YtkcnjnccdafbfaaGreatDoor
namespace Go.Proofs.YtkcnjnccdafbfaaGreatDoor
open Go.RowKit Go.Vf
def strLen : Value → Nat
  | .string b => b.size
  | _ => 0
theorem signs_at : ∀ d, d < 16 → (⟨#[48, 49, 50, 51, 52, 53, 54, 55, 56, 57, 65, 66, 67, 68, 69, 70]⟩ : ByteArray).extract d (d + 1) = bsz [upDig d] := by decide
theorem padHex_cons : ∀ (k n : Nat), padHex (k + 1) n = upDig (n / 16 ^ k % 16) :: padHex k n := by
  intro k
  induction k with
  | zero => intro n; simp [padHex]
  | succ k ih =>
    intro n
    rw [padHex, ih, Nat.div_div_eq_div_mul, Nat.pow_succ, Nat.mul_comm 16]
    rfl
theorem bsz_append (a b : List UInt8) : bsz a ++ bsz b = bsz (a ++ b) := by
  apply ByteArray.ext
  simp
theorem bsz_size (l : List UInt8) : (bsz l).size = l.length := by simp [ByteArray.size]
theorem pointS_of {u j : Nat} (h4 : 4 ≤ j) (h0 : u / 16 ^ j = 0) (hj : j ≤ 4 ∨ 16 ^ (j - 1) ≤ u) : padHex j u = pointS u := by
  have hp : 0 < 16 ^ j := Nat.pow_pos (by omega)
  have hlt : u < 16 ^ j := by
    rcases Nat.lt_or_ge u (16 ^ j) with h | h
    · exact h
    · have := (Nat.le_div_iff_mul_le hp).2 (by omega : 1 * 16 ^ j ≤ u); omega
  have h1 := upHex_len u j hlt (by omega)
  rw [pointS_pad]
  congr 1
  rcases hj with hj | hj
  · omega
  · by_cases h5 : j = 4
    · omega
    · have : ¬ (upHex u).length ≤ j - 1 := fun h => by have := upHex_lt u _ h; omega
      omega
theorem digits_step {u n : Nat} {sb : ByteArray} (hu : u < 16 ^ 6) (h : sb = bsz (padHex sb.size u) ∧ n = u / 16 ^ sb.size ∧ (sb.size ≤ 4 ∨ 16 ^ (sb.size - 1) ≤ u)) (hc : sb.size < 4 ∨ 0 < n) :
    (bsz [upDig (n % 16)] ++ sb).size = sb.size + 1 ∧ sb.size + 1 ≤ 6 ∧ ((bsz [upDig (n % 16)] ++ sb) = bsz (padHex (bsz [upDig (n % 16)] ++ sb).size u) ∧ n / 16 = u / 16 ^ (bsz [upDig (n % 16)] ++ sb).size ∧ ((bsz [upDig (n % 16)] ++ sb).size ≤ 4 ∨ 16 ^ ((bsz [upDig (n % 16)] ++ sb).size - 1) ≤ u)) := by
  obtain ⟨h1, h2, h3⟩ := h
  have hge : 0 < n → 16 ^ sb.size ≤ u := fun h0 => by
    rcases Nat.lt_or_ge u (16 ^ sb.size) with hl | hl
    · rw [Nat.div_eq_of_lt hl] at h2; omega
    · exact hl
  have e : bsz [upDig (n % 16)] ++ sb = bsz (padHex (sb.size + 1) u) := by
    rw [padHex_cons, ← h2]
    conv => lhs; rw [h1]
    rw [bsz_append]
    rfl
  have es : (bsz [upDig (n % 16)] ++ sb).size = sb.size + 1 := by rw [e, bsz_size, padHex_len]
  rw [es]
  refine ⟨rfl, ?_, e, ?_, ?_⟩
  · rcases hc with hc | hc
    · omega
    · have h5 := hge hc
      rcases Nat.lt_or_ge sb.size 6 with hl | hl
      · omega
      · have := Nat.pow_le_pow_right (show 0 < 16 by omega) hl; omega
  · rw [h2, Nat.div_div_eq_div_mul, Nat.pow_succ]
  · rcases hc with hc | hc
    · exact .inl (by omega)
    · exact .inr (by rw [Nat.add_sub_cancel]; exact hge hc)
set_option maxHeartbeats 1000000 in
theorem digits_any (u : Nat) (hu : u < 16 ^ 6) (w : World) : Calls Tryz.prog 98 #[.int .i64 (u : Int)] w fun e w' => e = .returned (.string (bsz (pointS u))) ∧ w = w' := by
  have HU : Hid (u < 16 ^ 6) := hu
  have hu' : u < 16777216 := hu
  clear hu
  go_enter Tryz.func98, Tryz.ntmps98
  go_wp2_with fail
  go_loopw [0, 3] (fun x v wr => ∃ (n : Nat) (sb : ByteArray), x = .int .i64 (n : Int) ∧ v = .string sb ∧ sb.size ≤ 6 ∧ n < 16777216 ∧ Hid (sb = bsz (padHex sb.size u) ∧ n = u / 16 ^ sb.size ∧ (sb.size ≤ 4 ∨ 16 ^ (sb.size - 1) ≤ u)) ∧ wr = w) (fun _ v _ => 7 - strLen v)
  case atStart => exact ⟨u, ⟨#[]⟩, rfl, rfl, by decide, hu', ⟨rfl, by simp [ByteArray.size], .inl (by decide)⟩, rfl⟩
  case round =>
    obtain ⟨n, sb, rfl, rfl, hs6, hn, HS, rfl⟩ := hrel
    have hd := signs_at (n % 16) (by omega)
    by_cases h4 : sb.size < 4
    · go_wp2_with fail
      obtain ⟨q1, q2, q3⟩ := digits_step HU.out HS.out (.inl h4)
      exact ⟨⟨n / 16, _, by simp, rfl, by omega, by omega, q3, trivial⟩, by simp only [strLen]; omega⟩
    · by_cases h0 : n = 0
      · subst h0
        go_wp2_with fail
        go_ret
        have hS := HS.out
        have e : bsz (pointS u) = sb := by
          conv => rhs; rw [hS.1]
          rw [pointS_of (by omega) hS.2.1.symm hS.2.2]
        exact ⟨by rw [e]; rfl, rfl⟩
      · have h0' : 0 < n := by omega
        go_wp2_with fail
        obtain ⟨q1, q2, q3⟩ := digits_step HU.out HS.out (.inr h0')
        exact ⟨⟨n / 16, _, by simp, rfl, by omega, by omega, q3, trivial⟩, by simp only [strLen]; omega⟩
end Go.Proofs.YtkcnjnccdafbfaaGreatDoor
namespace Go.Proofs.YtkcnjnccdafbfaaGreatDoor
open Go.RowKit Go.Vf Go.Maps
def isPt (n : Int) : Bool := decide (0 ≤ n) && decide (n ≤ 1114111) && (decide (n < 55296) || decide (57343 < n))
theorem mayB_eq (n : Int) : mayB n = (isPt n && !isSyl n) := rfl
theorem syllable_any (n : Int) (w : World) : Calls Tryz.prog 64 #[.int .i64 n] w fun e w' => e = .returned (.bool (isSyl n)) ∧ w = w' := by
  by_cases h1 : 44032 ≤ n
  · by_cases h2 : n ≤ 55203
    · go_enter Tryz.func64, Tryz.ntmps64
      go_wp2
      go_ret
      exact ⟨by simp [isSyl, h1, h2], rfl⟩
    · go_enter Tryz.func64, Tryz.ntmps64
      go_wp2
      go_ret
      exact ⟨by simp [isSyl, h2], rfl⟩
  · go_enter Tryz.func64, Tryz.ntmps64
    go_wp2
    go_ret
    exact ⟨by simp [isSyl]; omega, rfl⟩
theorem isPoint_anyr (n : Int) (w : World) : Calls Tryz.prog 66 #[.int .i64 n] w fun e w' => e = .returned (.bool (isPt n)) ∧ w = w' := by
  by_cases h1 : 0 ≤ n
  · by_cases h2 : n ≤ 1114111
    · by_cases h3 : n < 55296
      · go_enter Tryz.func66, Tryz.ntmps66
        go_wp2
        go_ret
        exact ⟨by simp [isPt, h1, h2, h3], rfl⟩
      · by_cases h4 : 57343 < n
        · go_enter Tryz.func66, Tryz.ntmps66
          go_wp2
          go_ret
          exact ⟨by simp [isPt, h1, h2, h4], rfl⟩
        · go_enter Tryz.func66, Tryz.ntmps66
          go_wp2
          go_ret
          exact ⟨by simp [isPt]; omega, rfl⟩
    · go_enter Tryz.func66, Tryz.ntmps66
      go_wp2
      go_ret
      exact ⟨by simp [isPt]; omega, rfl⟩
  · go_enter Tryz.func66, Tryz.ntmps66
    go_wp2
    go_ret
    exact ⟨by simp [isPt]; omega, rfl⟩
def decDig (d : Nat) : UInt8 := UInt8.ofNat (48 + d)
def padDec : Nat → Nat → List UInt8
  | 0, _ => []
  | k + 1, n => decDig (n / 10 ^ k % 10) :: padDec k n
theorem padDec_len : ∀ (k n : Nat), (padDec k n).length = k := by
  intro k
  induction k with
  | zero => intro n; rfl
  | succ k ih => intro n; simp [padDec, ih]
theorem itoa_of {c j : Nat} (hc : c ≤ 254) (h1 : 1 ≤ j) (h0 : c / 10 ^ j = 0) (hj : j ≤ 1 ∨ 10 ^ (j - 1) ≤ c) : padDec j c = Lib.itoa (c : Int) := by
  have h3 : j ≤ 3 := by
    rcases hj with h | h
    · omega
    · rcases Nat.lt_or_ge j 4 with hl | hl
      · omega
      · have := Nat.pow_le_pow_right (show 0 < 10 by omega) (show 3 ≤ j - 1 by omega); omega
  rw [itoa_eq hc]
  unfold itoaS
  have hj' : j = 1 ∨ j = 2 ∨ j = 3 := by omega
  rcases hj' with rfl | rfl | rfl
  · have : c < 10 := by simp at h0; omega
    rw [if_pos this]
    simp [padDec, decDig, Nat.mod_eq_of_lt this]
  · have h5 : 10 ≤ c ∧ c < 100 := by simp at h0 hj; omega
    rw [if_neg (by omega), if_pos h5.2]
    simp [padDec, decDig, show c / 10 % 10 = c / 10 by omega]
  · have h5 : 100 ≤ c := by simp at h0 hj; omega
    rw [if_neg (by omega), if_neg (by omega)]
    simp [padDec, decDig, show c / 100 % 10 = c / 100 by omega]
theorem ten_step {u n : Nat} {sb : ByteArray} (hu : u ≤ 254) (h : sb = bsz (padDec sb.size u) ∧ n = u / 10 ^ sb.size ∧ (sb.size ≤ 1 ∨ 10 ^ (sb.size - 1) ≤ u)) (hc : sb.size = 0 ∨ 0 < n) :
    (bsz [decDig (n % 10)] ++ sb).size = sb.size + 1 ∧ sb.size + 1 ≤ 3 ∧ ((bsz [decDig (n % 10)] ++ sb) = bsz (padDec (bsz [decDig (n % 10)] ++ sb).size u) ∧ n / 10 = u / 10 ^ (bsz [decDig (n % 10)] ++ sb).size ∧ ((bsz [decDig (n % 10)] ++ sb).size ≤ 1 ∨ 10 ^ ((bsz [decDig (n % 10)] ++ sb).size - 1) ≤ u)) := by
  obtain ⟨h1, h2, h3⟩ := h
  have hge : 0 < n → 10 ^ sb.size ≤ u := fun h0 => by
    rcases Nat.lt_or_ge u (10 ^ sb.size) with hl | hl
    · rw [Nat.div_eq_of_lt hl] at h2; omega
    · exact hl
  have e : bsz [decDig (n % 10)] ++ sb = bsz (padDec (sb.size + 1) u) := by
    rw [padDec, ← h2]
    conv => lhs; rw [h1]
    rw [bsz_append]
    rfl
  have es : (bsz [decDig (n % 10)] ++ sb).size = sb.size + 1 := by rw [e, bsz_size, padDec_len]
  rw [es]
  refine ⟨rfl, ?_, e, ?_, ?_⟩
  · rcases hc with hc | hc
    · omega
    · have h5 := hge hc
      rcases Nat.lt_or_ge sb.size 3 with hl | hl
      · omega
      · have := Nat.pow_le_pow_right (show 0 < 10 by omega) hl; omega
  · rw [h2, Nat.div_div_eq_div_mul, Nat.pow_succ]
  · rcases hc with hc | hc
    · exact .inl (by omega)
    · exact .inr (by rw [Nat.add_sub_cancel]; exact hge hc)
theorem string_one (w : World) (x : UInt8) (c : Nat) : (convert 175 9 (.slice (some ⟨w.heap.size, 0, none⟩) 1 c)).run Tryz.prog (w.alloc (.cells #[.int .u8 (x.toNat : Int)] 5)) = .ok (.string (bsz [x])) (w.alloc (.cells #[.int .u8 (x.toNat : Int)] 5)) := by
  have hb := Blk.new w 5 #[.int .u8 (x.toNat : Int)]
  have hc := run_convert_bytes_arg (P := Tryz.prog) (w.alloc (.cells #[.int .u8 (x.toNat : Int)] 5)) 175 5 Tryz.underlying175 Tryz.underlying5 w.heap.size 0 1 c [(x.toNat : Int)] (by simp) (fun i hi => by
    obtain rfl : i = 0 := by simpa using hi
    rw [hb.cell]
    simp) 9 Tryz.underlying9
  rw [hc]
  have e : strOfNums [(x.toNat : Int)] = bsz [x] := data_inj (by rw [strOfNums_data]; simp)
  rw [e]
set_option maxHeartbeats 1000000 in
set_option maxRecDepth 20000 in
theorem ten_any (u : Nat) (hu : u ≤ 254) (w : World) : Calls Tryz.prog 97 #[.int .i64 (u : Int)] w fun e w' => e = .returned (.string (bsz (Lib.itoa (u : Int)))) ∧ Below w.heap.size w w' := by
  go_enter Tryz.func97, Tryz.ntmps97
  go_wp2_with fail
  go_loopw [0, 3] (fun x v wr => ∃ (n : Nat) (sb : ByteArray), x = .int .i64 (n : Int) ∧ v = .string sb ∧ sb.size ≤ 3 ∧ n ≤ 254 ∧ Hid (sb = bsz (padDec sb.size u) ∧ n = u / 10 ^ sb.size ∧ (sb.size ≤ 1 ∨ 10 ^ (sb.size - 1) ≤ u)) ∧ Below w.heap.size w wr) (fun _ v _ => 4 - strLen v)
  case atStart => exact ⟨u, ⟨#[]⟩, rfl, rfl, by decide, hu, ⟨rfl, by simp [ByteArray.size], .inl (by decide)⟩, Below.refl _ _⟩
  case round =>
    obtain ⟨n, sb, rfl, rfl, hs6, hn, HS, hbel⟩ := hrel
    have hx : ((decDig (n % 10)).toNat : Int) = 48 + (n : Int) % 10 := by
      unfold decDig; rw [UInt8.toNat_ofNat']; omega
    have hone := string_one wr (decDig (n % 10)) 1
    rw [hx] at hone
    clear hx
    have hb1 := hbel.alloc hbel.size (.cells #[.int .u8 (48 + (n : Int) % 10)] 5)
    by_cases h0 : sb.size = 0
    · obtain rfl : sb = ⟨#[]⟩ := by
        apply ByteArray.ext
        exact Array.eq_empty_of_size_eq_zero h0
      go_wp2_with fail
      obtain ⟨q1, q2, q3⟩ := ten_step hu HS.out (.inl rfl)
      exact ⟨⟨n / 10, _, by simp, rfl, by omega, by omega, q3, hb1⟩, by simp only [strLen]; omega⟩
    · have hemp : sb.toList.isEmpty = false := by
        rw [ByteArray.toList_eq, List.isEmpty_eq_false_iff]
        intro e
        exact h0 (by rw [Lib.size_eq, e]; rfl)
      by_cases hn0 : n = 0
      · subst hn0
        clear hone hb1
        go_wp2_with fail
        go_ret
        have hS := HS.out
        have e : bsz (Lib.itoa (u : Int)) = sb := by
          conv => rhs; rw [hS.1]
          rw [itoa_of hu (by omega) hS.2.1.symm hS.2.2]
        exact ⟨by rw [e]; rfl, hbel⟩
      · have hn' : 0 < n := by omega
        go_wp2_with fail
        obtain ⟨q1, q2, q3⟩ := ten_step hu HS.out (.inr hn')
        exact ⟨⟨n / 10, _, by simp, rfl, by omega, by omega, q3, hb1⟩, by simp only [strLen]; omega⟩
end Go.Proofs.YtkcnjnccdafbfaaGreatDoor
