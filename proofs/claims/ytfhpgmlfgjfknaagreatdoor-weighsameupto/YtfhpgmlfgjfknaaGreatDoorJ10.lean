/- Contracts and lemmas (nothing is claimed here). -/
import Derived.Test.YtfhpgmlfgjfknaaGreatDoorJ9
namespace Go.Proofs.YtfhpgmlfgjfknaaGreatDoor
open Go.RowKit Go.Vf Go.Maps
set_option maxHeartbeats 4000000 in
theorem drop_any {w₁ : World} {bd T B g off cap : Nat} {ps : List (List Int)} {W : World} (hk : MWk w₁ bd T B g off cap ps W) (hl : ps.length ≤ 4611686018427387904) (hpl : ∀ p ∈ ps, p.length ≤ 4611686018427387904) (n : Nat) (hn : n ≤ ps.flatten.length) (hn8 : n ≤ 8) :
    Calls Tryz.prog 176 #[.pointer (some ⟨B, 0, none⟩), .int .i64 n] W fun e W' => e = .returned (.tuple #[]) ∧ MWk w₁ bd T B g off cap (dropPs n ps) W' ∧ Mv B g W W' := by
  go_enter Tryz.func176, Tryz.ntmps176
  go_wp2_with fail
  go_loopw [1, 4] (fun nv iv wr => ∃ (k i : Nat) (cur : List (List Int)), nv = .int .i64 k ∧ iv = .int .i64 i ∧ i ≤ cur.length ∧ k ≤ 8 ∧ k ≤ (cur.drop i).flatten.length ∧ Hid (cur.take i ++ dropPs k (cur.drop i) = dropPs n ps) ∧ Hid (cur.length = ps.length ∧ ∀ p ∈ cur, p.length ≤ 4611686018427387904) ∧ MWk w₁ bd T B g off cap cur wr ∧ Mv B g W wr) (fun _ iv _ => ps.length - (intOf iv).toNat)
  case atStart => exact ⟨n, 0, ps, rfl, rfl, by omega, hn8, by simpa using hn, by show _ = _; simp, ⟨rfl, hpl⟩, hk, Mv.refl _ _ _⟩
  case round =>
    clear hk
    obtain ⟨k, i, cur, rfl, rfl, hi, hk8, hkf, HE, HC, hk, hmv⟩ := hrel
    by_cases hk0 : 0 < k
    · have hlt : i < cur.length := by
        rcases Nat.lt_or_ge i cur.length with h | h
        · exact h
        · rw [List.drop_of_length_le h] at hkf; simp at hkf; omega
      obtain ⟨c0, c1, c2⟩ := hk.cells
      obtain ⟨pb, po, c, d0, d1, d2⟩ := hk.piece hlt
      have hfg := hk.frozeng (off + i)
      have hcl : cur.length ≤ 4611686018427387904 := by have := HC.out.1; omega
      have hms : i < ps.length := by have := HC.out.1; omega
      have hdr : cur.drop i = cur[i] :: cur.drop (i + 1) := List.drop_eq_getElem_cons hlt
      have hp := HC.out.2 _ (List.getElem_mem hlt)
      have HN : Hid (∀ m, m = min k cur[i].length → k - m ≤ ((cur.set i (cur[i].drop m)).drop (i + 1)).flatten.length ∧ (cur.set i (cur[i].drop m)).take (i + 1) ++ dropPs (k - m) ((cur.set i (cur[i].drop m)).drop (i + 1)) = dropPs n ps ∧ (cur.set i (cur[i].drop m)).length = ps.length ∧ ∀ p ∈ cur.set i (cur[i].drop m), p.length ≤ 4611686018427387904) := fun m hm => by
        have e1 : (cur.set i (cur[i].drop m)).drop (i + 1) = cur.drop (i + 1) := List.drop_set_of_lt (Nat.lt_succ_self i)
        have e2 : (cur.set i (cur[i].drop m)).take (i + 1) = cur.take i ++ [cur[i].drop m] := by
          rw [List.take_succ_eq_append_getElem (by simpa using hlt), List.take_set_of_le (Nat.le_refl i)]
          simp
        refine ⟨?_, ?_, by rw [List.length_set]; exact HC.out.1, fun p hp => ?_⟩
        · rw [e1]
          rw [hdr, List.flatten_cons, List.length_append] at hkf
          omega
        · rw [e1, e2, ← HE.out, hdr, dropPs, hm]
          simp
        · rcases List.mem_or_eq_of_mem_set hp with h | rfl
          · exact HC.out.2 p h
          · have := HC.out.2 _ (List.getElem_mem hlt)
            rw [List.length_drop]
            omega
      have HW : Hid (∀ (m o2 : Nat), m ≤ cur[i].length → (m < cur[i].length → o2 = po + m) → ∃ cur', cur' = cur.set i (cur[i].drop m) ∧ MWk w₁ bd T B g off cap cur' (wr.setCell ⟨g, off + i, none⟩ (.slice (some ⟨pb, o2, none⟩) (cur[i].length - m) (c - m))).drew ∧ Mv B g W (wr.setCell ⟨g, off + i, none⟩ (.slice (some ⟨pb, o2, none⟩) (cur[i].length - m) (c - m))).drew) := fun m o2 hm ho => by
        obtain ⟨y1, y2⟩ := hk.set (q := cur[i].drop m) (b := pb) (o := o2) (c := c - m) hlt (d2.drop ho) (by rw [List.length_drop]; omega)
        rw [List.length_drop] at y1 y2
        exact ⟨_, rfl, y1.go (Below.refl _ _).drew, (hmv.trans y2).trans (Mv.below (Below.refl _ _).drew)⟩
      clear hdr d2 HE hkf
      generalize cur[i].length = L at d0 d1 hp HN HW
      have hstep : ∀ m : Nat, m = min k L → min (k : Int) (L : Int) = (m : Int) := fun m hm => by omega
      have hgo : ∀ m : Nat, m = min k L → ∃ o2, (if c = m then some (⟨pb, po, none⟩ : Addr) else some ⟨pb, po + m, none⟩) = some ⟨pb, o2, none⟩ ∧ (m < L → o2 = po + m) := fun m hm => by
        by_cases h : c = m
        · exact ⟨po, by rw [if_pos h], fun h2 => by omega⟩
        · exact ⟨po + m, by rw [if_neg h], fun _ => rfl⟩
      obtain ⟨m, hm⟩ : ∃ m, m = min k L := ⟨_, rfl⟩
      have hm1 := hstep m hm
      obtain ⟨o2, hif, ho2⟩ := hgo m hm
      obtain ⟨x1, x2, x3, x4⟩ := HN.out m hm
      obtain ⟨cur', hcur, y1, y2⟩ := HW.out m o2 (by omega) ho2
      rw [← hcur] at x1 x2 x3 x4
      have X2 : Hid _ := x2
      have X34 : Hid (cur'.length = ps.length ∧ ∀ p ∈ cur', p.length ≤ 4611686018427387904) := ⟨x3, x4⟩
      have hmk : m ≤ k ∧ m ≤ L := by omega
      clear HN HW hstep hgo x2 x3 x4 hcur hm ho2
      go_upto_region 4 with fail
      go_region
      go_wp2_with fail
      go_roundw
      case rel => exact ⟨k - m, i + 1, cur', by simp; omega, by simp, by have := X34.out.1; omega, by omega, x1, X2, X34, y1, y2⟩
      case measure => simp only [intOf]; omega
    · obtain rfl : k = 0 := by omega
      have hE := HE.out
      rw [dropPs_zero, List.take_append_drop] at hE
      subst hE
      go_wp2_with fail
      go_end0
      exact ⟨rfl, hk, hmv⟩
def lenAt (B : Nat) (W : World) : Nat := match W.cell? ⟨B, 2, none⟩ with
  | some (.slice _ n _) => n
  | _ => 0
theorem lenAt_of {B n c : Nat} {W : World} {a : Option Addr} (h : W.cell? ⟨B, 2, none⟩ = some (.slice a n c)) : lenAt B W = n := by unfold lenAt; rw [h]
set_option maxHeartbeats 2000000 in
theorem more_any {w₁ : World} {bd T B g off cap : Nat} {ps : List (List Int)} {W : World} (hk : MWk w₁ bd T B g off cap ps W) (hl : ps.length ≤ 4611686018427387904) :
    Calls Tryz.prog 148 #[.pointer (some ⟨B, 0, none⟩)] W fun e W' => ∃ b off' cap' ps', e = .returned (.bool b) ∧ MWk w₁ bd T B g off' cap' ps' W' ∧ Mv B g W W' ∧ (∃ n, ps = List.replicate n [] ++ ps') ∧ ((b = true ∧ ∃ x t r, ps' = (x :: t) :: r) ∨ (b = false ∧ ps' = [])) := by
  go_enter Tryz.func148, Tryz.ntmps148
  go_wp2_with fail
  go_loopw [] (fun wr => ∃ off' cap' ps', MWk w₁ bd T B g off' cap' ps' wr ∧ Mv B g W wr ∧ ∃ n, ps = List.replicate n [] ++ ps') (fun wr => lenAt B wr)
  case atStart => exact ⟨off, cap, ps, hk, Mv.refl _ _ _, 0, by simp⟩
  case round =>
    clear hk
    obtain ⟨off', cap', ps', hk, hmv, n, hn⟩ := hrel
    have hl' : ps'.length ≤ 4611686018427387904 := by have := congrArg List.length hn; simp at this; omega
    obtain ⟨c0, c1, c2⟩ := hk.cells
    have hfr := hk.frozenB 2
    have hcap := hk.cap
    cases ps' with
    | nil =>
      simp only [List.length_nil] at c2
      go_wp2
      go_ret
      exact ⟨false, off', cap', [], rfl, hk, hmv, ⟨n, hn⟩, .inr ⟨rfl, rfl⟩⟩
    | cons p r =>
      obtain ⟨pb, po, c, d0, d1, d2⟩ := hk.piece (j := 0) (by simp)
      simp only [List.getElem_cons_zero, Nat.add_zero] at d0 d1 d2
      simp only [List.length_cons] at c2 hl' hcap
      cases p with
      | nil =>
        have hms := lenAt_of c2
        simp only [List.length_nil] at d0
        by_cases hc1 : cap' = 1
        · obtain ⟨ht, hm2⟩ := hk.tail (o2 := off') (fun h => absurd (List.eq_nil_of_length_eq_zero (by omega)) h)
          have hms2 := lenAt_of ht.cells.2.2
          have e0 : cap' - 1 = 0 := by omega
          rw [e0] at ht hm2 hms2
          clear e0
          go_wp2
          go_roundw
          case rel => exact ⟨_, _, _, ht, hmv.trans hm2, n + 1, by rw [hn]; simp [List.replicate_succ']⟩
          case measure => rw [hms2, hms]; omega
        · obtain ⟨ht, hm2⟩ := hk.tail (o2 := off' + 1) (fun _ => rfl)
          have hms2 := lenAt_of ht.cells.2.2
          go_wp2
          go_roundw
          case rel => exact ⟨_, _, _, ht, hmv.trans hm2, n + 1, by rw [hn]; simp [List.replicate_succ']⟩
          case measure => rw [hms2, hms]; omega
      | cons x t =>
        simp only [List.length_cons] at d0
        go_wp2
        go_ret
        exact ⟨true, off', cap', (x :: t) :: r, rfl, hk, hmv, ⟨n, hn⟩, .inl ⟨rfl, x, t, r, rfl⟩⟩
end Go.Proofs.YtfhpgmlfgjfknaaGreatDoor
