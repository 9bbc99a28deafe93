/- Contracts and lemmas (nothing is claimed here). -/
import Derived.Test.YtcbjnifoojjipaaGreatDoorJ1
import Derived.Below
import Derived.BigFrame
import Derived.BigRegion
import Derived.Deep.Cut
import Derived.Deep.LoopGhost
import Derived.Deep.OwnRows
import Derived.Deep.QuietTactic
import Derived.Deep.RegionHeld
import Derived.Deep.RegionHeldLaw
import Derived.Deep.RegionWith
import Derived.Deep.Slices
import Derived.Laws.BytesArg
import Derived.Laws.Rows
import Derived.Lib.SliceRun
import Derived.Lib.Strings
import Derived.OpenShut
import Derived.OwnWalk
import Derived.ProofKit
import Derived.SizedLaws
import Derived.Stop.Asserts
import Derived.WalkKit
import Derived.WalkLawsBesides
import Derived.WalkMore
import Derived.WalkSpells
import Derived.Test.YtcbjnifoojjipaaGreatDoorJ2
import Derived.Laws.EntriesVeiled
namespace Go.Proofs.YtcbjnifoojjipaaGreatDoor
open Go.ChangeShapes Go.WideShapes Go.ChangeAt Go.RowKit Go.Deep Go.Vf
theorem num_eq (p : Bool) (A : ByteArray) (q : Bool) (B : ByteArray) (w : World) : (Op.equalIn 10000 44 (.agg #[.bool p, .string A]) (.agg #[.bool q, .string B])).run Tryz.prog w = .ok (p == q && A.toList == B.toList) w := by
  have h : ∀ d, (Op.equalIn (d + 1 + 1) 44 (.agg #[.bool p, .string A]) (.agg #[.bool q, .string B])).run Tryz.prog w = .ok (p == q && A.toList == B.toList) w := fun d => by
    simp [go_sem]
    by_cases h1 : p = q <;> by_cases h2 : A.toList = B.toList <;> simp [h1, h2]
  exact h 9998
theorem empty_iff (r : ByteArray) : r.toList.isEmpty = (r.size == 0) := by
  rw [ByteArray.toList_eq]
  rw [Lib.size_eq]
  cases r.data.toList <;> simp
theorem made_size (z : Array Value) (n : Nat) : (madeCells z n).size = n := size_madeCells z n
theorem reach_eq : reachBytes = 140737488351232 := rfl
theorem choose_list {α : Type} {P : Nat → α → Prop} : ∀ n, (∀ i, i < n → ∃ z, P i z) → ∃ zs : List α, zs.length = n ∧ ∀ i (h : i < zs.length), P i zs[i]
  | 0, _ => ⟨[], rfl, fun i h => absurd h (by simp)⟩
  | n + 1, h => by
    obtain ⟨zs, hl, hz⟩ := choose_list n (fun i hi => h i (by omega))
    obtain ⟨z, hzn⟩ := h n (by omega)
    refine ⟨zs ++ [z], by simp [hl], fun i hi => ?_⟩
    by_cases hin : i < n
    · rw [List.getElem_append_left (by omega)]; exact hz i (by omega)
    · obtain rfl : i = n := by simp [hl] at hi; omega
      rw [List.getElem_append_right (by omega)]
      simpa [hl] using hzn
theorem weightsAll_mem {H : Type} {P : Program} {e : TypeId} : ∀ {l : List (DataW H)} {d : DataW H}, d ∈ l → ∀ n ∈ d.weights P e, n ∈ DataW.weightsAll P e l
  | d' :: r, d, hd, n, hn => by
    simp only [DataW.weightsAll, List.mem_append]
    rcases List.mem_cons.1 hd with rfl | h
    · exact Or.inl hn
    · exact Or.inr (weightsAll_mem h n hn)
theorem list_two {α : Type} {l : List α} (h : l.length = 2) : ∃ a b, l = [a, b] := by
  match l, h with
  | [a, b], _ => exact ⟨a, b, rfl⟩
end Go.Proofs.YtcbjnifoojjipaaGreatDoor
namespace Go.Proofs.YtcbjnifoojjipaaGreatDoor
open Go.RowKit Go.Vf
theorem isSmall_any (c : UInt8) (w : World) : Calls Tryz.prog 112 #[.int .u8 (c.toNat : Int)] w fun e w' => e = .returned (.bool (isSmallU c)) ∧ w = w' := by
  have hc := c.toNat_lt
  by_cases h1 : 97 ≤ c.toNat
  · by_cases h2 : c.toNat ≤ 122
    · have hR : isSmallU c = true := by simp [isSmallU, h1, h2]
      have t2 : decide ((c.toNat : Int) ≤ 122) = true := by simp; omega
      rw [hR]
      go_enter Tryz.func112, Tryz.ntmps112
      go_wp2
      go_ret
      exact ⟨rfl, rfl⟩
    · have hR : isSmallU c = false := by simp [isSmallU, h2]
      have t2 : decide ((c.toNat : Int) ≤ 122) = false := by simp; omega
      rw [hR]
      go_enter Tryz.func112, Tryz.ntmps112
      go_wp2
      go_ret
      exact ⟨rfl, rfl⟩
  · have hR : isSmallU c = false := by simp [isSmallU, h1]
    rw [hR]
    go_enter Tryz.func112, Tryz.ntmps112
    go_wp2
    go_ret
    exact ⟨rfl, rfl⟩
theorem isDigit_any (c : UInt8) (w : World) : Calls Tryz.prog 105 #[.int .u8 (c.toNat : Int)] w fun e w' => e = .returned (.bool (isDigU c)) ∧ w = w' := by
  have hc := c.toNat_lt
  by_cases h1 : 48 ≤ c.toNat
  · by_cases h2 : c.toNat ≤ 57
    · have hR : isDigU c = true := by simp [isDigU, h1, h2]
      have t2 : decide ((c.toNat : Int) ≤ 57) = true := by simp; omega
      rw [hR]
      go_enter Tryz.func105, Tryz.ntmps105
      go_wp2
      go_ret
      exact ⟨rfl, rfl⟩
    · have hR : isDigU c = false := by simp [isDigU, h2]
      have t2 : decide ((c.toNat : Int) ≤ 57) = false := by simp; omega
      rw [hR]
      go_enter Tryz.func105, Tryz.ntmps105
      go_wp2
      go_ret
      exact ⟨rfl, rfl⟩
  · have hR : isDigU c = false := by simp [isDigU, h1]
    rw [hR]
    go_enter Tryz.func105, Tryz.ntmps105
    go_wp2
    go_ret
    exact ⟨rfl, rfl⟩
theorem isNameS_eq (s : ByteArray) (h : 0 < s.size) : isNameS s = (decide (s.size ≤ 16) && isSmallU s[0] && s.data.toList.all isNameC) := by
  have hl : s.data.toList = s[0] :: s.data.toList.drop 1 := by
    have := List.drop_eq_getElem_cons (l := s.data.toList) (i := 0) (by rw [← Lib.size_eq]; exact h)
    rw [List.drop_zero] at this
    exact this
  have hs : s.size = s.data.toList.length := Lib.size_eq s
  unfold isNameS
  rw [hs]
  generalize s.data.toList = L at hl
  rw [hl]
  simp only [isNameL, List.all_cons, List.length_cons]
  cases h : isSmallU s[0] with
  | false => simp
  | true => simp [isNameC, h]
theorem isNameS_nil (s : ByteArray) (h : s.size = 0) : isNameS s = false := by
  have : s.data.toList = [] := by
    have : s.data.toList.length = 0 := by rw [← Lib.size_eq]; exact h
    exact List.length_eq_zero_iff.1 this
  unfold isNameS
  rw [this]; rfl
theorem all_dropN {α : Type} (p : α → Bool) (l : List α) (j : Nat) (h : j < l.length) : (l.drop j).all p = (p l[j] && (l.drop (j + 1)).all p) := by
  rw [List.drop_eq_getElem_cons h]; rfl
theorem isName_any (s : ByteArray) (hs : s.size ≤ 281474976710656) (w : World) : Calls Tryz.prog 83 #[.string s] w fun e w' => e = .returned (.bool (isNameS s)) ∧ w = w' := by
  by_cases h0 : s.size = 0
  · have he : s.toList.isEmpty = true := by rw [empty_iff, h0]; rfl
    rw [isNameS_nil s h0]
    clear h0
    go_enter Tryz.func83, Tryz.ntmps83
    go_wp2
    go_ret
    exact ⟨rfl, rfl⟩
  · have hpos : 0 < s.size := by omega
    have he : s.toList.isEmpty = false := by rw [empty_iff]; simpa using h0
    rw [isNameS_eq s hpos]
    by_cases h16 : s.size ≤ 16
    · have hsm := isSmall_any s[0] w
      cases h1 : isSmallU s[0] with
      | false =>
        rw [h1] at hsm
        simp only [Bool.and_false, Bool.false_and]
        go_enter Tryz.func83, Tryz.ntmps83
        go_wp2_with fail
        refine hsm.mono ?_
        rintro _ _ ⟨rfl, rfl⟩
        go_wp2
        go_ret
        exact ⟨rfl, rfl⟩
      | true =>
        rw [h1] at hsm
        generalize hR : (decide (s.size ≤ 16) && true && s.data.toList.all isNameC) = R
        have HR : Hid (R = (s.data.toList.drop 0).all isNameC) := by
          show _ = _
          rw [← hR]; simp [h16]
        clear hR
        have hlen : s.data.toList.length = s.size := (Lib.size_eq s).symm
        go_enter Tryz.func83, Tryz.ntmps83
        go_wp2_with fail
        refine hsm.mono ?_
        rintro _ _ ⟨rfl, rfl⟩
        clear hsm h1
        go_wp2_with fail
        go_loopw [19] (fun i wr => ∃ (j : Nat), j ≤ s.size ∧ i = .int .i64 j ∧ Hid (R = (s.data.toList.drop j).all isNameC) ∧ w = wr) (fun i _ => s.size - (intOf i).toNat)
        case atStart => exact ⟨0, by omega, rfl, HR, rfl⟩
        case round =>
          clear HR
          obtain ⟨j, hj, rfl, HS, rfl⟩ := hrel
          by_cases hlt : j < s.size
          · have HD : Hid (R = (isNameC s[j] && (s.data.toList.drop (j + 1)).all isNameC)) := by
              show _ = _
              rw [HS.out, all_dropN _ _ _ (by omega)]; rfl
            have hsm := isSmall_any s[j] w
            have hdg := isDigit_any s[j] w
            have hc := (s[j]).toNat_lt
            clear HS hlen
            cases h1 : isSmallU s[j] with
            | true =>
              rw [h1] at hsm
              have HD2 : Hid (R = (s.data.toList.drop (j + 1)).all isNameC) := by
                show _ = _
                rw [HD.out, isNameC, h1]; rfl
              clear HD h1 hdg
              go_wp2_with fail
              refine hsm.mono ?_
              rintro _ _ ⟨rfl, rfl⟩
              go_wp2_with fail
              go_roundw
              case rel => exact ⟨j + 1, by omega, by simp, HD2, trivial⟩
              case measure => simp only [intOf]; omega
            | false =>
              rw [h1] at hsm
              cases h2 : isDigU s[j] with
              | true =>
                rw [h2] at hdg
                have HD2 : Hid (R = (s.data.toList.drop (j + 1)).all isNameC) := by
                  show _ = _
                  rw [HD.out, isNameC, h1, h2]; rfl
                clear HD h1 h2
                go_wp2_with fail
                refine hsm.mono ?_
                rintro _ _ ⟨rfl, rfl⟩
                go_wp2_with fail
                refine hdg.mono ?_
                rintro _ _ ⟨rfl, rfl⟩
                go_wp2_with fail
                go_roundw
                case rel => exact ⟨j + 1, by omega, by simp, HD2, trivial⟩
                case measure => simp only [intOf]; omega
              | false =>
                rw [h2] at hdg
                by_cases h3 : s[j] = 45
                · have HD2 : Hid (R = (s.data.toList.drop (j + 1)).all isNameC) := by
                    show _ = _
                    rw [HD.out, isNameC, h1, h2, h3]; rfl
                  have t3 : ((s[j].toNat : Int) != 45) = false := by rw [h3]; rfl
                  clear HD h1 h2 h3
                  go_wp2_with fail
                  refine hsm.mono ?_
                  rintro _ _ ⟨rfl, rfl⟩
                  go_wp2_with fail
                  refine hdg.mono ?_
                  rintro _ _ ⟨rfl, rfl⟩
                  go_wp2_with fail
                  go_roundw
                  case rel => exact ⟨j + 1, by omega, by simp, HD2, trivial⟩
                  case measure => simp only [intOf]; omega
                · have hRn : R = false := by
                    rw [HD.out, isNameC, h1, h2]
                    simp [h3]
                  have t3 : ((s[j].toNat : Int) != 45) = true := by
                    rw [bne_iff_ne]
                    intro e
                    have e' : s[j].toNat = 45 := by omega
                    exact h3 (UInt8.toNat.inj (by rw [e']; rfl))
                  clear HD h1 h2 h3
                  subst hRn
                  go_wp2_with fail
                  refine hsm.mono ?_
                  rintro _ _ ⟨rfl, rfl⟩
                  go_wp2_with fail
                  refine hdg.mono ?_
                  rintro _ _ ⟨rfl, rfl⟩
                  go_wp2_with fail
                  go_ret
                  exact ⟨rfl, rfl⟩
          · have hRn : R = true := by rw [HS.out, List.drop_of_length_le (by omega)]; rfl
            clear HS
            subst hRn
            go_wp2_with fail
            go_ret
            exact ⟨rfl, rfl⟩
    · have hR : (decide (s.size ≤ 16) && isSmallU s[0] && s.data.toList.all isNameC) = false := by simp [h16]
      rw [hR]
      clear hR
      go_enter Tryz.func83, Tryz.ntmps83
      go_wp2
      go_ret
      exact ⟨rfl, rfl⟩
theorem col_eq (s : Int) (a b : Bool) (w : World) : (Op.equalIn 10000 46 (.agg #[.int .i64 s, .bool a, .bool b]) (.agg #[.int .i64 0, .bool false, .bool false])).run Tryz.prog w = .ok (s == 0 && !a && !b) w := by
  have h : ∀ d, (Op.equalIn (d + 1 + 1) 46 (.agg #[.int .i64 s, .bool a, .bool b]) (.agg #[.int .i64 0, .bool false, .bool false])).run Tryz.prog w = .ok (s == 0 && !a && !b) w := fun d => by
    simp [go_sem]
    by_cases h1 : s = 0 <;> cases a <;> cases b <;> simp [h1]
  exact h 9998
theorem num0 (n : Bool) (m : ByteArray) (z : Bool) (hz : (!n && m.size == 0) = z) (w : World) : (Op.equalIn 10000 44 (.agg #[.bool n, .string m]) (.agg #[.bool false, .string ⟨#[]⟩])).run Tryz.prog w = .ok z w := by
  rw [num_eq, ← hz]
  congr 1
  have := empty_iff m
  cases n <;> simp_all [ByteArray.toList_eq]
def saysN (o : Own) (n : Nat) : Bool := !o.bnd && (!o.ln && o.lm.size == 0) && (!o.hn && o.hm.size == 0) && (o.most == 0) && (o.str == 0 && !o.shf && !o.bck) && (n == 0)
def fC (o : Own) (a : Option Addr) (n c : Nat) : Obj := .cells #[.string o.name, .int .u8 o.kind, .bool o.down, .int .u8 o.nulls, .bool o.bnd, .bool o.ln, .string o.lm, .bool o.hn, .string o.hm, .int .i64 o.most, .int .i64 o.str, .bool o.shf, .bool o.bck, .slice a n c] 48
set_option maxHeartbeats 4000000 in
set_option maxRecDepth 20000 in
theorem saysNothing_any (o : Own) (a : Option Addr) (n c : Nat) (_hn : n ≤ 281474976710656) (w : World) :
    Calls Tryz.prog 114 #[fV o a n c] w fun e w' => e = .returned (.bool (saysN o n)) ∧ Below w.heap.size w w' := by
  unfold fV saysN
  obtain ⟨name, kind, down, nulls, bnd, ln, lm, hn', hm, most, str, shf, bck⟩ := o
  simp only
  have hb1 := ((Below.refl w.heap.size w).alloc (Nat.le_refl _) (.cells #[.string name, .int .u8 kind, .bool down, .int .u8 nulls, .bool bnd, .bool ln, .string lm, .bool hn', .string hm, .int .i64 most, .int .i64 str, .bool shf, .bool bck, .slice a n c] 48)).alloc (by simp) (.cells #[.bool false, .string ⟨#[]⟩] 44)
  obtain ⟨z1, hz1⟩ : ∃ z, (!ln && lm.size == 0) = z := ⟨_, rfl⟩
  obtain ⟨z2, hz2⟩ : ∃ z, (!hn' && hm.size == 0) = z := ⟨_, rfl⟩
  obtain ⟨z3, hz3⟩ : ∃ z, (most == 0) = z := ⟨_, rfl⟩
  obtain ⟨z4, hz4⟩ : ∃ z, (str == 0 && !shf && !bck) = z := ⟨_, rfl⟩
  obtain ⟨z5, hz5⟩ : ∃ z, (n == 0) = z := ⟨_, rfl⟩
  have he1 := num0 ln lm z1 hz1
  have he2 := num0 hn' hm z2 hz2
  have he4 := col_eq str shf bck
  rw [hz4] at he4
  have he5 : ((n : Int) == 0) = z5 := by rw [← hz5, Bool.eq_iff_iff]; simp
  rw [hz1, hz2, hz3, hz4, hz5]
  clear hz1 hz2 hz4 hz5
  cases bnd with
  | true =>
    go_enter Tryz.func114, Tryz.ntmps114
    go_wp2
    go_ret
    exact ⟨rfl, hb1⟩
  | false =>
    cases z1 with
    | false =>
      go_enter Tryz.func114, Tryz.ntmps114
      go_wp2
      go_ret
      exact ⟨rfl, hb1⟩
    | true =>
      cases z2 with
      | false =>
        go_enter Tryz.func114, Tryz.ntmps114
        go_wp2
        go_ret
        exact ⟨rfl, hb1⟩
      | true =>
        cases z3 with
        | false =>
          go_enter Tryz.func114, Tryz.ntmps114
          go_wp2
          go_ret
          exact ⟨rfl, hb1⟩
        | true =>
          cases z4 with
          | false =>
            go_enter Tryz.func114, Tryz.ntmps114
            go_wp2
            go_ret
            exact ⟨rfl, hb1⟩
          | true =>
            cases z5 with
            | false =>
              go_enter Tryz.func114, Tryz.ntmps114
              go_wp2
              go_ret
              exact ⟨rfl, hb1⟩
            | true =>
              go_enter Tryz.func114, Tryz.ntmps114
              go_wp2
              go_ret
              exact ⟨rfl, hb1⟩
theorem below_set {W : World} {B j : Nat} (v : Value) : Below B W (W.setCell ⟨B, j, none⟩ v) := (Below.refl B W).setCell (Nat.le_refl _) v
theorem stripNothing_any (B : Nat) (w : World) : Calls Tryz.prog 124 #[.pointer (some ⟨B, 0, none⟩)] w fun e w' => e = .returned (.tuple #[]) ∧ w' = w := by
  go_enter Tryz.func124, Tryz.ntmps124
  go_wp2
  go_end0
  exact ⟨rfl, rfl⟩
theorem stripMost_any (B : Nat) (o : Own) (a : Option Addr) (n c : Nat) (w : World) (h : Blk w B 48 (cellsF o a n c)) : Calls Tryz.prog 132 #[.pointer (some ⟨B, 0, none⟩)] w fun e w' => e = .returned (.tuple #[]) ∧ Below B w w' ∧ Blk w' B 48 (cellsF { o with most := 0 } a n c) := by
  have c9 := h.rowF.c9
  have f9 := h.frozen 9
  simp only [Nat.zero_add] at c9
  have hn := h.set 9 (.int .i64 0)
  have hb := below_set (W := w) (B := B) (j := 9) (.int .i64 0)
  clear h
  go_enter Tryz.func132, Tryz.ntmps132
  go_wp2
  go_end0
  exact ⟨rfl, hb, hn⟩
theorem stripCollate_any (B : Nat) (o : Own) (a : Option Addr) (n c : Nat) (w : World) (h : Blk w B 48 (cellsF o a n c)) : Calls Tryz.prog 136 #[.pointer (some ⟨B, 0, none⟩)] w fun e w' => e = .returned (.tuple #[]) ∧ Below B w w' ∧ Blk w' B 48 (cellsF { o with str := 0, shf := false, bck := false } a n c) := by
  have c10 := h.rowF.c10
  have c11 := h.rowF.c11
  have c12 := h.rowF.c12
  simp only [Nat.zero_add] at c10 c11 c12
  have f10 := h.frozen 10
  have f11 := h.frozen 11
  have f12 := h.frozen 12
  have hn := ((h.set 10 (.int .i64 0)).set 11 (.bool false)).set 12 (.bool false)
  have hb := ((below_set (W := w) (B := B) (j := 10) (.int .i64 0)).trans (below_set (j := 11) (.bool false))).trans (below_set (j := 12) (.bool false))
  clear h
  go_enter Tryz.func136, Tryz.ntmps136
  go_wp2
  go_end0
  exact ⟨rfl, hb, hn⟩
theorem stripFields_any (B : Nat) (o : Own) (a : Option Addr) (n c : Nat) (w : World) (h : Blk w B 48 (cellsF o a n c)) : Calls Tryz.prog 139 #[.pointer (some ⟨B, 0, none⟩)] w fun e w' => e = .returned (.tuple #[]) ∧ Below B w w' ∧ Blk w' B 48 (cellsF o none 0 0) := by
  have c13 := h.rowF.c13
  have f13 := h.frozen 13
  simp only [Nat.zero_add] at c13
  have hn := h.set 13 (.slice none 0 0)
  have hb := below_set (W := w) (B := B) (j := 13) (.slice none 0 0)
  clear h
  go_enter Tryz.func139, Tryz.ntmps139
  go_wp2
  go_end0
  exact ⟨rfl, hb, hn⟩
theorem stripBounds_any (B : Nat) (o : Own) (a : Option Addr) (n c : Nat) (w : World) (h : Blk w B 48 (cellsF o a n c)) : Calls Tryz.prog 128 #[.pointer (some ⟨B, 0, none⟩)] w fun e w' => e = .returned (.tuple #[]) ∧ Below B w w' ∧ Blk w' B 48 (cellsF { o with bnd := false, ln := false, lm := ⟨#[]⟩, hn := false, hm := ⟨#[]⟩ } a n c) := by
  have c4 := h.rowF.c4
  have c5 := h.rowF.c5
  have c6 := h.rowF.c6
  have c7 := h.rowF.c7
  have c8 := h.rowF.c8
  simp only [Nat.zero_add] at c4 c5 c6 c7 c8
  have f4 := h.frozen 4
  have f5 := h.frozen 5
  have f6 := h.frozen 6
  have f7 := h.frozen 7
  have f8 := h.frozen 8
  have hn := ((((h.set 4 (.bool false)).set 5 (.bool false)).set 6 (.string ⟨#[]⟩)).set 7 (.bool false)).set 8 (.string ⟨#[]⟩)
  have hb := ((((below_set (W := w) (B := B) (j := 4) (.bool false)).trans (below_set (j := 5) (.bool false))).trans (below_set (j := 6) (.string ⟨#[]⟩))).trans (below_set (j := 7) (.bool false))).trans (below_set (j := 8) (.string ⟨#[]⟩))
  clear h
  go_enter Tryz.func128, Tryz.ntmps128
  go_wp2
  go_end0
  exact ⟨rfl, hb, hn⟩
theorem anyRight_any (o : Own) (a : Option Addr) (n c : Nat) (w : World) : Calls Tryz.prog 123 #[fV o a n c] w fun e w' => e = .returned (.bool true) ∧ Below w.heap.size w w' := by
  unfold fV
  have hb1 := (Below.refl w.heap.size w).alloc (Nat.le_refl _) (fC o a n c)
  unfold fC at hb1
  go_enter Tryz.func123, Tryz.ntmps123
  go_wp2
  go_ret
  exact ⟨rfl, hb1⟩
theorem mostRight_any (o : Own) (a : Option Addr) (n c : Nat) (w : World) : Calls Tryz.prog 131 #[fV o a n c] w fun e w' => e = .returned (.bool (decide (0 ≤ o.most) && decide (o.most ≤ 65536))) ∧ Below w.heap.size w w' := by
  unfold fV
  have hb1 := (Below.refl w.heap.size w).alloc (Nat.le_refl _) (fC o a n c)
  unfold fC at hb1
  cases h1 : decide (0 ≤ o.most) with
  | false =>
    go_enter Tryz.func131, Tryz.ntmps131
    go_wp2
    go_ret
    exact ⟨rfl, hb1⟩
  | true =>
    cases h2 : decide (o.most ≤ 65536) with
    | false =>
      go_enter Tryz.func131, Tryz.ntmps131
      go_wp2
      go_ret
      exact ⟨rfl, hb1⟩
    | true =>
      go_enter Tryz.func131, Tryz.ntmps131
      go_wp2
      go_ret
      exact ⟨rfl, hb1⟩
def colOk (o : Own) : Bool := decide (1 ≤ o.str) && decide (o.str ≤ 4) && (decide (o.str < 4) || o.shf)
theorem collateRight_any (o : Own) (a : Option Addr) (n c : Nat) (w : World) : Calls Tryz.prog 135 #[fV o a n c] w fun e w' => e = .returned (.bool (colOk o)) ∧ Below w.heap.size w w' := by
  unfold fV colOk
  have hb1 := (((Below.refl w.heap.size w).alloc (Nat.le_refl _) (fC o a n c))).alloc (by simp) (.cells #[.int .i64 o.str, .bool o.shf, .bool o.bck] 46)
  unfold fC at hb1
  cases h1 : decide (1 ≤ o.str) with
  | false =>
    go_enter Tryz.func135, Tryz.ntmps135
    go_wp2
    go_ret
    exact ⟨rfl, hb1⟩
  | true =>
    cases h2 : decide (o.str ≤ 4) with
    | false =>
      go_enter Tryz.func135, Tryz.ntmps135
      go_wp2
      go_ret
      exact ⟨rfl, hb1⟩
    | true =>
      cases h3 : decide (o.str < 4) with
      | true =>
        go_enter Tryz.func135, Tryz.ntmps135
        go_wp2
        go_ret
        exact ⟨rfl, hb1⟩
      | false =>
        cases h4 : o.shf with
        | true =>
          rw [h4] at hb1
          go_enter Tryz.func135, Tryz.ntmps135
          go_wp2
          go_ret
          exact ⟨rfl, hb1⟩
        | false =>
          rw [h4] at hb1
          go_enter Tryz.func135, Tryz.ntmps135
          go_wp2
          go_ret
          exact ⟨rfl, hb1⟩
end Go.Proofs.YtcbjnifoojjipaaGreatDoor
