/- Contracts and lemmas (nothing is claimed here). -/
import Derived.Test.YtkjoomdglealmaaGreatDoorJ4
import Derived.Test.YtkjoomdglealmaaGreatDoorJ2
import Derived.Laws.EntriesVeiled
import Derived.WalkKit
import Derived.WalkSpells
import Derived.WalkLawsBesides
import Derived.Laws.IdiomCopy
import Derived.Laws.BytesArg
import Derived.Lib.Strings
import Derived.Deep.OwnRows
import Derived.Laws.IdiomStrings
import Derived.Lib.UnsafeStr
import Derived.Test.YtkjoomdglealmaaGreatDoorProg
import Derived.Defers
import Derived.Recover
import Derived.Deep.RegionHeld
namespace Go.Proofs.YtkjoomdglealmaaGreatDoor
open Go.RowKit Go.Vf

theorem isSmall_any (c : UInt8) (w : World) : Calls Tryz.prog 175 #[.int .u8 (c.toNat : Int)] w fun e w' => e = .returned (.bool (isSmallU c)) ∧ w = w' := by
  have hc := c.toNat_lt
  by_cases h1 : 97 ≤ c.toNat
  · by_cases h2 : c.toNat ≤ 122
    · have hR : isSmallU c = true := by simp [isSmallU, h1, h2]
      have t2 : decide ((c.toNat : Int) ≤ 122) = true := by simp; omega
      rw [hR]
      go_enter Tryz.func175, Tryz.ntmps175
      go_wp2
      go_ret
      exact ⟨rfl, rfl⟩
    · have hR : isSmallU c = false := by simp [isSmallU, h2]
      have t2 : decide ((c.toNat : Int) ≤ 122) = false := by simp; omega
      rw [hR]
      go_enter Tryz.func175, Tryz.ntmps175
      go_wp2
      go_ret
      exact ⟨rfl, rfl⟩
  · have hR : isSmallU c = false := by simp [isSmallU, h1]
    rw [hR]
    go_enter Tryz.func175, Tryz.ntmps175
    go_wp2
    go_ret
    exact ⟨rfl, rfl⟩
theorem isDigit_any (c : UInt8) (w : World) : Calls Tryz.prog 176 #[.int .u8 (c.toNat : Int)] w fun e w' => e = .returned (.bool (isDigU c)) ∧ w = w' := by
  have hc := c.toNat_lt
  by_cases h1 : 48 ≤ c.toNat
  · by_cases h2 : c.toNat ≤ 57
    · have hR : isDigU c = true := by simp [isDigU, h1, h2]
      have t2 : decide ((c.toNat : Int) ≤ 57) = true := by simp; omega
      rw [hR]
      go_enter Tryz.func176, Tryz.ntmps176
      go_wp2
      go_ret
      exact ⟨rfl, rfl⟩
    · have hR : isDigU c = false := by simp [isDigU, h2]
      have t2 : decide ((c.toNat : Int) ≤ 57) = false := by simp; omega
      rw [hR]
      go_enter Tryz.func176, Tryz.ntmps176
      go_wp2
      go_ret
      exact ⟨rfl, rfl⟩
  · have hR : isDigU c = false := by simp [isDigU, h1]
    rw [hR]
    go_enter Tryz.func176, Tryz.ntmps176
    go_wp2
    go_ret
    exact ⟨rfl, rfl⟩
theorem isNameS_eq (s : ByteArray) (h : 0 < s.size) : isNameS s = (decide (s.size ≤ 16) && isSmallU s[0] && s.data.toList.all isNameC) := by
  have hl : s.data.toList = s[0] :: s.data.toList.drop 1 := by
    have := List.drop_eq_getElem_cons (l := s.data.toList) (i := 0) (by rw [← Lib.size_eq]; exact h)
    rw [List.drop_zero] at this
    exact this
  have hs : s.size = s.data.toList.length := Lib.size_eq s
  unfold isNameS
  rw [hs]
  generalize s.data.toList = L at hl
  rw [hl]
  simp only [isNameL, List.all_cons, List.length_cons]
  cases h : isSmallU s[0] with
  | false => simp
  | true => simp [isNameC, h]
theorem isNameS_nil (s : ByteArray) (h : s.size = 0) : isNameS s = false := by
  have : s.data.toList = [] := by
    have : s.data.toList.length = 0 := by rw [← Lib.size_eq]; exact h
    exact List.length_eq_zero_iff.1 this
  unfold isNameS
  rw [this]; rfl
theorem all_dropN {α : Type} (p : α → Bool) (l : List α) (j : Nat) (h : j < l.length) : (l.drop j).all p = (p l[j] && (l.drop (j + 1)).all p) := by
  rw [List.drop_eq_getElem_cons h]; rfl
theorem isName_any (s : ByteArray) (hs : s.size ≤ 281474976710656) (w : World) : Calls Tryz.prog 138 #[.string s] w fun e w' => e = .returned (.bool (isNameS s)) ∧ w = w' := by
  by_cases h0 : s.size = 0
  · have he : s.toList.isEmpty = true := by rw [empty_iff, h0]; rfl
    rw [isNameS_nil s h0]
    clear h0
    go_enter Tryz.func138, Tryz.ntmps138
    go_wp2
    go_ret
    exact ⟨rfl, rfl⟩
  · have hpos : 0 < s.size := by omega
    have he : s.toList.isEmpty = false := by rw [empty_iff]; simpa using h0
    rw [isNameS_eq s hpos]
    by_cases h16 : s.size ≤ 16
    · have hsm := isSmall_any s[0] w
      cases h1 : isSmallU s[0] with
      | false =>
        rw [h1] at hsm
        simp only [Bool.and_false, Bool.false_and]
        go_enter Tryz.func138, Tryz.ntmps138
        go_wp2_with fail
        refine hsm.mono ?_
        rintro _ _ ⟨rfl, rfl⟩
        go_wp2
        go_ret
        exact ⟨rfl, rfl⟩
      | true =>
        rw [h1] at hsm
        generalize hR : (decide (s.size ≤ 16) && true && s.data.toList.all isNameC) = R
        have HR : Hid (R = (s.data.toList.drop 0).all isNameC) := by
          show _ = _
          rw [← hR]; simp [h16]
        clear hR
        have hlen : s.data.toList.length = s.size := (Lib.size_eq s).symm
        go_enter Tryz.func138, Tryz.ntmps138
        go_wp2_with fail
        refine hsm.mono ?_
        rintro _ _ ⟨rfl, rfl⟩
        clear hsm h1
        go_wp2_with fail
        go_loopw [19] (fun i wr => ∃ (j : Nat), j ≤ s.size ∧ i = .int .i64 j ∧ Hid (R = (s.data.toList.drop j).all isNameC) ∧ w = wr) (fun i _ => s.size - (intOf i).toNat)
        case atStart => exact ⟨0, by omega, rfl, HR, rfl⟩
        case round =>
          clear HR
          obtain ⟨j, hj, rfl, HS, rfl⟩ := hrel
          by_cases hlt : j < s.size
          · have HD : Hid (R = (isNameC s[j] && (s.data.toList.drop (j + 1)).all isNameC)) := by
              show _ = _
              rw [HS.out, all_dropN _ _ _ (by omega)]; rfl
            have hsm := isSmall_any s[j] w
            have hdg := isDigit_any s[j] w
            have hc := (s[j]).toNat_lt
            clear HS hlen
            cases h1 : isSmallU s[j] with
            | true =>
              rw [h1] at hsm
              have HD2 : Hid (R = (s.data.toList.drop (j + 1)).all isNameC) := by
                show _ = _
                rw [HD.out, isNameC, h1]; rfl
              clear HD h1 hdg
              go_wp2_with fail
              refine hsm.mono ?_
              rintro _ _ ⟨rfl, rfl⟩
              go_wp2_with fail
              go_roundw
              case rel => exact ⟨j + 1, by omega, by simp, HD2, trivial⟩
              case measure => simp only [intOf]; omega
            | false =>
              rw [h1] at hsm
              cases h2 : isDigU s[j] with
              | true =>
                rw [h2] at hdg
                have HD2 : Hid (R = (s.data.toList.drop (j + 1)).all isNameC) := by
                  show _ = _
                  rw [HD.out, isNameC, h1, h2]; rfl
                clear HD h1 h2
                go_wp2_with fail
                refine hsm.mono ?_
                rintro _ _ ⟨rfl, rfl⟩
                go_wp2_with fail
                refine hdg.mono ?_
                rintro _ _ ⟨rfl, rfl⟩
                go_wp2_with fail
                go_roundw
                case rel => exact ⟨j + 1, by omega, by simp, HD2, trivial⟩
                case measure => simp only [intOf]; omega
              | false =>
                rw [h2] at hdg
                by_cases h3 : s[j] = 45
                · have HD2 : Hid (R = (s.data.toList.drop (j + 1)).all isNameC) := by
                    show _ = _
                    rw [HD.out, isNameC, h1, h2, h3]; rfl
                  have t3 : ((s[j].toNat : Int) != 45) = false := by rw [h3]; rfl
                  clear HD h1 h2 h3
                  go_wp2_with fail
                  refine hsm.mono ?_
                  rintro _ _ ⟨rfl, rfl⟩
                  go_wp2_with fail
                  refine hdg.mono ?_
                  rintro _ _ ⟨rfl, rfl⟩
                  go_wp2_with fail
                  go_roundw
                  case rel => exact ⟨j + 1, by omega, by simp, HD2, trivial⟩
                  case measure => simp only [intOf]; omega
                · have hRn : R = false := by
                    rw [HD.out, isNameC, h1, h2]
                    simp [h3]
                  have t3 : ((s[j].toNat : Int) != 45) = true := by
                    rw [bne_iff_ne]
                    intro e
                    have e' : s[j].toNat = 45 := by omega
                    exact h3 (UInt8.toNat.inj (by rw [e']; rfl))
                  clear HD h1 h2 h3
                  subst hRn
                  go_wp2_with fail
                  refine hsm.mono ?_
                  rintro _ _ ⟨rfl, rfl⟩
                  go_wp2_with fail
                  refine hdg.mono ?_
                  rintro _ _ ⟨rfl, rfl⟩
                  go_wp2_with fail
                  go_ret
                  exact ⟨rfl, rfl⟩
          · have hRn : R = true := by rw [HS.out, List.drop_of_length_le (by omega)]; rfl
            clear HS
            subst hRn
            go_wp2_with fail
            go_ret
            exact ⟨rfl, rfl⟩
    · have hR : (decide (s.size ≤ 16) && isSmallU s[0] && s.data.toList.all isNameC) = false := by simp [h16]
      rw [hR]
      clear hR
      go_enter Tryz.func138, Tryz.ntmps138
      go_wp2
      go_ret
      exact ⟨rfl, rfl⟩

end Go.Proofs.YtkjoomdglealmaaGreatDoor

namespace Go.Proofs.YtkjoomdglealmaaGreatDoor
open Go.RowKit Go.Vf

theorem col_eq (s : Int) (a b : Bool) (w : World) : (Op.equalIn 10000 55 (.agg #[.int .i64 s, .bool a, .bool b]) (.agg #[.int .i64 0, .bool false, .bool false])).run Tryz.prog w = .ok (s == 0 && !a && !b) w := by
  have h : ∀ d, (Op.equalIn (d + 1 + 1) 55 (.agg #[.int .i64 s, .bool a, .bool b]) (.agg #[.int .i64 0, .bool false, .bool false])).run Tryz.prog w = .ok (s == 0 && !a && !b) w := fun d => by
    simp [go_sem]
    by_cases h1 : s = 0 <;> cases a <;> cases b <;> simp [h1]
  exact h 9998
theorem num0 (n : Bool) (m : ByteArray) (z : Bool) (hz : (!n && m.size == 0) = z) (w : World) : (Op.equalIn 10000 27 (.agg #[.bool n, .string m]) (.agg #[.bool false, .string ⟨#[]⟩])).run Tryz.prog w = .ok z w := by
  rw [num_eq, ← hz]
  congr 1
  have := empty_iff m
  cases n <;> simp_all [ByteArray.toList_eq]
def saysN (o : Own) (n : Nat) : Bool := !o.bnd && (!o.ln && o.lm.size == 0) && (!o.hn && o.hm.size == 0) && (o.most == 0) && (o.str == 0 && !o.shf && !o.bck) && (n == 0)
def fC (o : Own) (a : Option Addr) (n c : Nat) : Obj := .cells #[.string o.name, .int .u8 o.kind, .bool o.down, .int .u8 o.nulls, .bool o.bnd, .bool o.ln, .string o.lm, .bool o.hn, .string o.hm, .int .i64 o.most, .int .i64 o.str, .bool o.shf, .bool o.bck, .slice a n c] 57

set_option maxHeartbeats 4000000 in
set_option maxRecDepth 20000 in
theorem saysNothing_any (o : Own) (a : Option Addr) (n c : Nat) (_hn : n ≤ 281474976710656) (w : World) :
    Calls Tryz.prog 179 #[fV o a n c] w fun e w' => e = .returned (.bool (saysN o n)) ∧ Below w.heap.size w w' := by
  unfold fV saysN
  obtain ⟨name, kind, down, nulls, bnd, ln, lm, hn', hm, most, str, shf, bck⟩ := o
  simp only
  have hb1 := ((Below.refl w.heap.size w).alloc (Nat.le_refl _) (.cells #[.string name, .int .u8 kind, .bool down, .int .u8 nulls, .bool bnd, .bool ln, .string lm, .bool hn', .string hm, .int .i64 most, .int .i64 str, .bool shf, .bool bck, .slice a n c] 57)).alloc (by simp) (.cells #[.bool false, .string ⟨#[]⟩] 27)
  obtain ⟨z1, hz1⟩ : ∃ z, (!ln && lm.size == 0) = z := ⟨_, rfl⟩
  obtain ⟨z2, hz2⟩ : ∃ z, (!hn' && hm.size == 0) = z := ⟨_, rfl⟩
  obtain ⟨z3, hz3⟩ : ∃ z, (most == 0) = z := ⟨_, rfl⟩
  obtain ⟨z4, hz4⟩ : ∃ z, (str == 0 && !shf && !bck) = z := ⟨_, rfl⟩
  obtain ⟨z5, hz5⟩ : ∃ z, (n == 0) = z := ⟨_, rfl⟩
  have he1 := num0 ln lm z1 hz1
  have he2 := num0 hn' hm z2 hz2
  have he4 := col_eq str shf bck
  rw [hz4] at he4
  have he5 : ((n : Int) == 0) = z5 := by rw [← hz5, Bool.eq_iff_iff]; simp
  rw [hz1, hz2, hz3, hz4, hz5]
  clear hz1 hz2 hz4 hz5
  cases bnd with
  | true =>
    go_enter Tryz.func179, Tryz.ntmps179
    go_wp2
    go_ret
    exact ⟨rfl, hb1⟩
  | false =>
    cases z1 with
    | false =>
      go_enter Tryz.func179, Tryz.ntmps179
      go_wp2
      go_ret
      exact ⟨rfl, hb1⟩
    | true =>
      cases z2 with
      | false =>
        go_enter Tryz.func179, Tryz.ntmps179
        go_wp2
        go_ret
        exact ⟨rfl, hb1⟩
      | true =>
        cases z3 with
        | false =>
          go_enter Tryz.func179, Tryz.ntmps179
          go_wp2
          go_ret
          exact ⟨rfl, hb1⟩
        | true =>
          cases z4 with
          | false =>
            go_enter Tryz.func179, Tryz.ntmps179
            go_wp2
            go_ret
            exact ⟨rfl, hb1⟩
          | true =>
            cases z5 with
            | false =>
              go_enter Tryz.func179, Tryz.ntmps179
              go_wp2
              go_ret
              exact ⟨rfl, hb1⟩
            | true =>
              go_enter Tryz.func179, Tryz.ntmps179
              go_wp2
              go_ret
              exact ⟨rfl, hb1⟩

end Go.Proofs.YtkjoomdglealmaaGreatDoor

namespace Go.Proofs.YtkjoomdglealmaaGreatDoor
open Go.RowKit Go.Vf

theorem below_set {W : World} {B j : Nat} (v : Value) : Below B W (W.setCell ⟨B, j, none⟩ v) := (Below.refl B W).setCell (Nat.le_refl _) v
theorem stripNothing_any (B : Nat) (w : World) : Calls Tryz.prog 209 #[.pointer (some ⟨B, 0, none⟩)] w fun e w' => e = .returned (.tuple #[]) ∧ w' = w := by
  go_enter Tryz.func209, Tryz.ntmps209
  go_wp2
  go_end0
  exact ⟨rfl, rfl⟩
theorem stripMost_any (B : Nat) (o : Own) (a : Option Addr) (n c : Nat) (w : World) (h : Blk w B 57 (cellsF o a n c)) : Calls Tryz.prog 217 #[.pointer (some ⟨B, 0, none⟩)] w fun e w' => e = .returned (.tuple #[]) ∧ Below B w w' ∧ Blk w' B 57 (cellsF { o with most := 0 } a n c) := by
  have c9 := h.rowF.c9
  have f9 := h.frozen 9
  simp only [Nat.zero_add] at c9
  have hn := h.set 9 (.int .i64 0)
  have hb := below_set (W := w) (B := B) (j := 9) (.int .i64 0)
  clear h
  go_enter Tryz.func217, Tryz.ntmps217
  go_wp2
  go_end0
  exact ⟨rfl, hb, hn⟩
theorem stripCollate_any (B : Nat) (o : Own) (a : Option Addr) (n c : Nat) (w : World) (h : Blk w B 57 (cellsF o a n c)) : Calls Tryz.prog 221 #[.pointer (some ⟨B, 0, none⟩)] w fun e w' => e = .returned (.tuple #[]) ∧ Below B w w' ∧ Blk w' B 57 (cellsF { o with str := 0, shf := false, bck := false } a n c) := by
  have c10 := h.rowF.c10
  have c11 := h.rowF.c11
  have c12 := h.rowF.c12
  simp only [Nat.zero_add] at c10 c11 c12
  have f10 := h.frozen 10
  have f11 := h.frozen 11
  have f12 := h.frozen 12
  have hn := ((h.set 10 (.int .i64 0)).set 11 (.bool false)).set 12 (.bool false)
  have hb := ((below_set (W := w) (B := B) (j := 10) (.int .i64 0)).trans (below_set (j := 11) (.bool false))).trans (below_set (j := 12) (.bool false))
  clear h
  go_enter Tryz.func221, Tryz.ntmps221
  go_wp2
  go_end0
  exact ⟨rfl, hb, hn⟩
theorem stripFields_any (B : Nat) (o : Own) (a : Option Addr) (n c : Nat) (w : World) (h : Blk w B 57 (cellsF o a n c)) : Calls Tryz.prog 224 #[.pointer (some ⟨B, 0, none⟩)] w fun e w' => e = .returned (.tuple #[]) ∧ Below B w w' ∧ Blk w' B 57 (cellsF o none 0 0) := by
  have c13 := h.rowF.c13
  have f13 := h.frozen 13
  simp only [Nat.zero_add] at c13
  have hn := h.set 13 (.slice none 0 0)
  have hb := below_set (W := w) (B := B) (j := 13) (.slice none 0 0)
  clear h
  go_enter Tryz.func224, Tryz.ntmps224
  go_wp2
  go_end0
  exact ⟨rfl, hb, hn⟩
theorem stripBounds_any (B : Nat) (o : Own) (a : Option Addr) (n c : Nat) (w : World) (h : Blk w B 57 (cellsF o a n c)) : Calls Tryz.prog 213 #[.pointer (some ⟨B, 0, none⟩)] w fun e w' => e = .returned (.tuple #[]) ∧ Below B w w' ∧ Blk w' B 57 (cellsF { o with bnd := false, ln := false, lm := ⟨#[]⟩, hn := false, hm := ⟨#[]⟩ } a n c) := by
  have c4 := h.rowF.c4
  have c5 := h.rowF.c5
  have c6 := h.rowF.c6
  have c7 := h.rowF.c7
  have c8 := h.rowF.c8
  simp only [Nat.zero_add] at c4 c5 c6 c7 c8
  have f4 := h.frozen 4
  have f5 := h.frozen 5
  have f6 := h.frozen 6
  have f7 := h.frozen 7
  have f8 := h.frozen 8
  have hn := ((((h.set 4 (.bool false)).set 5 (.bool false)).set 6 (.string ⟨#[]⟩)).set 7 (.bool false)).set 8 (.string ⟨#[]⟩)
  have hb := ((((below_set (W := w) (B := B) (j := 4) (.bool false)).trans (below_set (j := 5) (.bool false))).trans (below_set (j := 6) (.string ⟨#[]⟩))).trans (below_set (j := 7) (.bool false))).trans (below_set (j := 8) (.string ⟨#[]⟩))
  clear h
  go_enter Tryz.func213, Tryz.ntmps213
  go_wp2
  go_end0
  exact ⟨rfl, hb, hn⟩

theorem anyRight_any (o : Own) (a : Option Addr) (n c : Nat) (w : World) : Calls Tryz.prog 208 #[fV o a n c] w fun e w' => e = .returned (.bool true) ∧ Below w.heap.size w w' := by
  unfold fV
  have hb1 := (Below.refl w.heap.size w).alloc (Nat.le_refl _) (fC o a n c)
  unfold fC at hb1
  go_enter Tryz.func208, Tryz.ntmps208
  go_wp2
  go_ret
  exact ⟨rfl, hb1⟩
theorem mostRight_any (o : Own) (a : Option Addr) (n c : Nat) (w : World) : Calls Tryz.prog 216 #[fV o a n c] w fun e w' => e = .returned (.bool (decide (0 ≤ o.most) && decide (o.most ≤ 65536))) ∧ Below w.heap.size w w' := by
  unfold fV
  have hb1 := (Below.refl w.heap.size w).alloc (Nat.le_refl _) (fC o a n c)
  unfold fC at hb1
  cases h1 : decide (0 ≤ o.most) with
  | false =>
    go_enter Tryz.func216, Tryz.ntmps216
    go_wp2
    go_ret
    exact ⟨rfl, hb1⟩
  | true =>
    cases h2 : decide (o.most ≤ 65536) with
    | false =>
      go_enter Tryz.func216, Tryz.ntmps216
      go_wp2
      go_ret
      exact ⟨rfl, hb1⟩
    | true =>
      go_enter Tryz.func216, Tryz.ntmps216
      go_wp2
      go_ret
      exact ⟨rfl, hb1⟩
def colOk (o : Own) : Bool := decide (1 ≤ o.str) && decide (o.str ≤ 4) && (decide (o.str < 4) || o.shf)
theorem collateRight_any (o : Own) (a : Option Addr) (n c : Nat) (w : World) : Calls Tryz.prog 220 #[fV o a n c] w fun e w' => e = .returned (.bool (colOk o)) ∧ Below w.heap.size w w' := by
  unfold fV colOk
  have hb1 := (((Below.refl w.heap.size w).alloc (Nat.le_refl _) (fC o a n c))).alloc (by simp) (.cells #[.int .i64 o.str, .bool o.shf, .bool o.bck] 55)
  unfold fC at hb1
  cases h1 : decide (1 ≤ o.str) with
  | false =>
    go_enter Tryz.func220, Tryz.ntmps220
    go_wp2
    go_ret
    exact ⟨rfl, hb1⟩
  | true =>
    cases h2 : decide (o.str ≤ 4) with
    | false =>
      go_enter Tryz.func220, Tryz.ntmps220
      go_wp2
      go_ret
      exact ⟨rfl, hb1⟩
    | true =>
      cases h3 : decide (o.str < 4) with
      | true =>
        go_enter Tryz.func220, Tryz.ntmps220
        go_wp2
        go_ret
        exact ⟨rfl, hb1⟩
      | false =>
        cases h4 : o.shf with
        | true =>
          rw [h4] at hb1
          go_enter Tryz.func220, Tryz.ntmps220
          go_wp2
          go_ret
          exact ⟨rfl, hb1⟩
        | false =>
          rw [h4] at hb1
          go_enter Tryz.func220, Tryz.ntmps220
          go_wp2
          go_ret
          exact ⟨rfl, hb1⟩

end Go.Proofs.YtkjoomdglealmaaGreatDoor

namespace Go.Vf

def inner : List UInt8 → List UInt8
  | [] => []
  | c :: r => if c = 0 then 0 :: 255 :: inner r else c :: inner r
def cmpL : List UInt8 → List UInt8 → Int
  | [], [] => 0
  | [], _ :: _ => -1
  | _ :: _, [] => 1
  | a :: x, b :: y => if a < b then -1 else if b < a then 1 else cmpL x y

theorem cmpL_same (a : List UInt8) : cmpL a a = 0 := by
  induction a with
  | nil => rfl
  | cons c r ih => simp [cmpL, ih]
theorem cmpL_eq {a b : List UInt8} : cmpL a b = 0 ↔ a = b := by
  fun_induction cmpL a b <;> simp_all
  · rename_i h; intro e; subst e; simp at h
  · rename_i h; intro e; subst e; simp at h
  · rename_i h1 h2 _
    intro _
    exact UInt8.le_antisymm h2 h1
theorem cmpL_three (a b : List UInt8) : cmpL a b = -1 ∨ cmpL a b = 0 ∨ cmpL a b = 1 := by
  fun_induction cmpL a b <;> simp_all
theorem cmpL_neg (a b : List UInt8) : cmpL b a = - cmpL a b := by
  fun_induction cmpL a b <;> simp_all [cmpL]
  · rename_i h; exact UInt8.le_of_lt h
  · rename_i h1 h2 ih
    rw [if_neg (by simpa using h2), if_neg (by simpa using h1)]
end Go.Vf

namespace Go.Vf
open Go.RowKit
variable {P : Program}

def bs (l : List UInt8) : ByteArray := ⟨l.toArray⟩
theorem bs_data (l : List UInt8) : (bs l).data.toList = l := by simp [bs]
theorem data_inj {a b : ByteArray} (h : a.data.toList = b.data.toList) : a = b := by
  obtain ⟨⟨x⟩⟩ := a; obtain ⟨⟨y⟩⟩ := b; simp at h; rw [h]
theorem bs_of (s : ByteArray) : bs s.data.toList = s := data_inj (bs_data _)

structure BRow (w : World) (h : Nat) (l : List UInt8) : Prop where
  cell : ∀ j (hj : j < l.length), w.cell? ⟨h, j, none⟩ = some (.int .u8 ((l[j]'hj).toNat : Int))
  free : ∀ j, j < l.length → w.frozen? ⟨h, j, none⟩ = false

theorem BRow.made (w : World) (n : Nat) (t : TypeId) : BRow (w.alloc (.cells (madeCells #[.int .u8 0] n) t)) w.heap.size (List.replicate n 0) := by
  have h := World.rowIs_made w (.int .u8 0) n t
  refine ⟨fun j hj => ?_, fun j _ => h.frozen j⟩
  rw [h.cell (by simpa using hj)]
  simp

def cellsL (l : List UInt8) : List Value := l.map fun x => Value.int .u8 (x.toNat : Int)
theorem cellsL_length (l : List UInt8) : (cellsL l).length = l.length := by simp [cellsL]

theorem BRow.put {w : World} {h : Nat} {l : List UInt8} (hr : BRow w h l) (n : Nat) (t : List UInt8) (hfit : n + t.length ≤ l.length) : BRow (w.setCells h n (cellsL t)) h (l.take n ++ (t ++ l.drop (n + t.length))) := by
  have hlen : (l.take n ++ (t ++ l.drop (n + t.length))).length = l.length := by simp; omega
  refine ⟨fun j hj => ?_, fun j hj => ?_⟩
  · have hj' : j < l.length := by omega
    by_cases h1 : n ≤ j ∧ j < n + t.length
    · obtain ⟨d, rfl⟩ : ∃ d, j = n + d := ⟨j - n, by omega⟩
      rw [World.cell?_setCells_in h (cellsL t) n w (fun i hi => by rw [cellsL_length] at hi; rw [hr.cell (n + i) (by omega)]; rfl) d (by rw [cellsL_length]; omega)]
      have hd : d < t.length := by omega
      simp [cellsL, hd, Nat.min_eq_left (show n ≤ l.length by omega)]
    · rw [World.cell?_setCells_out h (cellsL t) n w ⟨h, j, none⟩ (fun _ _ => by rw [cellsL_length]; show j < n ∨ _ ≤ j; omega), hr.cell j hj']
      congr 3
      by_cases h2 : j < n
      · simp only [List.getElem_append, List.length_take, Nat.min_eq_left (show n ≤ l.length by omega), h2, dite_true, List.getElem_take]
      · have h3 : n + t.length ≤ j := by omega
        simp only [List.getElem_append, List.length_take, Nat.min_eq_left (show n ≤ l.length by omega), h2, dite_false, show ¬ j - n < t.length by omega, List.getElem_drop]
        congr 2; omega
  · rw [World.frozen?_setCells]
    exact hr.free j (by omega)

theorem below_setCells {B : Nat} {a : World} (b : Nat) (hb : B ≤ b) : ∀ (vs : List Value) (o : Nat) {w : World}, Below B a w → Below B a (w.setCells b o vs)
  | [], _, _, h => h
  | v :: r, o, _, h => below_setCells b hb r (o + 1) (h.setCell (p := ⟨b, o, none⟩) hb v)

def cutV (h N n : Nat) : Value := .slice (some (if N = n then ⟨h, 0, none⟩ else ⟨h, n, none⟩)) (N - n) (N - n)

theorem cutV_zero (h N : Nat) : cutV h N 0 = .slice (some ⟨h, 0, none⟩) N N := by
  unfold cutV
  split <;> simp_all

theorem take_cells (t : ByteArray) (k : Nat) : List.take k (t.data.toList.map fun x => Value.int .u8 (x.toNat : Int)) = cellsL (t.data.toList.take k) := by
  simp [cellsL]

theorem run_copy_str (w : World) (dT sT ty e : TypeId) (h N n : Nat) (t : ByteArray) (l : List UInt8) (hl : l.length = N) (hn : n ≤ N) (hu : P.underlying dT = some (.slice e)) (hz : ∀ w, (Go.sizeOf e).run P w = .ok 1 w) (hr : BRow w h l) :
    (Builtin.copy_ #[dT, sT] ty #[cutV h N n, .string t]).run P w = .ok (.int .i64 (min t.size (N - n) : Nat)) (w.setCells h n (cellsL (t.data.toList.take (N - n)))) := by
  have hlt : (cellsL (t.data.toList.take (N - n))).length = min t.size (N - n) := by rw [cellsL_length, List.length_take, ← Lib.size_eq, Nat.min_comm]
  unfold cutV
  by_cases h0 : N = n
  · subst h0
    simp [Builtin.copy_, run_underlying hu, Builtin.lenOf, Builtin.firstCells, hz, cellsL, World.setCells, storeCells, goInt]
  · rw [if_neg h0]
    have hst := run_storeCells_cells (P := P) h n (cellsL (t.data.toList.take (N - n))) 0 w (by rw [hlt]; intro j hj; rw [Nat.add_zero, hr.cell (n + j) (by omega)]; rfl) (by rw [hlt]; intro j hj; rw [Nat.add_zero]; exact hr.free (n + j) (by omega)) (by
      intro v hv
      obtain ⟨x, _, rfl⟩ := List.mem_map.1 hv
      rfl)
    have hmin : List.take (min t.size (N - n)) (t.data.toList.map fun x => Value.int .u8 (x.toNat : Int)) = cellsL (t.data.toList.take (N - n)) := by
      rw [take_cells]
      congr 1
      by_cases hc : t.size ≤ N - n
      · rw [Nat.min_eq_left hc, List.take_of_length_le (by rw [← Lib.size_eq]; exact Nat.le_refl _), List.take_of_length_le (by rw [← Lib.size_eq]; exact hc)]
      · rw [Nat.min_eq_right (by omega)]
    simp only [Nat.add_zero] at hst
    simp [Builtin.copy_, run_underlying hu, Builtin.lenOf, Builtin.firstCells, hz]
    rw [show t.size.min (N - n) = min t.size (N - n) from rfl, hmin, hst]
    rfl

end Go.Vf

namespace Go.Vf
open Go.RowKit
variable {P : Program}

end Go.Vf

namespace Go.Vf
open Go.RowKit
variable {P : Program}

theorem run_unsafe_row (w : World) (pt it ty e : TypeId) (hp : P.underlying pt = some (.pointer e)) (hc : P.cellsOf e = 1) (g cells : Nat) (hsh : w.shape? g = some (e, cells)) (l : List UInt8) (h0 : l ≠ []) (hn : l.length ≤ cells) (h63 : l.length ≤ 17179869184) (hr : BRow w g l) :
    (Builtin.unsafeString_ #[pt, it] ty #[.pointer (some ⟨g, 0, none⟩), .int .i64 l.length]).run P w = .ok (.string (bs l)) (w.freeze ⟨g, 0, none⟩ l.length) :=
  Lib.run_unsafeString_row (P := P) w pt it ty e hp hc g cells hsh l h0 hn (by omega) (fun j x hx => by
    have hj : j < l.length := (List.getElem?_eq_some_iff.1 hx).1
    have e1 : (⟨g, 0, none⟩ : Addr).add j = ⟨g, j, none⟩ := by
      by_cases h : j = 0
      · subst h; rfl
      · simp [Addr.add, h]
    rw [e1, hr.cell j hj]
    have : l[j] = x := by simpa [hj] using hx
    rw [this])
end Go.Vf

namespace Go.Proofs.YtkjoomdglealmaaGreatDoor
open Go.RowKit Go.Vf

theorem drop_at (s : ByteArray) (k : Nat) (hk : k < s.size) : s.data.toList.drop k = s[k] :: s.data.toList.drop (k + 1) := by
  rw [List.drop_eq_getElem_cons (by rw [← Lib.size_eq]; exact hk)]
  rfl
end Go.Proofs.YtkjoomdglealmaaGreatDoor

namespace Go.Vf

def Parts (A B : List UInt8) (c : Int) : Prop := ∃ pre u v ra rb, A = pre ++ u :: ra ∧ B = pre ++ v :: rb ∧ u ≠ v ∧ c = (if u < v then -1 else 1)

end Go.Vf

namespace Go.Vf

def lval : List UInt8 → Nat
  | [] => 0
  | x :: r => x.toNat + 256 * lval r
end Go.Vf

namespace Go.Proofs.YtkjoomdglealmaaGreatDoor
open Go.RowKit Go.Vf

theorem info5 : (Tryz.prog.info? 5).map (fun i => (i.zero, i.size, i.bytes)) = some (some (.int .u8 0), 1, 1) := by kernel_rfl
theorem size5 (w : World) : (Go.sizeOf 5).run Tryz.prog w = .ok 1 w := by kernel_rfl
theorem cells5 : Tryz.prog.cellsOf 5 = 1 := by kernel_rfl

theorem shape_setCell (g : Nat) (w : World) (a : Addr) (v : Value) : (w.setCell a v).shape? g = w.shape? g := by
  unfold World.shape? World.setCell
  simp only [Array.getElem?_modify]
  by_cases h : a.block = g
  · rw [if_pos h]
    cases w.heap[g]? with
    | none => rfl
    | some o =>
      cases o with
      | cells c e f => by_cases hs : a.spot.isSome = true <;> simp [hs]
      | _ => rfl
  · rw [if_neg h]
theorem shape_setCells (g : Nat) : ∀ (vs : List Value) (b o : Nat) (w : World), (w.setCells b o vs).shape? g = w.shape? g
  | [], _, _, _ => rfl
  | v :: r, b, o, w => by rw [World.setCells, shape_setCells g r b (o + 1), shape_setCell]

set_option maxHeartbeats 400000 in
set_option maxRecDepth 20000 in
theorem sclone_any (s : ByteArray) (w : World) (hs : s.size ≤ 17179869184) :
    Calls Tryz.prog 118 #[.string s] w fun e w' => e = .returned (.string s) ∧ Below w.heap.size w w' := by
  by_cases h0 : s.size = 0
  · obtain rfl : s = bs [] := data_inj (by rw [bs_data]; exact List.eq_nil_of_length_eq_zero (by rw [← Lib.size_eq]; exact h0))
    go_enter Tryz.func118, Tryz.ntmps118
    go_wp2
    go_ret
    exact ⟨rfl, Below.refl _ _⟩
  · have hl : s.data.toList.length = s.size := (Lib.size_eq s).symm
    have hmk : ∀ w : World, (Instr.makeSlice 232 (.int .i64 (s.size : Int)) (.int .i64 (s.size : Int))).run Tryz.prog w = .ok (.slice (some ⟨w.heap.size, 0, none⟩) s.size s.size) (w.alloc (.cells (madeCells #[.int .u8 0] s.size) 5)) := fun w =>
      run_make_row' (P := Tryz.prog) 232 5 (.int .u8 0) 1 Tryz.underlying232 info5 rfl .i64 .i64 s.size (by omega) (by omega) w
    have hm := BRow.made w s.size 5
    have hcp := run_copy_str (P := Tryz.prog) _ 232 9 3 5 w.heap.size s.size 0 s _ (by simp) (Nat.zero_le _) Tryz.underlying232 size5 hm
    have hp := hm.put 0 s.data.toList (by simp [hl])
    rw [cutV_zero, Nat.sub_zero, Nat.min_self, List.take_of_length_le (by omega)] at hcp
    have hsh := shape_setCells w.heap.size (cellsL s.data.toList) w.heap.size 0 (w.alloc (.cells (madeCells #[.int .u8 0] s.size) 5))
    rw [show (w.alloc (.cells (madeCells #[.int .u8 0] s.size) 5)).shape? w.heap.size = some (5, (madeCells #[Value.int .u8 0] s.size).size) by unfold World.shape?; rw [heap_alloc_new]] at hsh
    have hb := below_setCells w.heap.size (Nat.le_refl _) (cellsL s.data.toList) 0 ((Below.refl w.heap.size w).alloc (Nat.le_refl _) (.cells (madeCells #[.int .u8 0] s.size) 5))
    have e1 : (List.take 0 (List.replicate s.size (0 : UInt8)) ++ (s.data.toList ++ List.drop (0 + s.data.toList.length) (List.replicate s.size (0 : UInt8)))) = s.data.toList := by simp [hl]
    rw [e1] at hp
    have hms : (madeCells #[Value.int .u8 0] s.size).size = s.size := by rw [size_madeCells]
    generalize (w.alloc (.cells (madeCells #[.int .u8 0] s.size) 5)).setCells w.heap.size 0 (cellsL s.data.toList) = w2 at hcp hp hsh hb
    have hus := run_unsafe_row (P := Tryz.prog) w2 275 3 9 5 Tryz.underlying275 cells5 w.heap.size _ hsh s.data.toList (fun h => h0 (by rw [← hl, h]; rfl)) (by omega) (by omega) hp
    rw [bs_of, hl] at hus
    clear hm hp hsh e1 hms
    go_enter Tryz.func118, Tryz.ntmps118
    go_wp2
    go_ret
    exact ⟨rfl, Lib.below_freeze hb (p := ⟨w.heap.size, 0, none⟩) (Nat.le_refl _) _⟩

theorem clone_any (s : ByteArray) (w : World) (hs : s.size ≤ 17179869184) :
    Calls Tryz.prog 84 #[.string s] w fun e w' => e = .returned (.string s) ∧ Below w.heap.size w w' := by
  go_enter Tryz.func84, Tryz.ntmps84
  go_wp2_with fail
  refine (sclone_any s _ hs).mono ?_
  rintro e w1 ⟨rfl, hb⟩
  go_wp2
  go_ret
  exact ⟨rfl, hb⟩

abbrev numV (b : Bool) (m : ByteArray) : Value := .agg #[.bool b, .string m]
def chk (b : Bool) (m : List UInt8) : Int := if 255 < m.length then 21 else if (m.isEmpty && b) || m.head? == some 0 then 20 else 0

set_option maxHeartbeats 400000 in
theorem check_any (b : Bool) (m : ByteArray) (hm : m.size ≤ 17179869184) (w : World) :
    Calls Tryz.prog 98 #[numV b m] w fun e w' => e = .returned (.int .i64 (chk b m.data.toList)) ∧ Below w.heap.size w w' := by
  have hl : m.data.toList.length = m.size := (Lib.size_eq m).symm
  have hbel := (Below.refl w.heap.size w).alloc (Nat.le_refl _) (.cells #[.bool b, .string m] 27)
  by_cases h1 : 255 < m.size
  · have hR : chk b m.data.toList = 21 := by simp [chk, hl, h1]
    rw [hR]
    go_enter Tryz.func98, Tryz.ntmps98
    go_wp2
    go_ret
    exact ⟨rfl, hbel⟩
  · by_cases h2 : m.size = 0
    · have hn : m.data.toList = [] := List.eq_nil_of_length_eq_zero (by omega)
      have he : m.toList.isEmpty = true := by rw [ByteArray.toList_eq, hn]; rfl
      rw [hn]
      clear hn hl
      cases b
      all_goals
        go_enter Tryz.func98, Tryz.ntmps98
        go_wp2
        go_ret
        exact ⟨rfl, hbel⟩
    · have he : m.toList.isEmpty = false := by
        rw [ByteArray.toList_eq]
        cases h : m.data.toList with
        | nil => rw [h] at hl; exact absurd hl.symm h2
        | cons x r => rfl
      have h0 : 0 < m.size := by omega
      obtain ⟨r, hd⟩ : ∃ r, m.data.toList = m[0] :: r := ⟨_, (List.drop_zero (l := m.data.toList)).symm.trans (drop_at m 0 h0)⟩
      by_cases h3 : m[0] = 0
      · have hR : chk b m.data.toList = 20 := by
          have h4 : ¬ 255 < m.data.toList.length := by omega
          rw [hd] at h4 ⊢
          simp only [chk, h4, if_false]
          simp [h3]
        have hx : (m[0].toNat : Int) = 0 := by rw [h3]; rfl
        rw [hR]
        clear hR h3 hd
        go_enter Tryz.func98, Tryz.ntmps98
        go_wp2
        go_ret
        exact ⟨rfl, hbel⟩
      · have hR : chk b m.data.toList = 0 := by
          have h4 : ¬ 255 < m.data.toList.length := by omega
          rw [hd] at h4 ⊢
          simp only [chk, h4, if_false]
          simp [h3]
        have hx : ¬ (m[0].toNat : Int) = 0 := fun h => h3 (UInt8.toNat_inj.1 (by simpa using h))
        rw [hR]
        clear hR h3 hd
        go_enter Tryz.func98, Tryz.ntmps98
        go_wp2
        go_ret
        exact ⟨rfl, hbel⟩
end Go.Proofs.YtkjoomdglealmaaGreatDoor

namespace Go.Proofs.YtkjoomdglealmaaGreatDoor
open Go.RowKit Go.Vf

theorem box_num {h : Nat} {v0 v1 : Value} {w w' : World} (hb : Below w.heap.size w w')
    (hS : w.cell? ⟨h, 0, none⟩ = some v0 ∧ w.cell? ⟨h, 1, none⟩ = some v1 ∧ h < w.heap.size) :
    w'.cell? ⟨h, 0, none⟩ = some v0 ∧ w'.cell? ⟨h, 1, none⟩ = some v1 ∧ h < w'.heap.size := by
  obtain ⟨h0, h1, h2⟩ := hS
  exact ⟨(hb.cell (p := ⟨h, 0, none⟩) h2).trans h0, (hb.cell (p := ⟨h, 1, none⟩) h2).trans h1, Nat.lt_of_lt_of_le h2 hb.size⟩
end Go.Proofs.YtkjoomdglealmaaGreatDoor
