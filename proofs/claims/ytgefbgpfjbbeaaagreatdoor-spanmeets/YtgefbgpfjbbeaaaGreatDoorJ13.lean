/- Contracts and lemmas (nothing is claimed here). -/
import Derived.Test.YtgefbgpfjbbeaaaGreatDoorSpG
namespace Go.Proofs.YtgefbgpfjbbeaaaGreatDoor
open Go.RowKit Go.Vf

set_option maxHeartbeats 1000000 in
theorem rcompare_any (a b : ByteArray) (w : World) (ha : a.size ≤ 17179869184) (_hb : b.size ≤ 17179869184) :
    Calls Tryz.prog 17 #[.string a, .string b] w fun e w' => e = .returned (.int .i64 (cmpL a.data.toList b.data.toList)) ∧ Below w.heap.size w w' := by
  obtain ⟨R, hR⟩ : ∃ R, cmpL a.data.toList b.data.toList = R := ⟨_, rfl⟩
  rw [hR]
  have HR : Hid (cmpL a.data.toList b.data.toList = R) := hR
  clear hR
  go_enter Tryz.func17, Tryz.ntmps17
  go_wp2
  go_loopw [5] (fun i wr => ∃ k : Nat, k ≤ a.size ∧ k ≤ b.size ∧ i = .int .i64 k ∧ Hid (R = cmpL (a.data.toList.drop k) (b.data.toList.drop k)) ∧ Below w.heap.size w wr) (fun i _ => a.size - (intOf i).toNat)
  case atStart => exact ⟨0, Nat.zero_le _, Nat.zero_le _, rfl, HR.out.symm, Below.refl _ _⟩
  case round =>
    obtain ⟨k, hka, hkb, rfl, HI, hbel⟩ := hrel
    by_cases h1 : k < a.size
    · by_cases h2 : k < b.size
      · have hda : a.data.toList.drop k = a[k] :: a.data.toList.drop (k + 1) := by
          rw [List.drop_eq_getElem_cons (by rw [← Lib.size_eq]; exact h1)]; rfl
        have hdb : b.data.toList.drop k = b[k] :: b.data.toList.drop (k + 1) := by
          rw [List.drop_eq_getElem_cons (by rw [← Lib.size_eq]; exact h2)]; rfl
        have hI := HI.out
        rw [hda, hdb] at hI
        by_cases h3 : (a[k].toNat : Int) < (b[k].toNat : Int)
        · have HI2 : Hid (R = -1) := by show _ = _; rw [hI]; simp [cmpL, UInt8.lt_iff_toNat_lt, show a[k].toNat < b[k].toNat by omega]
          clear hI hda hdb HI
          go_wp2
          go_quiet (fail)
          have hbel2 := below_drewN hbel nq
          generalize wr.drewN nq = wr2 at hbel2 ⊢
          go_wp2
          go_ret
          exact ⟨by rw [HI2.out]; rfl, hbel2⟩
        · by_cases h4 : (b[k].toNat : Int) < (a[k].toNat : Int)
          · have HI2 : Hid (R = 1) := by show _ = _; rw [hI]; simp [cmpL, UInt8.lt_iff_toNat_lt, show b[k].toNat < a[k].toNat by omega, show ¬ a[k].toNat < b[k].toNat by omega]
            clear hI hda hdb HI
            go_wp2
            go_quiet (fail)
            have hbel2 := below_drewN hbel nq
            generalize wr.drewN nq = wr2 at hbel2 ⊢
            go_wp2
            go_quiet (fail)
            go_wp2
            go_ret
            exact ⟨by rw [HI2.out]; rfl, below_drewN hbel2 _⟩
          · have HI2 : Hid (R = cmpL (a.data.toList.drop (k + 1)) (b.data.toList.drop (k + 1))) := by show _ = _; rw [hI]; simp [cmpL, UInt8.lt_iff_toNat_lt, show ¬ b[k].toNat < a[k].toNat by omega, show ¬ a[k].toNat < b[k].toNat by omega]
            clear hI hda hdb HI
            go_wp2
            go_quiet (fail)
            have hbel2 := below_drewN hbel nq
            generalize wr.drewN nq = wr2 at hbel2 ⊢
            go_wp2
            go_quiet (fail)
            go_wp2
            go_roundw
            case rel => exact ⟨k + 1, by omega, by omega, by go_num, HI2, below_drewN hbel2 _⟩
            case measure => simp [intOf]; omega
      · have hkb' : k = b.size := by omega
        have HI2 : Hid (R = 1) := by
          show _ = _
          rw [HI.out, cmpL_ends _ _ (.inr (List.drop_eq_nil_of_le (by rw [← Lib.size_eq]; omega)))]
          simp only [List.length_drop, ← Lib.size_eq]
          rw [if_neg (by omega), if_pos (by omega)]
        have h5 : (b.size : Int) < (a.size : Int) := by omega
        clear HI hkb'
        go_wp2
        go_ret
        exact ⟨by rw [HI2.out]; rfl, hbel⟩
    · by_cases h5 : (a.size : Int) < (b.size : Int)
      · have HI2 : Hid (R = -1) := by
          show _ = _
          rw [HI.out, cmpL_ends _ _ (.inl (List.drop_eq_nil_of_le (by rw [← Lib.size_eq]; omega)))]
          simp only [List.length_drop, ← Lib.size_eq]
          rw [if_pos (by omega)]
        clear HI
        go_wp2
        go_ret
        exact ⟨by rw [HI2.out]; rfl, hbel⟩
      · have HI2 : Hid (R = 0) := by
          show _ = _
          rw [HI.out, cmpL_ends _ _ (.inl (List.drop_eq_nil_of_le (by rw [← Lib.size_eq]; omega)))]
          simp only [List.length_drop, ← Lib.size_eq]
          rw [if_neg (by omega), if_neg (by omega)]
        have h6 : ¬ (b.size : Int) < (a.size : Int) := by omega
        clear HI
        go_wp2
        go_ret
        exact ⟨by rw [HI2.out]; rfl, hbel⟩


theorem less_cmp (a b : List UInt8) : Op.bytesLess a b = decide (cmpL a b = -1) := by
  fun_induction cmpL a b
  · rfl
  · rfl
  · rfl
  · rename_i h; simp [Op.bytesLess, h]
  · rename_i a x b y h1 h2
    have : ¬ a = b := fun e => by subst e; exact absurd h2 (UInt8.lt_irrefl _)
    simp [Op.bytesLess, h1, this]
  · rename_i a x b y h1 h2 ih
    have e : a = b := UInt8.le_antisymm (UInt8.not_lt.1 h2) (UInt8.not_lt.1 h1)
    subst e
    simp [Op.bytesLess, ih]
theorem cmpL_trans : ∀ (a b c : List UInt8), cmpL a b ≤ 0 → cmpL b c ≤ 0 → cmpL a c ≤ 0
  | [], _, [] => fun _ _ => by simp [cmpL]
  | [], _, _ :: _ => fun _ _ => by simp [cmpL]
  | _ :: _, [], _ => fun h _ => by simp [cmpL] at h
  | _ :: _, _ :: _, [] => fun _ h => by simp [cmpL] at h
  | x :: a, y :: b, z :: c => fun h1 h2 => by
    have ih := cmpL_trans a b c
    simp only [cmpL, UInt8.lt_iff_toNat_lt] at h1 h2 ⊢
    split at h1 <;> split at h2 <;> (try split at h1) <;> (try split at h2) <;> split <;> (try split) <;> first | omega | (exact ih h1 h2) | (exact absurd h1 (by decide)) | (exact absurd h2 (by decide))
/-- A span. -/
structure Sp where
  f : ByteArray
  t : ByteArray
  o : Bool
def spV (a : Sp) : Value := .agg #[.string a.f, .string a.t, .bool a.o]
def ordB (x y : ByteArray) : Int := cmpL x.data.toList y.data.toList
theorem ordB_less (x y : ByteArray) : Op.bytesLess x.toList y.toList = decide (ordB x y < 0) := by
  rw [ByteArray.toList_eq, ByteArray.toList_eq, less_cmp, ordB]
  rcases cmpL_three x.data.toList y.data.toList with h | h | h <;> rw [h] <;> decide
theorem ordB_same (x y : ByteArray) : (x.toList == y.toList) = decide (ordB x y = 0) := by
  rw [ByteArray.toList_eq, ByteArray.toList_eq, ordB, Bool.eq_iff_iff, beq_iff_eq, decide_eq_true_iff, cmpL_eq]
theorem ordB_neg (x y : ByteArray) : ordB y x = - ordB x y := cmpL_neg _ _
theorem ordB_three (x y : ByteArray) : ordB x y = -1 ∨ ordB x y = 0 ∨ ordB x y = 1 := cmpL_three _ _
theorem ordB_trans {x y z : ByteArray} (h1 : ordB x y ≤ 0) (h2 : ordB y z ≤ 0) : ordB x z ≤ 0 := cmpL_trans _ _ _ h1 h2
theorem ordB_eq {x y : ByteArray} (h : ordB x y = 0) : x = y := by
  cases x; cases y
  have := cmpL_eq.1 h
  simp at this
  rw [this]
theorem ordB_refl (x : ByteArray) : ordB x x = 0 := cmpL_same _
def fromS (a b : Sp) : ByteArray := if 0 < ordB b.f a.f then b.f else a.f
def meetS (a b : Sp) : Sp :=
  if a.o then (if b.o then ⟨fromS a b, ⟨#[]⟩, true⟩ else ⟨fromS a b, b.t, false⟩)
  else if b.o then ⟨fromS a b, a.t, false⟩ else ⟨fromS a b, if ordB b.t a.t < 0 then b.t else a.t, false⟩
def emptyS (a : Sp) : Bool := !a.o && decide (ordB a.t a.f ≤ 0)
def hasS (a : Sp) (k : ByteArray) : Bool := decide (ordB a.f k ≤ 0) && (a.o || decide (ordB k a.t < 0))
theorem from_le (a b : Sp) (k : ByteArray) : ordB (fromS a b) k ≤ 0 ↔ ordB a.f k ≤ 0 ∧ ordB b.f k ≤ 0 := by
  unfold fromS
  by_cases h : 0 < ordB b.f a.f
  · rw [if_pos h]
    refine ⟨fun h1 => ⟨ordB_trans (by rw [ordB_neg]; omega) h1, h1⟩, fun h1 => h1.2⟩
  · rw [if_neg h]
    exact ⟨fun h1 => ⟨h1, ordB_trans (by omega) h1⟩, fun h1 => h1.1⟩
theorem min_lt (x y k : ByteArray) : ordB k (if ordB y x < 0 then y else x) < 0 ↔ ordB k x < 0 ∧ ordB k y < 0 := by
  have nt : ∀ p q r : ByteArray, ordB p q < 0 → ordB q r ≤ 0 → ordB p r < 0 := fun p q r h1 h2 => by
    refine Classical.byContradiction fun h3 => ?_
    have h4 : ordB q p ≤ 0 := ordB_trans h2 (by rw [ordB_neg]; omega)
    rw [ordB_neg] at h4
    omega
  by_cases h : ordB y x < 0
  · rw [if_pos h]
    exact ⟨fun h1 => ⟨nt _ _ _ h1 (by omega), h1⟩, fun h1 => h1.2⟩
  · rw [if_neg h]
    exact ⟨fun h1 => ⟨h1, nt _ _ _ h1 (by rw [ordB_neg]; omega)⟩, fun h1 => h1.1⟩
theorem has_meet (a b : Sp) (k : ByteArray) : hasS (meetS a b) k = (hasS a k && hasS b k) := by
  rw [Bool.eq_iff_iff]
  obtain ⟨f, t, o⟩ := a
  obtain ⟨f', t', o'⟩ := b
  cases o <;> cases o' <;> simp [hasS, meetS, from_le, min_lt] <;> constructor <;> simp_all
theorem has_meet' (a b : Sp) (k : ByteArray) : hasS (meetS b a) k = (hasS a k && hasS b k) := by rw [has_meet, Bool.and_comm]
theorem has_full {a : Sp} {k : ByteArray} (h : hasS a k = true) : emptyS a = false := by
  unfold emptyS
  cases ho : a.o with
  | true => rfl
  | false =>
    simp [hasS, ho] at h
    have : ¬ ordB a.t a.f ≤ 0 := fun h2 => by
      have := ordB_trans h2 h.1
      rw [ordB_neg] at this
      omega
    simp only [Bool.not_false, Bool.true_and]
    exact decide_eq_false this
theorem has_from {a : Sp} (h : emptyS a = false) : hasS a a.f = true := by
  unfold hasS
  rw [ordB_refl]
  cases ho : a.o with
  | true => rfl
  | false =>
    simp [emptyS, ho] at h
    have : ordB a.f a.t < 0 := by rw [ordB_neg]; omega
    simp [this]
theorem from_comm (a b : Sp) : fromS a b = fromS b a := by
  unfold fromS
  have := ordB_neg a.f b.f
  rcases ordB_three a.f b.f with h | h | h
  · rw [if_pos (by omega), if_neg (by omega)]
  · rw [if_neg (by omega), if_neg (by omega)]; exact ordB_eq h
  · rw [if_neg (by omega), if_pos (by omega)]
theorem meet_comm (a b : Sp) : meetS a b = meetS b a := by
  unfold meetS
  rw [from_comm b a]
  cases a.o <;> cases b.o <;> simp
  have := ordB_neg a.t b.t
  rcases ordB_three a.t b.t with h | h | h
  · rw [if_neg (by omega), if_pos (by omega)]
  · rw [if_neg (by omega), if_neg (by omega)]; exact ordB_eq h
  · rw [if_pos (by omega), if_neg (by omega)]
theorem empty_self (a : Sp) : emptyS (meetS a a) = emptyS a := by
  have hf : fromS a a = a.f := by unfold fromS; rw [if_neg (by rw [ordB_refl]; omega)]
  unfold meetS emptyS
  rw [hf]
  cases a.o <;> simp

end Go.Proofs.YtgefbgpfjbbeaaaGreatDoor

namespace Go.Proofs.YtgefbgpfjbbeaaaGreatDoor
open Go.RowKit Go.Vf

theorem ord_lt {x y : ByteArray} (h : ordB x y = -1) : Op.bytesLess x.toList y.toList = true ∧ (x.toList == y.toList) = false := by
  rw [ordB_less, ordB_same, h]; decide
theorem ord_eq {x y : ByteArray} (h : ordB x y = 0) : Op.bytesLess x.toList y.toList = false ∧ (x.toList == y.toList) = true := by
  rw [ordB_less, ordB_same, h]; decide
theorem ord_gt {x y : ByteArray} (h : ordB x y = 1) : Op.bytesLess x.toList y.toList = false ∧ (x.toList == y.toList) = false := by
  rw [ordB_less, ordB_same, h]; decide
theorem add_any (n k : Nat) (hn : n ≤ 281474976710656) (hk : k ≤ 281474976710656) (w : World) : Calls Tryz.prog 6 #[.int .i64 (n : Int), .int .i64 (k : Int)] w fun e w' => e = .returned (.int .i64 ((if 16777216 < n ∨ 16777216 < k then 16777217 else n + k : Nat) : Int)) ∧ w' = w := by
  by_cases h1 : 16777216 < n
  · have t1 : decide ((16777216 : Int) < (n : Int)) = true := by simp; omega
    rw [if_pos (.inl h1)]
    go_enter Tryz.func6, Tryz.ntmps6
    go_wp2_with fail
    go_ret
    exact ⟨rfl, rfl⟩
  · have t1 : decide ((16777216 : Int) < (n : Int)) = false := by simp; omega
    by_cases h2 : 16777216 < k
    · have t2 : decide ((16777216 : Int) < (k : Int)) = true := by simp; omega
      rw [if_pos (.inr h2)]
      go_enter Tryz.func6, Tryz.ntmps6
      go_wp2_with fail
      go_ret
      exact ⟨rfl, rfl⟩
    · have t2 : decide ((16777216 : Int) < (k : Int)) = false := by simp; omega
      rw [if_neg (by omega)]
      go_enter Tryz.func6, Tryz.ntmps6
      go_wp2_with fail
      go_ret
      exact ⟨by simp, rfl⟩
set_option maxHeartbeats 4000000 in
theorem empty_any (a : Sp) (w : World) : Calls Tryz.prog 9 #[spV a] w fun e w' => e = .returned (.bool (emptyS a)) ∧ Below w.heap.size w w' := by
  obtain ⟨f, t, o⟩ := a
  have hb1 := (Below.refl w.heap.size w).alloc (Nat.le_refl _) (.cells #[.string f, .string t, .bool o] 24)
  unfold spV emptyS
  rcases ordB_three t f with h | h | h <;> cases o
  · obtain ⟨l1, l2⟩ := ord_lt h
    simp only [h]
    go_enter Tryz.func9, Tryz.ntmps9
    go_wp2_with fail
    go_ret
    exact ⟨rfl, hb1⟩
  · obtain ⟨l1, l2⟩ := ord_lt h
    simp only [h]
    go_enter Tryz.func9, Tryz.ntmps9
    go_wp2_with fail
    go_ret
    exact ⟨rfl, hb1⟩
  · obtain ⟨l1, l2⟩ := ord_eq h
    simp only [h]
    go_enter Tryz.func9, Tryz.ntmps9
    go_wp2_with fail
    go_ret
    exact ⟨rfl, hb1⟩
  · obtain ⟨l1, l2⟩ := ord_eq h
    simp only [h]
    go_enter Tryz.func9, Tryz.ntmps9
    go_wp2_with fail
    go_ret
    exact ⟨rfl, hb1⟩
  · obtain ⟨l1, l2⟩ := ord_gt h
    simp only [h]
    go_enter Tryz.func9, Tryz.ntmps9
    go_wp2_with fail
    go_ret
    exact ⟨rfl, hb1⟩
  · obtain ⟨l1, l2⟩ := ord_gt h
    simp only [h]
    go_enter Tryz.func9, Tryz.ntmps9
    go_wp2_with fail
    go_ret
    exact ⟨rfl, hb1⟩
set_option maxHeartbeats 4000000 in
theorem has_any (a : Sp) (k : ByteArray) (w : World) : Calls Tryz.prog 11 #[spV a, .string k] w fun e w' => e = .returned (.bool (hasS a k)) ∧ Below w.heap.size w w' := by
  obtain ⟨f, t, o⟩ := a
  have hb1 := (Below.refl w.heap.size w).alloc (Nat.le_refl _) (.cells #[.string f, .string t, .bool o] 24)
  unfold spV hasS
  rcases ordB_three f k with h | h | h <;> rcases ordB_three k t with g | g | g <;> cases o
  · obtain ⟨l1, l2⟩ := ord_lt h
    obtain ⟨m1, m2⟩ := ord_lt g
    simp only [h, g]
    go_enter Tryz.func11, Tryz.ntmps11
    go_wp2_with fail
    go_ret
    exact ⟨rfl, hb1⟩
  · obtain ⟨l1, l2⟩ := ord_lt h
    obtain ⟨m1, m2⟩ := ord_lt g
    simp only [h, g]
    go_enter Tryz.func11, Tryz.ntmps11
    go_wp2_with fail
    go_ret
    exact ⟨rfl, hb1⟩
  · obtain ⟨l1, l2⟩ := ord_lt h
    obtain ⟨m1, m2⟩ := ord_eq g
    simp only [h, g]
    go_enter Tryz.func11, Tryz.ntmps11
    go_wp2_with fail
    go_ret
    exact ⟨rfl, hb1⟩
  · obtain ⟨l1, l2⟩ := ord_lt h
    obtain ⟨m1, m2⟩ := ord_eq g
    simp only [h, g]
    go_enter Tryz.func11, Tryz.ntmps11
    go_wp2_with fail
    go_ret
    exact ⟨rfl, hb1⟩
  · obtain ⟨l1, l2⟩ := ord_lt h
    obtain ⟨m1, m2⟩ := ord_gt g
    simp only [h, g]
    go_enter Tryz.func11, Tryz.ntmps11
    go_wp2_with fail
    go_ret
    exact ⟨rfl, hb1⟩
  · obtain ⟨l1, l2⟩ := ord_lt h
    obtain ⟨m1, m2⟩ := ord_gt g
    simp only [h, g]
    go_enter Tryz.func11, Tryz.ntmps11
    go_wp2_with fail
    go_ret
    exact ⟨rfl, hb1⟩
  · obtain ⟨l1, l2⟩ := ord_eq h
    obtain ⟨m1, m2⟩ := ord_lt g
    simp only [h, g]
    go_enter Tryz.func11, Tryz.ntmps11
    go_wp2_with fail
    go_ret
    exact ⟨rfl, hb1⟩
  · obtain ⟨l1, l2⟩ := ord_eq h
    obtain ⟨m1, m2⟩ := ord_lt g
    simp only [h, g]
    go_enter Tryz.func11, Tryz.ntmps11
    go_wp2_with fail
    go_ret
    exact ⟨rfl, hb1⟩
  · obtain ⟨l1, l2⟩ := ord_eq h
    obtain ⟨m1, m2⟩ := ord_eq g
    simp only [h, g]
    go_enter Tryz.func11, Tryz.ntmps11
    go_wp2_with fail
    go_ret
    exact ⟨rfl, hb1⟩
  · obtain ⟨l1, l2⟩ := ord_eq h
    obtain ⟨m1, m2⟩ := ord_eq g
    simp only [h, g]
    go_enter Tryz.func11, Tryz.ntmps11
    go_wp2_with fail
    go_ret
    exact ⟨rfl, hb1⟩
  · obtain ⟨l1, l2⟩ := ord_eq h
    obtain ⟨m1, m2⟩ := ord_gt g
    simp only [h, g]
    go_enter Tryz.func11, Tryz.ntmps11
    go_wp2_with fail
    go_ret
    exact ⟨rfl, hb1⟩
  · obtain ⟨l1, l2⟩ := ord_eq h
    obtain ⟨m1, m2⟩ := ord_gt g
    simp only [h, g]
    go_enter Tryz.func11, Tryz.ntmps11
    go_wp2_with fail
    go_ret
    exact ⟨rfl, hb1⟩
  · obtain ⟨l1, l2⟩ := ord_gt h
    obtain ⟨m1, m2⟩ := ord_lt g
    simp only [h, g]
    go_enter Tryz.func11, Tryz.ntmps11
    go_wp2_with fail
    go_ret
    exact ⟨rfl, hb1⟩
  · obtain ⟨l1, l2⟩ := ord_gt h
    obtain ⟨m1, m2⟩ := ord_lt g
    simp only [h, g]
    go_enter Tryz.func11, Tryz.ntmps11
    go_wp2_with fail
    go_ret
    exact ⟨rfl, hb1⟩
  · obtain ⟨l1, l2⟩ := ord_gt h
    obtain ⟨m1, m2⟩ := ord_eq g
    simp only [h, g]
    go_enter Tryz.func11, Tryz.ntmps11
    go_wp2_with fail
    go_ret
    exact ⟨rfl, hb1⟩
  · obtain ⟨l1, l2⟩ := ord_gt h
    obtain ⟨m1, m2⟩ := ord_eq g
    simp only [h, g]
    go_enter Tryz.func11, Tryz.ntmps11
    go_wp2_with fail
    go_ret
    exact ⟨rfl, hb1⟩
  · obtain ⟨l1, l2⟩ := ord_gt h
    obtain ⟨m1, m2⟩ := ord_gt g
    simp only [h, g]
    go_enter Tryz.func11, Tryz.ntmps11
    go_wp2_with fail
    go_ret
    exact ⟨rfl, hb1⟩
  · obtain ⟨l1, l2⟩ := ord_gt h
    obtain ⟨m1, m2⟩ := ord_gt g
    simp only [h, g]
    go_enter Tryz.func11, Tryz.ntmps11
    go_wp2_with fail
    go_ret
    exact ⟨rfl, hb1⟩
set_option maxHeartbeats 8000000 in
theorem meet_any (a b : Sp) (w : World) : Calls Tryz.prog 7 #[spV a, spV b] w fun e w' => e = .returned (spV (meetS a b)) ∧ Below w.heap.size w w' := by
  obtain ⟨f, t, o⟩ := a
  obtain ⟨f', t', o'⟩ := b
  unfold spV meetS fromS
  rcases ordB_three f' f with h | h | h <;> cases o <;> cases o'
  · obtain ⟨l1, l2⟩ := ord_lt h
    rcases ordB_three t' t with g | g | g
    · obtain ⟨m1, m2⟩ := ord_lt g
      simp only [h, g]
      go_enter Tryz.func7, Tryz.ntmps7
      go_wp2_with fail
      go_region
      go_wp2_with fail
      exact bodyPost_ret (v := .agg #[.string f, .string t', .bool false]) (by simp [results, Tryz.results7, go_sem]) rfl ⟨rfl, by repeat (first | exact Below.refl _ _ | refine Below.drew ?_ | refine Below.alloc ?_ (by simp <;> omega) _)⟩
    · obtain ⟨m1, m2⟩ := ord_eq g
      simp only [h, g]
      go_enter Tryz.func7, Tryz.ntmps7
      go_wp2_with fail
      exact bodyPost_ret (v := .agg #[.string f, .string t, .bool false]) (by simp [results, Tryz.results7, go_sem]) rfl ⟨rfl, by repeat (first | exact Below.refl _ _ | refine Below.drew ?_ | refine Below.alloc ?_ (by simp <;> omega) _)⟩
    · obtain ⟨m1, m2⟩ := ord_gt g
      simp only [h, g]
      go_enter Tryz.func7, Tryz.ntmps7
      go_wp2_with fail
      exact bodyPost_ret (v := .agg #[.string f, .string t, .bool false]) (by simp [results, Tryz.results7, go_sem]) rfl ⟨rfl, by repeat (first | exact Below.refl _ _ | refine Below.drew ?_ | refine Below.alloc ?_ (by simp <;> omega) _)⟩
  · obtain ⟨l1, l2⟩ := ord_lt h
    simp only [h]
    go_enter Tryz.func7, Tryz.ntmps7
    go_wp2_with fail
    exact bodyPost_ret (v := .agg #[.string f, .string t, .bool false]) (by simp [results, Tryz.results7, go_sem]) rfl ⟨rfl, by repeat (first | exact Below.refl _ _ | refine Below.drew ?_ | refine Below.alloc ?_ (by simp <;> omega) _)⟩
  · obtain ⟨l1, l2⟩ := ord_lt h
    simp only [h]
    go_enter Tryz.func7, Tryz.ntmps7
    go_wp2_with fail
    go_region
    go_wp2_with fail
    exact bodyPost_ret (v := .agg #[.string f, .string t', .bool false]) (by simp [results, Tryz.results7, go_sem]) rfl ⟨rfl, by repeat (first | exact Below.refl _ _ | refine Below.drew ?_ | refine Below.alloc ?_ (by simp <;> omega) _)⟩
  · obtain ⟨l1, l2⟩ := ord_lt h
    simp only [h]
    go_enter Tryz.func7, Tryz.ntmps7
    go_wp2_with fail
    go_region
    go_wp2_with fail
    exact bodyPost_ret (v := .agg #[.string f, .string ⟨#[]⟩, .bool true]) (by simp [results, Tryz.results7, go_sem]) rfl ⟨rfl, by repeat (first | exact Below.refl _ _ | refine Below.drew ?_ | refine Below.alloc ?_ (by simp <;> omega) _)⟩
  · obtain ⟨l1, l2⟩ := ord_eq h
    rcases ordB_three t' t with g | g | g
    · obtain ⟨m1, m2⟩ := ord_lt g
      simp only [h, g]
      go_enter Tryz.func7, Tryz.ntmps7
      go_wp2_with fail
      go_region
      go_wp2_with fail
      exact bodyPost_ret (v := .agg #[.string f, .string t', .bool false]) (by simp [results, Tryz.results7, go_sem]) rfl ⟨rfl, by repeat (first | exact Below.refl _ _ | refine Below.drew ?_ | refine Below.alloc ?_ (by simp <;> omega) _)⟩
    · obtain ⟨m1, m2⟩ := ord_eq g
      simp only [h, g]
      go_enter Tryz.func7, Tryz.ntmps7
      go_wp2_with fail
      exact bodyPost_ret (v := .agg #[.string f, .string t, .bool false]) (by simp [results, Tryz.results7, go_sem]) rfl ⟨rfl, by repeat (first | exact Below.refl _ _ | refine Below.drew ?_ | refine Below.alloc ?_ (by simp <;> omega) _)⟩
    · obtain ⟨m1, m2⟩ := ord_gt g
      simp only [h, g]
      go_enter Tryz.func7, Tryz.ntmps7
      go_wp2_with fail
      exact bodyPost_ret (v := .agg #[.string f, .string t, .bool false]) (by simp [results, Tryz.results7, go_sem]) rfl ⟨rfl, by repeat (first | exact Below.refl _ _ | refine Below.drew ?_ | refine Below.alloc ?_ (by simp <;> omega) _)⟩
  · obtain ⟨l1, l2⟩ := ord_eq h
    simp only [h]
    go_enter Tryz.func7, Tryz.ntmps7
    go_wp2_with fail
    exact bodyPost_ret (v := .agg #[.string f, .string t, .bool false]) (by simp [results, Tryz.results7, go_sem]) rfl ⟨rfl, by repeat (first | exact Below.refl _ _ | refine Below.drew ?_ | refine Below.alloc ?_ (by simp <;> omega) _)⟩
  · obtain ⟨l1, l2⟩ := ord_eq h
    simp only [h]
    go_enter Tryz.func7, Tryz.ntmps7
    go_wp2_with fail
    go_region
    go_wp2_with fail
    exact bodyPost_ret (v := .agg #[.string f, .string t', .bool false]) (by simp [results, Tryz.results7, go_sem]) rfl ⟨rfl, by repeat (first | exact Below.refl _ _ | refine Below.drew ?_ | refine Below.alloc ?_ (by simp <;> omega) _)⟩
  · obtain ⟨l1, l2⟩ := ord_eq h
    simp only [h]
    go_enter Tryz.func7, Tryz.ntmps7
    go_wp2_with fail
    go_region
    go_wp2_with fail
    exact bodyPost_ret (v := .agg #[.string f, .string ⟨#[]⟩, .bool true]) (by simp [results, Tryz.results7, go_sem]) rfl ⟨rfl, by repeat (first | exact Below.refl _ _ | refine Below.drew ?_ | refine Below.alloc ?_ (by simp <;> omega) _)⟩
  · obtain ⟨l1, l2⟩ := ord_gt h
    rcases ordB_three t' t with g | g | g
    · obtain ⟨m1, m2⟩ := ord_lt g
      simp only [h, g]
      go_enter Tryz.func7, Tryz.ntmps7
      go_wp2_with fail
      go_region
      go_wp2_with fail
      exact bodyPost_ret (v := .agg #[.string f', .string t', .bool false]) (by simp [results, Tryz.results7, go_sem]) rfl ⟨rfl, by repeat (first | exact Below.refl _ _ | refine Below.drew ?_ | refine Below.alloc ?_ (by simp <;> omega) _)⟩
    · obtain ⟨m1, m2⟩ := ord_eq g
      simp only [h, g]
      go_enter Tryz.func7, Tryz.ntmps7
      go_wp2_with fail
      exact bodyPost_ret (v := .agg #[.string f', .string t, .bool false]) (by simp [results, Tryz.results7, go_sem]) rfl ⟨rfl, by repeat (first | exact Below.refl _ _ | refine Below.drew ?_ | refine Below.alloc ?_ (by simp <;> omega) _)⟩
    · obtain ⟨m1, m2⟩ := ord_gt g
      simp only [h, g]
      go_enter Tryz.func7, Tryz.ntmps7
      go_wp2_with fail
      exact bodyPost_ret (v := .agg #[.string f', .string t, .bool false]) (by simp [results, Tryz.results7, go_sem]) rfl ⟨rfl, by repeat (first | exact Below.refl _ _ | refine Below.drew ?_ | refine Below.alloc ?_ (by simp <;> omega) _)⟩
  · obtain ⟨l1, l2⟩ := ord_gt h
    simp only [h]
    go_enter Tryz.func7, Tryz.ntmps7
    go_wp2_with fail
    exact bodyPost_ret (v := .agg #[.string f', .string t, .bool false]) (by simp [results, Tryz.results7, go_sem]) rfl ⟨rfl, by repeat (first | exact Below.refl _ _ | refine Below.drew ?_ | refine Below.alloc ?_ (by simp <;> omega) _)⟩
  · obtain ⟨l1, l2⟩ := ord_gt h
    simp only [h]
    go_enter Tryz.func7, Tryz.ntmps7
    go_wp2_with fail
    go_region
    go_wp2_with fail
    exact bodyPost_ret (v := .agg #[.string f', .string t', .bool false]) (by simp [results, Tryz.results7, go_sem]) rfl ⟨rfl, by repeat (first | exact Below.refl _ _ | refine Below.drew ?_ | refine Below.alloc ?_ (by simp <;> omega) _)⟩
  · obtain ⟨l1, l2⟩ := ord_gt h
    simp only [h]
    go_enter Tryz.func7, Tryz.ntmps7
    go_wp2_with fail
    go_region
    go_wp2_with fail
    exact bodyPost_ret (v := .agg #[.string f', .string ⟨#[]⟩, .bool true]) (by simp [results, Tryz.results7, go_sem]) rfl ⟨rfl, by repeat (first | exact Below.refl _ _ | refine Below.drew ?_ | refine Below.alloc ?_ (by simp <;> omega) _)⟩

end Go.Proofs.YtgefbgpfjbbeaaaGreatDoor

namespace Go.Proofs.YtgefbgpfjbbeaaaGreatDoor
open Go.RowKit Go.Vf

theorem rcomp_any (x y : ByteArray) (hx : x.size ≤ 17179869184) (hy : y.size ≤ 17179869184) (w : World) : Calls Tryz.prog 17 #[.string x, .string y] w fun e w' => e = .returned (.int .i64 (ordB x y)) ∧ Below w.heap.size w w' := rcompare_any x y w hx hy
set_option maxHeartbeats 4000000 in
theorem rempty_any (a : Sp) (hf : a.f.size ≤ 17179869184) (ht : a.t.size ≤ 17179869184) (w : World) : Calls Tryz.prog 10 #[spV a] w fun e w' => e = .returned (.bool (emptyS a)) ∧ Below w.heap.size w w' := by
  obtain ⟨f, t, o⟩ := a
  have hc := fun W => rcomp_any t f ht hf W
  have hb1 := (Below.refl w.heap.size w).alloc (Nat.le_refl _) (.cells #[.string f, .string t, .bool o] 24)
  unfold spV emptyS
  cases o with
  | true =>
    clear hc
    go_enter Tryz.func10, Tryz.ntmps10
    go_wp2_with fail
    go_ret
    exact ⟨rfl, hb1⟩
  | false =>
    rcases ordB_three t f with h | h | h
    · rw [h] at hc
      simp only [h]
      go_enter Tryz.func10, Tryz.ntmps10
      go_wp2_with fail
      refine (hc _).mono ?_
      rintro _ w2 ⟨rfl, hb2⟩
      have hb3 := hb1.trans (hb2.mono hb1.size)
      clear hc hb1 hb2
      go_wp2_with fail
      go_ret
      exact ⟨rfl, hb3⟩
    · rw [h] at hc
      simp only [h]
      go_enter Tryz.func10, Tryz.ntmps10
      go_wp2_with fail
      refine (hc _).mono ?_
      rintro _ w2 ⟨rfl, hb2⟩
      have hb3 := hb1.trans (hb2.mono hb1.size)
      clear hc hb1 hb2
      go_wp2_with fail
      go_ret
      exact ⟨rfl, hb3⟩
    · rw [h] at hc
      simp only [h]
      go_enter Tryz.func10, Tryz.ntmps10
      go_wp2_with fail
      refine (hc _).mono ?_
      rintro _ w2 ⟨rfl, hb2⟩
      have hb3 := hb1.trans (hb2.mono hb1.size)
      clear hc hb1 hb2
      go_wp2_with fail
      go_ret
      exact ⟨rfl, hb3⟩
set_option maxHeartbeats 8000000 in
theorem rhas_any (a : Sp) (k : ByteArray) (hf : a.f.size ≤ 17179869184) (ht : a.t.size ≤ 17179869184) (hk : k.size ≤ 17179869184) (w : World) : Calls Tryz.prog 12 #[spV a, .string k] w fun e w' => e = .returned (.bool (hasS a k)) ∧ Below w.heap.size w w' := by
  obtain ⟨f, t, o⟩ := a
  have hc := fun W => rcomp_any k f hk hf W
  have hd := fun W => rcomp_any k t hk ht W
  have hb1 := (Below.refl w.heap.size w).alloc (Nat.le_refl _) (.cells #[.string f, .string t, .bool o] 24)
  have hN1 := Blk.new w 24 #[.string f, .string t, .bool o]
  unfold spV hasS
  simp only [ordB_neg k f]
  rcases ordB_three k f with h | h | h
  · rw [h] at hc
    simp only [h]
    clear hd hN1
    go_enter Tryz.func12, Tryz.ntmps12
    go_wp2_with fail
    refine (hc _).mono ?_
    rintro _ w2 ⟨rfl, hb2⟩
    have hb3 := hb1.trans (hb2.mono hb1.size)
    clear hc hb1 hb2
    go_wp2_with fail
    go_ret
    exact ⟨rfl, hb3⟩
  · rw [h] at hc
    simp only [h]
    cases o with
    | true =>
      clear hd
      go_enter Tryz.func12, Tryz.ntmps12
      go_wp2_with fail
      refine (hc _).mono ?_
      rintro _ w2 ⟨rfl, hb2⟩
      have hb3 := hb1.trans (hb2.mono hb1.size)
      have hN2 := hN1.old hb2
      have c0 := hN2.cell 0
      have c1 := hN2.cell 1
      have c2 := hN2.cell 2
      clear hc hb1 hb2 hN1
      go_wp2_with fail
      go_ret
      exact ⟨rfl, hb3⟩
    | false =>
      rcases ordB_three k t with g | g | g
      · rw [g] at hd
        simp only [g]
        go_enter Tryz.func12, Tryz.ntmps12
        go_wp2_with fail
        refine (hc _).mono ?_
        rintro _ w2 ⟨rfl, hb2⟩
        have hb3 := hb1.trans (hb2.mono hb1.size)
        have hN2 := hN1.old hb2
        have c0 := hN2.cell 0
        have c1 := hN2.cell 1
        have c2 := hN2.cell 2
        clear hc hb1 hb2 hN1
        go_wp2_with fail
        refine (hd _).mono ?_
        rintro _ w4 ⟨rfl, hb4⟩
        have hb5 := hb3.trans (hb4.mono hb3.size)
        clear hd hb3 hb4 c0 c1 c2 hN2
        go_wp2_with fail
        go_ret
        exact ⟨rfl, hb5⟩
      · rw [g] at hd
        simp only [g]
        go_enter Tryz.func12, Tryz.ntmps12
        go_wp2_with fail
        refine (hc _).mono ?_
        rintro _ w2 ⟨rfl, hb2⟩
        have hb3 := hb1.trans (hb2.mono hb1.size)
        have hN2 := hN1.old hb2
        have c0 := hN2.cell 0
        have c1 := hN2.cell 1
        have c2 := hN2.cell 2
        clear hc hb1 hb2 hN1
        go_wp2_with fail
        refine (hd _).mono ?_
        rintro _ w4 ⟨rfl, hb4⟩
        have hb5 := hb3.trans (hb4.mono hb3.size)
        clear hd hb3 hb4 c0 c1 c2 hN2
        go_wp2_with fail
        go_ret
        exact ⟨rfl, hb5⟩
      · rw [g] at hd
        simp only [g]
        go_enter Tryz.func12, Tryz.ntmps12
        go_wp2_with fail
        refine (hc _).mono ?_
        rintro _ w2 ⟨rfl, hb2⟩
        have hb3 := hb1.trans (hb2.mono hb1.size)
        have hN2 := hN1.old hb2
        have c0 := hN2.cell 0
        have c1 := hN2.cell 1
        have c2 := hN2.cell 2
        clear hc hb1 hb2 hN1
        go_wp2_with fail
        refine (hd _).mono ?_
        rintro _ w4 ⟨rfl, hb4⟩
        have hb5 := hb3.trans (hb4.mono hb3.size)
        clear hd hb3 hb4 c0 c1 c2 hN2
        go_wp2_with fail
        go_ret
        exact ⟨rfl, hb5⟩
  · rw [h] at hc
    simp only [h]
    cases o with
    | true =>
      clear hd
      go_enter Tryz.func12, Tryz.ntmps12
      go_wp2_with fail
      refine (hc _).mono ?_
      rintro _ w2 ⟨rfl, hb2⟩
      have hb3 := hb1.trans (hb2.mono hb1.size)
      have hN2 := hN1.old hb2
      have c0 := hN2.cell 0
      have c1 := hN2.cell 1
      have c2 := hN2.cell 2
      clear hc hb1 hb2 hN1
      go_wp2_with fail
      go_ret
      exact ⟨rfl, hb3⟩
    | false =>
      rcases ordB_three k t with g | g | g
      · rw [g] at hd
        simp only [g]
        go_enter Tryz.func12, Tryz.ntmps12
        go_wp2_with fail
        refine (hc _).mono ?_
        rintro _ w2 ⟨rfl, hb2⟩
        have hb3 := hb1.trans (hb2.mono hb1.size)
        have hN2 := hN1.old hb2
        have c0 := hN2.cell 0
        have c1 := hN2.cell 1
        have c2 := hN2.cell 2
        clear hc hb1 hb2 hN1
        go_wp2_with fail
        refine (hd _).mono ?_
        rintro _ w4 ⟨rfl, hb4⟩
        have hb5 := hb3.trans (hb4.mono hb3.size)
        clear hd hb3 hb4 c0 c1 c2 hN2
        go_wp2_with fail
        go_ret
        exact ⟨rfl, hb5⟩
      · rw [g] at hd
        simp only [g]
        go_enter Tryz.func12, Tryz.ntmps12
        go_wp2_with fail
        refine (hc _).mono ?_
        rintro _ w2 ⟨rfl, hb2⟩
        have hb3 := hb1.trans (hb2.mono hb1.size)
        have hN2 := hN1.old hb2
        have c0 := hN2.cell 0
        have c1 := hN2.cell 1
        have c2 := hN2.cell 2
        clear hc hb1 hb2 hN1
        go_wp2_with fail
        refine (hd _).mono ?_
        rintro _ w4 ⟨rfl, hb4⟩
        have hb5 := hb3.trans (hb4.mono hb3.size)
        clear hd hb3 hb4 c0 c1 c2 hN2
        go_wp2_with fail
        go_ret
        exact ⟨rfl, hb5⟩
      · rw [g] at hd
        simp only [g]
        go_enter Tryz.func12, Tryz.ntmps12
        go_wp2_with fail
        refine (hc _).mono ?_
        rintro _ w2 ⟨rfl, hb2⟩
        have hb3 := hb1.trans (hb2.mono hb1.size)
        have hN2 := hN1.old hb2
        have c0 := hN2.cell 0
        have c1 := hN2.cell 1
        have c2 := hN2.cell 2
        clear hc hb1 hb2 hN1
        go_wp2_with fail
        refine (hd _).mono ?_
        rintro _ w4 ⟨rfl, hb4⟩
        have hb5 := hb3.trans (hb4.mono hb3.size)
        clear hd hb3 hb4 c0 c1 c2 hN2
        go_wp2_with fail
        go_ret
        exact ⟨rfl, hb5⟩

end Go.Proofs.YtgefbgpfjbbeaaaGreatDoor
