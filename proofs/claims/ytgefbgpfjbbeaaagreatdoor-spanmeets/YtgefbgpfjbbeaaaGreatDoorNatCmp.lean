/- What nat.Compare and what it calls do (contracts; nothing is claimed here). -/
import Derived.Test.YtgefbgpfjbbeaaaGreatDoorJ5
import Derived.Lib.Bytealg
namespace Go.Proofs.YtgefbgpfjbbeaaaGreatDoor
open Go.RowKit Go.Vf

theorem isNaN_any (i : Int) (w : World) : Calls Tryz.prog 242 #[.int .i64 i] w fun e w' => e = .returned (.bool false) ∧ w = w' := by
  go_enter Tryz.func242, Tryz.ntmps242
  go_wp2
  go_ret
  simp

def sgn (a b : Int) : Int := if a < b then -1 else if b < a then 1 else 0

theorem cmpInt_any (a b : Int) (w : World) : Calls Tryz.prog 230 #[.int .i64 a, .int .i64 b] w fun e w' => e = .returned (.int .i64 (sgn a b)) ∧ w = w' := by
  have hs : sgn a b = if a < b then -1 else if b < a then 1 else 0 := rfl
  go_enter Tryz.func230, Tryz.ntmps230
  go_wp2_with fail
  refine (isNaN_any a _).mono ?_
  rintro e w1 ⟨rfl, rfl⟩
  go_wp2_with fail
  refine (isNaN_any b _).mono ?_
  rintro e w1 ⟨rfl, rfl⟩
  by_cases h1 : a < b
  · go_wp2
    go_ret
    simp [sgn, h1]
  · by_cases h2 : b < a
    · go_wp2
      go_ret
      simp [sgn, h1, h2]
    · go_wp2
      go_ret
      simp [sgn]
      omega

theorem compareBytes_eq : ∀ (a b : List UInt8), Lib.compareBytes a b = cmpL a b
  | [], [] => rfl
  | [], _ :: _ => rfl
  | _ :: _, [] => rfl
  | x :: a, y :: b => by
    have ih := compareBytes_eq a b
    simp only [Lib.compareBytes, cmpL, ih]

theorem cmpStr_any (a b : ByteArray) (w : World) : Calls Tryz.prog 243 #[.string a, .string b] w fun e w' => e = .returned (.int .i64 (cmpL a.data.toList b.data.toList)) ∧ w = w' := by
  have hx : (callFunc 257 #[.string a, .string b]).run Tryz.prog w = .ok (.value (.int .i64 (cmpL a.data.toList b.data.toList))) w := by
    rw [run_callFunc_extern Tryz.func257 (by kernel_rfl) (by kernel_rfl) (by kernel_rfl) (e := Extern.BytealgCompare.compare) (by kernel_rfl), Lib.run_compareString, compareBytes_eq]
    rfl
  go_enter Tryz.func243, Tryz.ntmps243
  go_wp2
  go_ret
  exact ⟨rfl, rfl⟩

theorem scompare_any (a b : ByteArray) (w : World) : Calls Tryz.prog 231 #[.string a, .string b] w fun e w' => e = .returned (.int .i64 (cmpL a.data.toList b.data.toList)) ∧ w = w' := by
  go_enter Tryz.func231, Tryz.ntmps231
  go_wp2_with fail
  refine (cmpStr_any a b _).mono ?_
  rintro e w1 ⟨rfl, rfl⟩
  go_wp2
  go_ret
  exact ⟨rfl, rfl⟩

theorem cmpOr_two (h : Nat) (x y : Int) (w : World) (c0 : w.cell? ⟨h, 0, none⟩ = some (.int .i64 x)) (c1 : w.cell? ⟨h, 1, none⟩ = some (.int .i64 y)) :
    Calls Tryz.prog 229 #[.slice (some ⟨h, 0, none⟩) 2 2] w fun e w' => e = .returned (.int .i64 (if x = 0 then y else x)) ∧ w = w' := by
  go_enter Tryz.func229, Tryz.ntmps229
  go_wp2
  go_loopw [8] (fun i wr => ∃ k : Nat, k ≤ 2 ∧ i = .int .i64 k ∧ (0 < k → x = 0) ∧ (1 < k → y = 0) ∧ w = wr) (fun i _ => 2 - (intOf i).toNat)
  case atStart => exact ⟨0, by omega, rfl, by omega, by omega, rfl⟩
  case round =>
    obtain ⟨k, hk, rfl, hx, hy, rfl⟩ := hrel
    by_cases h0 : k = 0
    · subst h0
      clear hx hy
      by_cases hx : x = 0
      · subst hx
        go_wp2
        go_roundw
        case rel => exact ⟨1, by omega, by go_num, fun _ => trivial, by omega, trivial⟩
        case measure => simp [intOf]
      · go_wp2
        go_ret
        simp
    · by_cases h1 : k = 1
      · subst h1
        have := hx (by omega)
        subst this
        clear hx hy
        by_cases hy : y = 0
        · subst hy
          go_wp2
          go_roundw
          case rel => exact ⟨2, by omega, by go_num, fun _ => trivial, fun _ => trivial, trivial⟩
          case measure => simp [intOf]
        · go_wp2
          go_ret
          simp
      · obtain rfl : k = 2 := by omega
        have := hx (by omega)
        have := hy (by omega)
        subst x y
        go_wp2
        go_ret
        simp

theorem cmpOr_is (h : Nat) (x y r : Int) (w : World) (c0 : w.cell? ⟨h, 0, none⟩ = some (.int .i64 x)) (c1 : w.cell? ⟨h, 1, none⟩ = some (.int .i64 y)) (hr : r = if x = 0 then y else x) :
    Calls Tryz.prog 229 #[.slice (some ⟨h, 0, none⟩) 2 2] w fun e w' => e = .returned (.int .i64 r) ∧ w = w' := by
  subst hr
  exact cmpOr_two h x y w c0 c1

/-- The order of two magnitudes. -/
def magC (a b : List UInt8) : Int := if sgn a.length b.length = 0 then cmpL a b else sgn a.length b.length

set_option maxHeartbeats 400000 in
theorem magnitudes_any (a b : ByteArray) (w : World) (_ha : a.size ≤ 17179869184) (_hb : b.size ≤ 17179869184) :
    Calls Tryz.prog 213 #[.string a, .string b] w fun e w' => e = .returned (.int .i64 (magC a.data.toList b.data.toList)) ∧ Below w.heap.size w w' := by
  go_enter Tryz.func213, Tryz.ntmps213
  go_wp2_with fail
  refine (cmpInt_any _ _ _).mono ?_
  rintro e w1 ⟨rfl, rfl⟩
  go_wp2_with fail
  refine (scompare_any _ _ _).mono ?_
  rintro e w1 ⟨rfl, rfl⟩
  go_wp2_with fail
  refine (cmpOr_is _ _ _ (magC a.data.toList b.data.toList) _ (by simp; rfl) (by simp; rfl) (by simp only [magC, ← Lib.size_eq])).mono ?_
  rintro e w1 ⟨rfl, rfl⟩
  go_wp2
  go_ret
  exact ⟨rfl, (Below.refl _ _).alloc (Nat.le_refl _) _⟩

/-- The order of two numbers that may be. -/
def cmpN (ba : Bool) (a : List UInt8) (bb : Bool) (b : List UInt8) : Int := if ba && bb then magC b a else if ba then -1 else if bb then 1 else magC a b
def compE (ba : Bool) (a : List UInt8) (bb : Bool) (b : List UInt8) : Ending :=
  if chk ba a ≠ 0 then .returned (.tuple #[.int .i64 0, .int .i64 (chk ba a)]) else if chk bb b ≠ 0 then .returned (.tuple #[.int .i64 0, .int .i64 (chk bb b)]) else .returned (.tuple #[.int .i64 (cmpN ba a bb b), .int .i64 0])

set_option maxHeartbeats 1000000 in
theorem compare_any (ba : Bool) (a : ByteArray) (bb : Bool) (b : ByteArray) (ha : a.size ≤ 17179869184) (hb : b.size ≤ 17179869184) (w : World) :
    Calls Tryz.prog 192 #[numV ba a, numV bb b] w fun e w' => e = compE ba a.data.toList bb b.data.toList ∧ Below w.heap.size w w' := by
  have hW := ((Below.refl w.heap.size w).alloc (Nat.le_refl _) (.cells #[.bool ba, .string a] 41)).alloc (by simp) (.cells #[.bool bb, .string b] 41)
  by_cases h1 : chk ba a.data.toList = 0
  · by_cases h2 : chk bb b.data.toList = 0
    · have hR : compE ba a.data.toList bb b.data.toList = .returned (.tuple #[.int .i64 (cmpN ba a.data.toList bb b.data.toList), .int .i64 0]) := by simp [compE, h1, h2]
      rw [hR]
      clear hR
      go_enter Tryz.func192, Tryz.ntmps192
      go_wp2_with fail
      refine (check_any ba a ha _).mono ?_
      rintro e w1 ⟨rfl, hb1⟩
      rw [h1]
      clear h1
      obtain ⟨p0, p1, p2⟩ := box_num hb1 (h := w.heap.size) (v0 := .bool ba) (v1 := .string a) ⟨by simp [go_sem], by simp [go_sem], by simp; omega⟩
      obtain ⟨q0, q1, q2⟩ := box_num hb1 (h := w.heap.size + 1) (v0 := .bool bb) (v1 := .string b) ⟨by simp [go_sem], by simp [go_sem], by simp⟩
      replace hW := hW.trans (hb1.mono hW.size)
      clear hb1
      go_wp2_with fail
      refine (check_any bb b hb _).mono ?_
      rintro e w2 ⟨rfl, hb2⟩
      rw [h2]
      clear h2
      replace hW := hW.trans (hb2.mono hW.size)
      obtain ⟨p0, p1, p2⟩ := box_num hb2 (h := w.heap.size) (v0 := .bool ba) (v1 := .string a) ⟨p0, p1, p2⟩
      obtain ⟨q0, q1, q2⟩ := box_num hb2 (h := w.heap.size + 1) (v0 := .bool bb) (v1 := .string b) ⟨q0, q1, q2⟩
      clear hb2
      cases ba <;> cases bb
      · go_wp2_with fail
        refine (magnitudes_any a b _ ha hb).mono ?_
        rintro e w3 ⟨rfl, hb3⟩
        go_wp2
        go_ret2
        exact ⟨rfl, hW.trans (hb3.mono hW.size)⟩
      · go_wp2
        go_ret2
        exact ⟨rfl, hW⟩
      · go_wp2
        go_ret2
        exact ⟨rfl, hW⟩
      · go_wp2_with fail
        refine (magnitudes_any b a _ hb ha).mono ?_
        rintro e w3 ⟨rfl, hb3⟩
        go_wp2
        go_ret2
        exact ⟨rfl, hW.trans (hb3.mono hW.size)⟩
    · have hR : compE ba a.data.toList bb b.data.toList = .returned (.tuple #[.int .i64 0, .int .i64 (chk bb b.data.toList)]) := by simp [compE, h1, h2]
      rw [hR]
      clear hR
      generalize hcc : chk bb b.data.toList = c at h2 ⊢
      go_enter Tryz.func192, Tryz.ntmps192
      go_wp2_with fail
      refine (check_any ba a ha _).mono ?_
      rintro e w1 ⟨rfl, hb1⟩
      rw [h1]
      clear h1
      obtain ⟨q0, q1, q2⟩ := box_num hb1 (h := w.heap.size + 1) (v0 := .bool bb) (v1 := .string b) ⟨by simp [go_sem], by simp [go_sem], by simp⟩
      replace hW := hW.trans (hb1.mono hW.size)
      clear hb1
      go_wp2_with fail
      refine (check_any bb b hb _).mono ?_
      rintro e w2 ⟨rfl, hb2⟩
      rw [hcc]
      go_wp2
      go_ret2
      exact ⟨rfl, hW.trans (hb2.mono hW.size)⟩
  · have hR : compE ba a.data.toList bb b.data.toList = .returned (.tuple #[.int .i64 0, .int .i64 (chk ba a.data.toList)]) := by simp [compE, h1]
    rw [hR]
    clear hR
    generalize hcc : chk ba a.data.toList = c at h1 ⊢
    go_enter Tryz.func192, Tryz.ntmps192
    go_wp2_with fail
    refine (check_any ba a ha _).mono ?_
    rintro e w1 ⟨rfl, hb1⟩
    rw [hcc]
    go_wp2
    go_ret2
    exact ⟨rfl, hW.trans (hb1.mono hW.size)⟩
end Go.Proofs.YtgefbgpfjbbeaaaGreatDoor
