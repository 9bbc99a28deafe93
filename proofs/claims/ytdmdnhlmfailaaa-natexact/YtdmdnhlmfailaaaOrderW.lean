/- What NatOrder comes to (a walk; nothing is claimed here). -/
import Derived.Test.YtdmdnhlmfailaaaAwake
import Derived.Test.YtdmdnhlmfailaaaMathP
namespace Go.Proofs.Ytdmdnhlmfailaaa
open Go.RowKit Go.Vf

theorem less_cmp (a b : List UInt8) : Op.bytesLess a b = decide (cmpL a b = -1) := by
  fun_induction cmpL a b
  · rfl
  · rfl
  · rfl
  · rename_i h; simp [Op.bytesLess, h]
  · rename_i a x b y h1 h2
    have : ¬ a = b := fun e => by subst e; exact absurd h2 (UInt8.lt_irrefl _)
    simp [Op.bytesLess, h1, this]
  · rename_i a x b y h1 h2 ih
    have e : a = b := UInt8.le_antisymm (UInt8.not_lt.1 h2) (UInt8.not_lt.1 h1)
    subst e
    simp [Op.bytesLess, ih]

set_option maxHeartbeats 400000 in
theorem order_any (a b : ByteArray) (w : World) :
    Calls Try.prog 18 #[.string a, .string b] w fun e w' => e = .returned (.int .i64 (cmpL a.data.toList b.data.toList)) ∧ w = w' := by
  have hl : Op.bytesLess a.toList b.toList = decide (cmpL a.data.toList b.data.toList = -1) := by rw [ByteArray.toList_eq, ByteArray.toList_eq, less_cmp]
  have he : (a.toList == b.toList) = decide (cmpL a.data.toList b.data.toList = 0) := by
    rw [ByteArray.toList_eq, ByteArray.toList_eq, Bool.eq_iff_iff]
    simp [cmpL_eq]
  rcases cmpL_three a.data.toList b.data.toList with h | h | h
  · rw [h] at hl he ⊢
    have hl' : Op.bytesLess a.toList b.toList = true := hl
    clear hl he h
    go_enter Try.func18, Try.ntmps18
    go_wp2
    go_ret
    exact ⟨rfl, rfl⟩
  · rw [h] at hl he ⊢
    have hl' : Op.bytesLess a.toList b.toList = false := hl
    have he' : (a.toList == b.toList) = true := he
    clear hl he h
    go_enter Try.func18, Try.ntmps18
    go_wp2
    go_ret
    exact ⟨rfl, rfl⟩
  · rw [h] at hl he ⊢
    have hl' : Op.bytesLess a.toList b.toList = false := hl
    have he' : (a.toList == b.toList) = false := he
    clear hl he h
    go_enter Try.func18, Try.ntmps18
    go_wp2
    go_ret
    exact ⟨rfl, rfl⟩


theorem num_eq (p : Bool) (A : ByteArray) (q : Bool) (B : ByteArray) (w : World) : (Op.equalIn 10000 26 (.agg #[.bool p, .string A]) (.agg #[.bool q, .string B])).run Try.prog w = .ok (p == q && A.toList == B.toList) w := by
  have h : ∀ d, (Op.equalIn (d + 1 + 1) 26 (.agg #[.bool p, .string A]) (.agg #[.bool q, .string B])).run Try.prog w = .ok (p == q && A.toList == B.toList) w := fun d => by
    simp [go_sem]
    by_cases h1 : p = q <;> by_cases h2 : A.toList = B.toList <;> simp [h1, h2]
  exact h 9998

theorem order_is (a b : ByteArray) (c : Int) (h : cmpL a.data.toList b.data.toList = c) (w : World) :
    Calls Try.prog 18 #[.string a, .string b] w fun e w' => e = .returned (.int .i64 c) ∧ w = w' := by
  have := order_any a b w
  rw [h] at this
  exact this
theorem put_is (b : Bool) (m : ByteArray) (hm : m.size ≤ 17179869184) (c : Int) (HC : Hid (chk b m.data.toList = c)) (S : ByteArray) (HS : Hid (S.data.toList = if c = 0 then putL b m.data.toList else [])) (w : World) :
    Calls Try.prog 13 #[numV b m] w fun e w' => e = .returned (.tuple #[.string S, .int .i64 c]) ∧ Below w.heap.size w w' := by
  have h := put_any b m hm w
  have e : putE b m.data.toList = .returned (.tuple #[.string S, .int .i64 c]) := by
    rw [putE, HC.out, ← HS.out, bs_of]
  rw [e] at h
  exact h
theorem compare_is (p : Bool) (a : ByteArray) (q : Bool) (b : ByteArray) (ha : a.size ≤ 17179869184) (hb : b.size ≤ 17179869184) (c d : Int) (HC : Hid (compE p a.data.toList q b.data.toList = .returned (.tuple #[.int .i64 c, .int .i64 d]))) (w : World) :
    Calls Try.prog 17 #[numV p a, numV q b] w fun e w' => e = .returned (.tuple #[.int .i64 c, .int .i64 d]) ∧ Below w.heap.size w w' := by
  have h := compare_any p a q b ha hb w
  rw [HC.out] at h
  exact h

set_option maxHeartbeats 2000000 in
theorem order_two (p : Bool) (A : ByteArray) (q : Bool) (B : ByteArray) (X Y : ByteArray) (hA : A.size ≤ 255) (hB : B.size ≤ 255) (hX : X.size ≤ 536870911) (hY : Y.size ≤ 536870911)
    (S T : ByteArray) (C : Int) (HS : Hid (∀ w : World, Calls Try.prog 13 #[numV p A] w fun e w' => e = .returned (.tuple #[.string S, .int .i64 0]) ∧ Below w.heap.size w w'))
    (HT : Hid (∀ w : World, Calls Try.prog 13 #[numV q B] w fun e w' => e = .returned (.tuple #[.string T, .int .i64 0]) ∧ Below w.heap.size w w'))
    (HC : Hid (∀ w : World, Calls Try.prog 17 #[numV p A, numV q B] w fun e w' => e = .returned (.tuple #[.int .i64 C, .int .i64 0]) ∧ Below w.heap.size w w'))
    (HD : Hid (∀ w : World, Calls Try.prog 17 #[numV q B, numV p A] w fun e w' => e = .returned (.tuple #[.int .i64 (-C), .int .i64 0]) ∧ Below w.heap.size w w'))
    (hC : C ≠ 0) (hC1 : -1 ≤ C) (hC2 : C ≤ 1) (hS3 : S.size ≤ 300) (hT3 : T.size ≤ 300) (HN : Hid ((p == q && A.toList == B.toList) = false)) (hST : (S.toList == T.toList) = false)
    (HO1 : Hid (cmpL (S ++ X).data.toList (T ++ Y).data.toList = C)) (HO2 : Hid (cmpL S.data.toList T.data.toList = C)) (w : World) :
    Calls Try.prog 7 #[numV p A, numV q B, .string X, .string Y] w fun e w' => e = .returned (.bool true) ∧ Below w.heap.size w w' := by
  have hW := ((Below.refl w.heap.size w).alloc (Nat.le_refl _) (.cells #[.bool p, .string A] 26)).alloc (by simp) (.cells #[.bool q, .string B] 26)
  have heq : ∀ w : World, (Op.equalIn 10000 26 (.agg #[.bool p, .string A]) (.agg #[.bool q, .string B])).run Try.prog w = .ok false w := fun w => by rw [num_eq, HN.out]
  have hCz : (C == 0) = false := by simpa using hC
  go_enter Try.func7, Try.ntmps7
  go_wp2_with fail
  refine (HS.out _).mono ?_
  rintro e w1 ⟨rfl, hb1⟩
  obtain ⟨p0, p1, p2⟩ := box_num hb1 (h := w.heap.size) (v0 := .bool p) (v1 := .string A) ⟨by simp [go_sem], by simp [go_sem], by simp; omega⟩
  obtain ⟨q0, q1, q2⟩ := box_num hb1 (h := w.heap.size + 1) (v0 := .bool q) (v1 := .string B) ⟨by simp [go_sem], by simp [go_sem], by simp⟩
  replace hW := hW.trans (hb1.mono hW.size)
  clear hb1 HS
  go_wp2_with fail
  refine (HT.out _).mono ?_
  rintro e w2 ⟨rfl, hb2⟩
  obtain ⟨p0, p1, p2⟩ := box_num hb2 (h := w.heap.size) ⟨p0, p1, p2⟩
  obtain ⟨q0, q1, q2⟩ := box_num hb2 (h := w.heap.size + 1) ⟨q0, q1, q2⟩
  replace hW := hW.trans (hb2.mono hW.size)
  clear hb2 HT
  go_wp2_with fail
  refine (HC.out _).mono ?_
  rintro e w3 ⟨rfl, hb3⟩
  obtain ⟨p0, p1, p2⟩ := box_num hb3 (h := w.heap.size) ⟨p0, p1, p2⟩
  obtain ⟨q0, q1, q2⟩ := box_num hb3 (h := w.heap.size + 1) ⟨q0, q1, q2⟩
  replace hW := hW.trans (hb3.mono hW.size)
  clear hb3 HC
  go_wp2_with fail
  refine (HD.out _).mono ?_
  rintro e w4 ⟨rfl, hb4⟩
  obtain ⟨p0, p1, p2⟩ := box_num hb4 (h := w.heap.size) ⟨p0, p1, p2⟩
  obtain ⟨q0, q1, q2⟩ := box_num hb4 (h := w.heap.size + 1) ⟨q0, q1, q2⟩
  replace hW := hW.trans (hb4.mono hW.size)
  clear hb4 HD
  go_wp2_with fail
  refine (order_is _ _ _ HO1.out _).mono ?_
  rintro e w5 ⟨rfl, rfl⟩
  go_wp2_with fail
  refine (order_is _ _ _ HO2.out _).mono ?_
  rintro e w6 ⟨rfl, rfl⟩
  go_wp2_with fail
  refine (awake_any _).mono ?_
  rintro e w8 ⟨rfl, hb8⟩
  go_wp2_with fail
  go_ret
  exact ⟨rfl, hW.trans (hb8.mono hW.size)⟩

set_option maxHeartbeats 2000000 in
theorem order_same (p : Bool) (A : ByteArray) (X Y : ByteArray) (hA : A.size ≤ 255) (hX : X.size ≤ 536870911) (hY : Y.size ≤ 536870911)
    (S : ByteArray) (HS : Hid (∀ w : World, Calls Try.prog 13 #[numV p A] w fun e w' => e = .returned (.tuple #[.string S, .int .i64 0]) ∧ Below w.heap.size w w'))
    (HC : Hid (∀ w : World, Calls Try.prog 17 #[numV p A, numV p A] w fun e w' => e = .returned (.tuple #[.int .i64 0, .int .i64 0]) ∧ Below w.heap.size w w')) (w : World) :
    Calls Try.prog 7 #[numV p A, numV p A, .string X, .string Y] w fun e w' => e = .returned (.bool true) ∧ Below w.heap.size w w' := by
  have hW := ((Below.refl w.heap.size w).alloc (Nat.le_refl _) (.cells #[.bool p, .string A] 26)).alloc (by simp) (.cells #[.bool p, .string A] 26)
  have heq : ∀ w : World, (Op.equalIn 10000 26 (.agg #[.bool p, .string A]) (.agg #[.bool p, .string A])).run Try.prog w = .ok true w := fun w => by rw [num_eq]; simp
  go_enter Try.func7, Try.ntmps7
  go_wp2_with fail
  refine (HS.out _).mono ?_
  rintro e w1 ⟨rfl, hb1⟩
  obtain ⟨p0, p1, p2⟩ := box_num hb1 (h := w.heap.size) (v0 := .bool p) (v1 := .string A) ⟨by simp [go_sem], by simp [go_sem], by simp; omega⟩
  obtain ⟨q0, q1, q2⟩ := box_num hb1 (h := w.heap.size + 1) (v0 := .bool p) (v1 := .string A) ⟨by simp [go_sem], by simp [go_sem], by simp⟩
  replace hW := hW.trans (hb1.mono hW.size)
  clear hb1
  go_wp2_with fail
  refine (HS.out _).mono ?_
  rintro e w2 ⟨rfl, hb2⟩
  obtain ⟨p0, p1, p2⟩ := box_num hb2 (h := w.heap.size) ⟨p0, p1, p2⟩
  obtain ⟨q0, q1, q2⟩ := box_num hb2 (h := w.heap.size + 1) ⟨q0, q1, q2⟩
  replace hW := hW.trans (hb2.mono hW.size)
  clear hb2 HS
  go_wp2_with fail
  refine (HC.out _).mono ?_
  rintro e w3 ⟨rfl, hb3⟩
  obtain ⟨p0, p1, p2⟩ := box_num hb3 (h := w.heap.size) ⟨p0, p1, p2⟩
  obtain ⟨q0, q1, q2⟩ := box_num hb3 (h := w.heap.size + 1) ⟨q0, q1, q2⟩
  replace hW := hW.trans (hb3.mono hW.size)
  clear hb3
  go_wp2_with fail
  refine (HC.out _).mono ?_
  rintro e w4 ⟨rfl, hb4⟩
  obtain ⟨p0, p1, p2⟩ := box_num hb4 (h := w.heap.size) ⟨p0, p1, p2⟩
  obtain ⟨q0, q1, q2⟩ := box_num hb4 (h := w.heap.size + 1) ⟨q0, q1, q2⟩
  replace hW := hW.trans (hb4.mono hW.size)
  clear hb4 HC
  go_wp2_with fail
  refine (awake_any _).mono ?_
  rintro e w8 ⟨rfl, hb8⟩
  go_wp2_with fail
  go_ret
  exact ⟨rfl, hW.trans (hb8.mono hW.size)⟩

set_option maxHeartbeats 2000000 in
theorem order_err (p : Bool) (A : ByteArray) (q : Bool) (B : ByteArray) (X Y : ByteArray) (hA : A.size ≤ 255) (hB : B.size ≤ 255) (hX : X.size ≤ 536870911) (hY : Y.size ≤ 536870911)
    (S T : ByteArray) (c1 c2 d1 d2 : Int) (hor : (c1 != 0 || c2 != 0) = true) (hd1 : ¬ d1 = 0) (hd2 : ¬ d2 = 0) (HS : Hid (∀ w : World, Calls Try.prog 13 #[numV p A] w fun e w' => e = .returned (.tuple #[.string S, .int .i64 c1]) ∧ Below w.heap.size w w'))
    (HT : Hid (∀ w : World, Calls Try.prog 13 #[numV q B] w fun e w' => e = .returned (.tuple #[.string T, .int .i64 c2]) ∧ Below w.heap.size w w'))
    (HC : Hid (∀ w : World, Calls Try.prog 17 #[numV p A, numV q B] w fun e w' => e = .returned (.tuple #[.int .i64 0, .int .i64 d1]) ∧ Below w.heap.size w w'))
    (HD : Hid (∀ w : World, Calls Try.prog 17 #[numV q B, numV p A] w fun e w' => e = .returned (.tuple #[.int .i64 0, .int .i64 d2]) ∧ Below w.heap.size w w')) (w : World) :
    Calls Try.prog 7 #[numV p A, numV q B, .string X, .string Y] w fun e w' => e = .returned (.bool true) ∧ Below w.heap.size w w' := by
  have hW := ((Below.refl w.heap.size w).alloc (Nat.le_refl _) (.cells #[.bool p, .string A] 26)).alloc (by simp) (.cells #[.bool q, .string B] 26)
  by_cases hc1 : c1 = 0
  · have hc2 : ¬ c2 = 0 := by subst hc1; simpa using hor
    subst hc1
    clear hor
    go_enter Try.func7, Try.ntmps7
    go_wp2_with fail
    refine (HS.out _).mono ?_
    rintro e w1 ⟨rfl, hb1⟩
    obtain ⟨p0, p1, p2⟩ := box_num hb1 (h := w.heap.size) (v0 := .bool p) (v1 := .string A) ⟨by simp [go_sem], by simp [go_sem], by simp; omega⟩
    obtain ⟨q0, q1, q2⟩ := box_num hb1 (h := w.heap.size + 1) (v0 := .bool q) (v1 := .string B) ⟨by simp [go_sem], by simp [go_sem], by simp⟩
    replace hW := hW.trans (hb1.mono hW.size)
    clear hb1 HS
    go_wp2_with fail
    refine (HT.out _).mono ?_
    rintro e w2 ⟨rfl, hb2⟩
    obtain ⟨p0, p1, p2⟩ := box_num hb2 (h := w.heap.size) ⟨p0, p1, p2⟩
    obtain ⟨q0, q1, q2⟩ := box_num hb2 (h := w.heap.size + 1) ⟨q0, q1, q2⟩
    replace hW := hW.trans (hb2.mono hW.size)
    clear hb2 HT
    go_wp2_with fail
    refine (HC.out _).mono ?_
    rintro e w3 ⟨rfl, hb3⟩
    obtain ⟨p0, p1, p2⟩ := box_num hb3 (h := w.heap.size) ⟨p0, p1, p2⟩
    obtain ⟨q0, q1, q2⟩ := box_num hb3 (h := w.heap.size + 1) ⟨q0, q1, q2⟩
    replace hW := hW.trans (hb3.mono hW.size)
    clear hb3 HC
    go_wp2_with fail
    refine (HD.out _).mono ?_
    rintro e w4 ⟨rfl, hb4⟩
    obtain ⟨p0, p1, p2⟩ := box_num hb4 (h := w.heap.size) ⟨p0, p1, p2⟩
    obtain ⟨q0, q1, q2⟩ := box_num hb4 (h := w.heap.size + 1) ⟨q0, q1, q2⟩
    replace hW := hW.trans (hb4.mono hW.size)
    clear hb4 HD
    go_wp2_with fail
    refine (awake_any _).mono ?_
    rintro e w8 ⟨rfl, hb8⟩
    go_wp2_with fail
    go_ret
    exact ⟨congrArg (fun b => Ending.returned (Value.bool b)) (show (d1 != 0 && d2 != 0) = true by simp [hd1, hd2]), hW.trans (hb8.mono hW.size)⟩
  · clear hor
    by_cases hc2 : c2 = 0
    · subst hc2
      go_enter Try.func7, Try.ntmps7
      go_wp2_with fail
      refine (HS.out _).mono ?_
      rintro e w1 ⟨rfl, hb1⟩
      obtain ⟨p0, p1, p2⟩ := box_num hb1 (h := w.heap.size) (v0 := .bool p) (v1 := .string A) ⟨by simp [go_sem], by simp [go_sem], by simp; omega⟩
      obtain ⟨q0, q1, q2⟩ := box_num hb1 (h := w.heap.size + 1) (v0 := .bool q) (v1 := .string B) ⟨by simp [go_sem], by simp [go_sem], by simp⟩
      replace hW := hW.trans (hb1.mono hW.size)
      clear hb1 HS
      go_wp2_with fail
      refine (HT.out _).mono ?_
      rintro e w2 ⟨rfl, hb2⟩
      obtain ⟨p0, p1, p2⟩ := box_num hb2 (h := w.heap.size) ⟨p0, p1, p2⟩
      obtain ⟨q0, q1, q2⟩ := box_num hb2 (h := w.heap.size + 1) ⟨q0, q1, q2⟩
      replace hW := hW.trans (hb2.mono hW.size)
      clear hb2 HT
      go_wp2_with fail
      refine (HC.out _).mono ?_
      rintro e w3 ⟨rfl, hb3⟩
      obtain ⟨p0, p1, p2⟩ := box_num hb3 (h := w.heap.size) ⟨p0, p1, p2⟩
      obtain ⟨q0, q1, q2⟩ := box_num hb3 (h := w.heap.size + 1) ⟨q0, q1, q2⟩
      replace hW := hW.trans (hb3.mono hW.size)
      clear hb3 HC
      go_wp2_with fail
      refine (HD.out _).mono ?_
      rintro e w4 ⟨rfl, hb4⟩
      obtain ⟨p0, p1, p2⟩ := box_num hb4 (h := w.heap.size) ⟨p0, p1, p2⟩
      obtain ⟨q0, q1, q2⟩ := box_num hb4 (h := w.heap.size + 1) ⟨q0, q1, q2⟩
      replace hW := hW.trans (hb4.mono hW.size)
      clear hb4 HD
      go_wp2_with fail
      refine (awake_any _).mono ?_
      rintro e w8 ⟨rfl, hb8⟩
      go_wp2_with fail
      go_ret
      exact ⟨congrArg (fun b => Ending.returned (Value.bool b)) (show (d1 != 0 && d2 != 0) = true by simp [hd1, hd2]), hW.trans (hb8.mono hW.size)⟩
    · go_enter Try.func7, Try.ntmps7
      go_wp2_with fail
      refine (HS.out _).mono ?_
      rintro e w1 ⟨rfl, hb1⟩
      obtain ⟨p0, p1, p2⟩ := box_num hb1 (h := w.heap.size) (v0 := .bool p) (v1 := .string A) ⟨by simp [go_sem], by simp [go_sem], by simp; omega⟩
      obtain ⟨q0, q1, q2⟩ := box_num hb1 (h := w.heap.size + 1) (v0 := .bool q) (v1 := .string B) ⟨by simp [go_sem], by simp [go_sem], by simp⟩
      replace hW := hW.trans (hb1.mono hW.size)
      clear hb1 HS
      go_wp2_with fail
      refine (HT.out _).mono ?_
      rintro e w2 ⟨rfl, hb2⟩
      obtain ⟨p0, p1, p2⟩ := box_num hb2 (h := w.heap.size) ⟨p0, p1, p2⟩
      obtain ⟨q0, q1, q2⟩ := box_num hb2 (h := w.heap.size + 1) ⟨q0, q1, q2⟩
      replace hW := hW.trans (hb2.mono hW.size)
      clear hb2 HT
      go_wp2_with fail
      refine (HC.out _).mono ?_
      rintro e w3 ⟨rfl, hb3⟩
      obtain ⟨p0, p1, p2⟩ := box_num hb3 (h := w.heap.size) ⟨p0, p1, p2⟩
      obtain ⟨q0, q1, q2⟩ := box_num hb3 (h := w.heap.size + 1) ⟨q0, q1, q2⟩
      replace hW := hW.trans (hb3.mono hW.size)
      clear hb3 HC
      go_wp2_with fail
      refine (HD.out _).mono ?_
      rintro e w4 ⟨rfl, hb4⟩
      obtain ⟨p0, p1, p2⟩ := box_num hb4 (h := w.heap.size) ⟨p0, p1, p2⟩
      obtain ⟨q0, q1, q2⟩ := box_num hb4 (h := w.heap.size + 1) ⟨q0, q1, q2⟩
      replace hW := hW.trans (hb4.mono hW.size)
      clear hb4 HD
      go_wp2_with fail
      refine (awake_any _).mono ?_
      rintro e w8 ⟨rfl, hb8⟩
      go_wp2_with fail
      go_ret
      exact ⟨congrArg (fun b => Ending.returned (Value.bool b)) (show (d1 != 0 && d2 != 0) = true by simp [hd1, hd2]), hW.trans (hb8.mono hW.size)⟩

set_option maxHeartbeats 1000000 in
theorem order_big (p : Bool) (A : ByteArray) (q : Bool) (B : ByteArray) (X Y : ByteArray) (hbig : ¬ (A.size ≤ 255 ∧ B.size ≤ 255 ∧ X.size ≤ 536870911 ∧ Y.size ≤ 536870911)) (w : World) :
    Calls Try.prog 7 #[numV p A, numV q B, .string X, .string Y] w fun e w' => e = .returned (.bool true) ∧ Below w.heap.size w w' := by
  have hW := ((Below.refl w.heap.size w).alloc (Nat.le_refl _) (.cells #[.bool p, .string A] 26)).alloc (by simp) (.cells #[.bool q, .string B] 26)
  by_cases hA : 255 < A.size
  · clear hbig
    go_enter Try.func7, Try.ntmps7
    go_wp2_with fail
    go_ret
    exact ⟨rfl, hW⟩
  · by_cases hB : 255 < B.size
    · clear hbig
      go_enter Try.func7, Try.ntmps7
      go_wp2_with fail
      go_ret
      exact ⟨rfl, hW⟩
    · by_cases hX : 536870911 < X.size
      · clear hbig
        go_enter Try.func7, Try.ntmps7
        go_wp2_with fail
        go_ret
        exact ⟨rfl, hW⟩
      · have hY : 536870911 < Y.size := by omega
        clear hbig
        go_enter Try.func7, Try.ntmps7
        go_wp2_with fail
        go_ret
        exact ⟨rfl, hW⟩

theorem put_size {b : Bool} {m : List UInt8} (h : m.length ≤ 255) : (putL b m).length ≤ 300 := by
  unfold putL
  have h1 := headL_length b m.length
  rw [bs_size] at h1
  have h2 : (turnB b m).length = m.length := by unfold turnB; split <;> simp [flipL_length]
  rw [List.length_append, h2]
  omega
theorem sgn_range (a b : Int) : -1 ≤ sgn a b ∧ sgn a b ≤ 1 := by unfold sgn; repeat' split <;> omega
theorem magC_range (a b : List UInt8) : -1 ≤ magC a b ∧ magC a b ≤ 1 := by
  unfold magC
  split
  · rcases cmpL_three a b with h | h | h <;> omega
  · exact sgn_range _ _
theorem cmpN_range (p : Bool) (a : List UInt8) (q : Bool) (b : List UInt8) : -1 ≤ cmpN p a q b ∧ cmpN p a q b ≤ 1 := by
  unfold cmpN
  have h1 := magC_range a b
  have h2 := magC_range b a
  cases p <;> cases q <;> simp <;> omega

theorem order_walk (p : Bool) (A : ByteArray) (q : Bool) (B : ByteArray) (X Y : ByteArray) (w : World) :
    Calls Try.prog 7 #[numV p A, numV q B, .string X, .string Y] w fun e w' => e = .returned (.bool true) ∧ Below w.heap.size w w' := by
  by_cases hbig : A.size ≤ 255 ∧ B.size ≤ 255 ∧ X.size ≤ 536870911 ∧ Y.size ≤ 536870911
  · obtain ⟨hA, hB, hX, hY⟩ := hbig
    have hA' : A.size ≤ 17179869184 := by omega
    have hB' : B.size ≤ 17179869184 := by omega
    by_cases h1 : chk p A.data.toList = 0
    · by_cases h2 : chk q B.data.toList = 0
      · have hcE : ∀ (p' : Bool) (a' : List UInt8) (q' : Bool) (b' : List UInt8), chk p' a' = 0 → chk q' b' = 0 → compE p' a' q' b' = .returned (.tuple #[.int .i64 (cmpN p' a' q' b'), .int .i64 0]) := by
          intro p' a' q' b' e1 e2
          simp [compE, e1, e2]
        have HS := fun w => put_is p A hA' 0 h1 (bs (putL p A.data.toList)) (by show _ = _; rw [bs_data, if_pos rfl]) w
        by_cases hs : p = q ∧ A.data.toList = B.data.toList
        · obtain ⟨rfl, hs⟩ := hs
          obtain rfl := data_inj hs
          refine order_same p A X Y hA hX hY _ HS ?_ w
          intro w
          refine compare_is p A p A hA' hA' 0 0 ?_ w
          show _ = _
          rw [hcE p _ p _ h1 h1, cmpN_zero.2 ⟨rfl, rfl⟩]
        · have hCr := cmpN_range p A.data.toList q B.data.toList
          refine order_two p A q B X Y hA hB hX hY (bs (putL p A.data.toList)) (bs (putL q B.data.toList)) (cmpN p A.data.toList q B.data.toList) HS
            (fun w => put_is q B hB' 0 h2 _ (by show _ = _; rw [bs_data, if_pos rfl]) w) (fun w => compare_is p A q B hA' hB' _ 0 (hcE _ _ _ _ h1 h2) w) (fun w => compare_is q B p A hB' hA' _ 0 ?_ w)
            (fun h => hs (cmpN_zero.1 h)) hCr.1 hCr.2 ?_ ?_ ?_ ?_ ?_ ?_ w
          · show _ = _
            rw [hcE _ _ _ _ h2 h1, cmpN_neg]
          · rw [bs_size]; exact put_size (by rw [← Lib.size_eq]; exact hA)
          · rw [bs_size]; exact put_size (by rw [← Lib.size_eq]; exact hB)
          · show _ = _
            rw [Bool.eq_false_iff]
            intro h
            rw [Bool.and_eq_true, ByteArray.toList_eq, ByteArray.toList_eq] at h
            exact hs ⟨by simpa using h.1, by simpa using h.2⟩
          · rw [Bool.eq_false_iff]
            intro h
            rw [bs_toList, bs_toList] at h
            exact hs ((put_inj h1 h2).1 (by simpa using h))
          · show _ = _
            have := order_put h1 h2 hs X.data.toList Y.data.toList
            simpa [bs_data] using this
          · show _ = _
            rw [bs_data, bs_data]
            exact put_order h1 h2 hs
      · have HS := fun w => put_is p A hA' 0 h1 (bs (putL p A.data.toList)) (by show _ = _; rw [bs_data, if_pos rfl]) w
        refine order_err p A q B X Y hA hB hX hY _ (bs []) 0 (chk q B.data.toList) (chk q B.data.toList) (chk q B.data.toList) (by simpa using h2) h2 h2 HS (fun w => put_is q B hB' _ rfl _ (by show _ = _; rw [bs_data, if_neg h2]) w) (fun w => compare_is p A q B hA' hB' _ _ ?_ w) (fun w => compare_is q B p A hB' hA' _ _ ?_ w) w
        · show _ = _
          simp [compE, h1, h2]
        · show _ = _
          simp [compE, h2]
    · have HS := fun w => put_is p A hA' _ rfl (bs []) (by show _ = _; rw [bs_data, if_neg h1]) w
      by_cases h2 : chk q B.data.toList = 0
      · refine order_err p A q B X Y hA hB hX hY _ (bs (putL q B.data.toList)) (chk p A.data.toList) 0 (chk p A.data.toList) (chk p A.data.toList) (by simpa using h1) h1 h1 HS (fun w => put_is q B hB' 0 h2 _ (by show _ = _; rw [bs_data, if_pos rfl]) w) (fun w => compare_is p A q B hA' hB' _ _ ?_ w) (fun w => compare_is q B p A hB' hA' _ _ ?_ w) w
        · show _ = _
          simp [compE, h1]
        · show _ = _
          simp [compE, h1, h2]
      · refine order_err p A q B X Y hA hB hX hY _ (bs []) (chk p A.data.toList) (chk q B.data.toList) (chk p A.data.toList) (chk q B.data.toList) (by simp [h1]) h1 h2 HS (fun w => put_is q B hB' _ rfl _ (by show _ = _; rw [bs_data, if_neg h2]) w) (fun w => compare_is p A q B hA' hB' _ _ ?_ w) (fun w => compare_is q B p A hB' hA' _ _ ?_ w) w
        · show _ = _
          simp [compE, h1]
        · show _ = _
          simp [compE, h2]
  · exact order_big p A q B X Y hbig w
end Go.Proofs.Ytdmdnhlmfailaaa
