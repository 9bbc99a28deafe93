/- What NatBack comes to (a walk; nothing is claimed here). -/
import Derived.Test.YtdmdnhlmfailaaaOrderO
import Derived.Test.YtdmdnhlmfailaaaMathQ
namespace Go.Proofs.Ytdmdnhlmfailaaa
open Go.ChangeShapes Go.WideShapes Go.ChangeAt Go.RowKit Go.Vf

theorem check_is (b : Bool) (m : ByteArray) (hm : m.size ≤ 17179869184) (c : Int) (HC : Hid (chk b m.data.toList = c)) (w : World) :
    Calls Try.prog 12 #[numV b m] w fun e w' => e = .returned (.int .i64 c) ∧ Below w.heap.size w w' := by
  have h := check_any b m hm w
  rw [HC.out] at h
  exact h
theorem print_is (b : Bool) (m : ByteArray) (hm : m.size ≤ 17179869184) (c : Int) (HC : Hid (chk b m.data.toList = c)) (S : ByteArray) (HS : Hid (S.data.toList = if c = 0 then printL b m.data.toList else [])) (w : World) :
    Calls Try.prog 14 #[numV b m] w fun e w' => e = .returned (.tuple #[.string S, .int .i64 c]) ∧ Below w.heap.size w w' := by
  have h := print_any b m hm w
  have e : printE b m.data.toList = .returned (.tuple #[.string S, .int .i64 c]) := by
    rw [printE, HC.out, ← HS.out, bs_of]
  rw [e] at h
  exact h

theorem chk_long (b : Bool) (m : List UInt8) : chk b m = 21 ↔ 255 < m.length := by
  unfold chk
  split
  · simp [*]
  · split <;> simp [*]

set_option maxHeartbeats 2000000 in
theorem back_err (p : Bool) (A X Y : ByteArray) (hA : A.size ≤ 536870911) (hX : X.size ≤ 536870911) (hY : Y.size ≤ 536870911) (c : Int) (hc : ¬ c = 0) (hlong : (c == 21) = decide (255 < (A.size : Int)))
    (HC : Hid (∀ w : World, Calls Try.prog 12 #[numV p A] w fun e w' => e = .returned (.int .i64 c) ∧ Below w.heap.size w w'))
    (HS : Hid (∀ w : World, Calls Try.prog 13 #[numV p A] w fun e w' => e = .returned (.tuple #[.string (bs []), .int .i64 c]) ∧ Below w.heap.size w w'))
    (HT : Hid (∀ w : World, Calls Try.prog 14 #[numV p A] w fun e w' => e = .returned (.tuple #[.string (bs []), .int .i64 c]) ∧ Below w.heap.size w w')) (w : World) :
    Calls Try.prog 5 #[numV p A, .string X, .string Y] w fun e w' => e = .returned (.bool true) ∧ Below w.heap.size w w' := by
  have hW := (Below.refl w.heap.size w).alloc (Nat.le_refl _) (.cells #[.bool p, .string A] 26)
  have hnil : (bs []).toList.isEmpty = true := by rw [bs_toList]; rfl
  go_enter Try.func5, Try.ntmps5
  go_wp2_with fail
  refine (HC.out _).mono ?_
  rintro e w1 ⟨rfl, hb1⟩
  obtain ⟨p0, p1, p2⟩ := box_num hb1 (h := w.heap.size) (v0 := .bool p) (v1 := .string A) ⟨by simp, by simp, by simp⟩
  replace hW := hW.trans (hb1.mono hW.size)
  clear hb1 HC
  go_wp2_with fail
  refine (HS.out _).mono ?_
  rintro e w2 ⟨rfl, hb2⟩
  obtain ⟨p0, p1, p2⟩ := box_num hb2 (h := w.heap.size) ⟨p0, p1, p2⟩
  replace hW := hW.trans (hb2.mono hW.size)
  clear hb2 HS
  go_wp2_with fail
  refine (HT.out _).mono ?_
  rintro e w3 ⟨rfl, hb3⟩
  obtain ⟨p0, p1, p2⟩ := box_num hb3 (h := w.heap.size) ⟨p0, p1, p2⟩
  replace hW := hW.trans (hb3.mono hW.size)
  clear hb3 HT
  go_wp2_with fail
  refine (awake_any _).mono ?_
  rintro e w8 ⟨rfl, hb8⟩
  go_wp2_with fail
  go_ret
  exact ⟨rfl, hW.trans (hb8.mono hW.size)⟩

set_option maxHeartbeats 2000000 in
theorem back_ok (p : Bool) (A X Y S T : ByteArray) (hA : A.size ≤ 536870911) (hX : X.size ≤ 536870911) (hY : Y.size ≤ 536870911) (hS3 : S.size ≤ 300)
    (HC : Hid (∀ w : World, Calls Try.prog 12 #[numV p A] w fun e w' => e = .returned (.int .i64 0) ∧ Below w.heap.size w w'))
    (HS : Hid (∀ w : World, Calls Try.prog 13 #[numV p A] w fun e w' => e = .returned (.tuple #[.string S, .int .i64 0]) ∧ Below w.heap.size w w'))
    (HT : Hid (∀ w : World, Calls Try.prog 14 #[numV p A] w fun e w' => e = .returned (.tuple #[.string T, .int .i64 0]) ∧ Below w.heap.size w w'))
    (HK : Hid (∀ w : World, Calls Try.prog 15 #[.string (X ++ S ++ Y), .int .i64 (X.size : Int)] w fun e w' => e = .returned (.tuple #[numV p A, .int .i64 ((X.size : Int) + (S.size : Int)), .int .i64 0]) ∧ Below w.heap.size w w'))
    (HP : Hid (∀ w : World, Calls Try.prog 16 #[.string T] w fun e w' => e = .returned (.tuple #[numV p A, .int .i64 0]) ∧ Below w.heap.size w w')) (w : World) :
    Calls Try.prog 5 #[numV p A, .string X, .string Y] w fun e w' => e = .returned (.bool true) ∧ Below w.heap.size w w' := by
  have hW := (Below.refl w.heap.size w).alloc (Nat.le_refl _) (.cells #[.bool p, .string A] 26)
  have heq : ∀ w : World, (Op.equalIn 10000 26 (.agg #[.bool p, .string A]) (.agg #[.bool p, .string A])).run Try.prog w = .ok true w := fun w => by rw [num_eq]; simp
  go_enter Try.func5, Try.ntmps5
  go_wp2_with fail
  refine (HC.out _).mono ?_
  rintro e w1 ⟨rfl, hb1⟩
  obtain ⟨p0, p1, p2⟩ := box_num hb1 (h := w.heap.size) (v0 := .bool p) (v1 := .string A) ⟨by simp, by simp, by simp⟩
  replace hW := hW.trans (hb1.mono hW.size)
  clear hb1 HC
  go_wp2_with fail
  refine (HS.out _).mono ?_
  rintro e w2 ⟨rfl, hb2⟩
  obtain ⟨p0, p1, p2⟩ := box_num hb2 (h := w.heap.size) ⟨p0, p1, p2⟩
  replace hW := hW.trans (hb2.mono hW.size)
  clear hb2 HS
  go_wp2_with fail
  refine (HT.out _).mono ?_
  rintro e w3 ⟨rfl, hb3⟩
  obtain ⟨p0, p1, p2⟩ := box_num hb3 (h := w.heap.size) ⟨p0, p1, p2⟩
  replace hW := hW.trans (hb3.mono hW.size)
  clear hb3 HT
  go_wp2_with fail
  refine (HK.out _).mono ?_
  rintro e w4 ⟨rfl, hb4⟩
  replace hW := hW.trans (hb4.mono hW.size)
  have hS := box_num hb4 (h := w.heap.size) ⟨p0, p1, p2⟩
  clear hb4 HK p0 p1 p2
  have hT : (w4.alloc (.cells #[.bool p, .string A] 26)).cell? ⟨w4.heap.size, 0, none⟩ = some (.bool p) ∧ (w4.alloc (.cells #[.bool p, .string A] 26)).cell? ⟨w4.heap.size, 1, none⟩ = some (.string A) ∧ w4.heap.size < (w4.alloc (.cells #[.bool p, .string A] 26)).heap.size := ⟨by simp, by simp, by simp⟩
  replace hW := hW.alloc hW.size (.cells #[.bool p, .string A] 26)
  replace hS := box_num ((Below.refl w4.heap.size w4).alloc (Nat.le_refl _) (.cells #[.bool p, .string A] 26)) hS
  go_wp2_with fail
  generalize w4.alloc (.cells #[.bool p, .string A] 26) = W4 at hW hS hT ⊢
  refine (HP.out _).mono ?_
  rintro e w5 ⟨rfl, hb5⟩
  replace hW := hW.trans (hb5.mono hW.size)
  replace hS := box_num hb5 hS
  replace hT := box_num hb5 hT
  clear hb5 HP
  have hU : (w5.alloc (.cells #[.bool p, .string A] 26)).cell? ⟨w5.heap.size, 0, none⟩ = some (.bool p) ∧ (w5.alloc (.cells #[.bool p, .string A] 26)).cell? ⟨w5.heap.size, 1, none⟩ = some (.string A) ∧ w5.heap.size < (w5.alloc (.cells #[.bool p, .string A] 26)).heap.size := ⟨by simp, by simp, by simp⟩
  replace hW := hW.alloc hW.size (.cells #[.bool p, .string A] 26)
  obtain ⟨s0, s1, s2⟩ := box_num ((Below.refl w5.heap.size w5).alloc (Nat.le_refl _) (.cells #[.bool p, .string A] 26)) hS
  obtain ⟨t0, t1, t2⟩ := box_num ((Below.refl w5.heap.size w5).alloc (Nat.le_refl _) (.cells #[.bool p, .string A] 26)) hT
  obtain ⟨u0, u1, u2⟩ := hU
  clear hS hT
  go_wp2_with fail
  refine (awake_any _).mono ?_
  rintro e w8 ⟨rfl, hb8⟩
  go_wp2_with fail
  go_ret
  exact ⟨rfl, hW.trans (hb8.mono hW.size)⟩

set_option maxHeartbeats 1000000 in
theorem back_big (p : Bool) (A X Y : ByteArray) (hbig : ¬ (A.size ≤ 536870911 ∧ X.size ≤ 536870911 ∧ Y.size ≤ 536870911)) (w : World) :
    Calls Try.prog 5 #[numV p A, .string X, .string Y] w fun e w' => e = .returned (.bool true) ∧ Below w.heap.size w w' := by
  have hW := (Below.refl w.heap.size w).alloc (Nat.le_refl _) (.cells #[.bool p, .string A] 26)
  by_cases hA : 536870911 < A.size
  · clear hbig
    go_enter Try.func5, Try.ntmps5
    go_wp2_with fail
    go_ret
    exact ⟨rfl, hW⟩
  · by_cases hX : 536870911 < X.size
    · clear hbig
      go_enter Try.func5, Try.ntmps5
      go_wp2_with fail
      go_ret
      exact ⟨rfl, hW⟩
    · have hY : 536870911 < Y.size := by omega
      clear hbig
      go_enter Try.func5, Try.ntmps5
      go_wp2_with fail
      go_ret
      exact ⟨rfl, hW⟩

theorem back_walk (p : Bool) (A X Y : ByteArray) (w : World) :
    Calls Try.prog 5 #[numV p A, .string X, .string Y] w fun e w' => e = .returned (.bool true) ∧ Below w.heap.size w w' := by
  by_cases hbig : A.size ≤ 536870911 ∧ X.size ≤ 536870911 ∧ Y.size ≤ 536870911
  · obtain ⟨hA, hX, hY⟩ := hbig
    have hA' : A.size ≤ 17179869184 := by omega
    have hAl : A.data.toList.length = A.size := (Lib.size_eq A).symm
    by_cases hc : chk p A.data.toList = 0
    · have h255 := (chk_zero hc).1
      have hps := put_size (b := p) h255
      have hcat : (X ++ bs (putL p A.data.toList) ++ Y).data.toList = X.data.toList ++ (putL p A.data.toList ++ Y.data.toList) := by simp [bs_data]
      have hcs : (X ++ bs (putL p A.data.toList) ++ Y).size = X.size + ((putL p A.data.toList).length + Y.size) := by
        rw [Lib.size_eq, hcat, List.length_append, List.length_append, ← Lib.size_eq, ← Lib.size_eq]
      refine back_ok p A X Y (bs (putL p A.data.toList)) (bs (printL p A.data.toList)) hA hX hY (by rw [bs_size]; exact hps) (fun w => check_is p A hA' 0 hc w)
        (fun w => put_is p A hA' 0 hc _ (by show _ = _; rw [bs_data, if_pos rfl]) w) (fun w => print_is p A hA' 0 hc _ (by show _ = _; rw [bs_data, if_pos rfl]) w) ?_ ?_ w
      · intro w
        have h := take_any (X ++ bs (putL p A.data.toList) ++ Y) X.size (by omega) (by omega) w
        have e : takeE X.size (tk ((X ++ bs (putL p A.data.toList) ++ Y).data.toList.drop X.size)) = .returned (.tuple #[numV p A, .int .i64 ((X.size : Int) + ((bs (putL p A.data.toList)).size : Int)), .int .i64 0]) := by
          rw [hcat, Lib.size_eq X, List.drop_left, tk_put hc, bs_size]
          simp only [takeE, bs_of]
          simp
        rw [e] at h
        exact h
      · intro w
        have hprl : (bs (printL p A.data.toList)).size ≤ 17179869184 := by
          rw [bs_size]
          have := decD_bound h255
          unfold printL
          split
          · simp
          · split
            · rw [List.length_cons, List.length_reverse]; omega
            · rw [List.length_reverse]; omega
        have h := parse_any (bs (printL p A.data.toList)) hprl w
        rw [bs_data, parse_print hc] at h
        simp only [parseE, bs_of] at h
        exact h
    · refine back_err p A X Y hA hX hY (chk p A.data.toList) hc ?_ (fun w => check_is p A hA' _ rfl w) (fun w => put_is p A hA' _ rfl _ (by show _ = _; rw [bs_data, if_neg hc]) w) (fun w => print_is p A hA' _ rfl _ (by show _ = _; rw [bs_data, if_neg hc]) w) w
      have := chk_long p A.data.toList
      rw [hAl] at this
      rw [Bool.eq_iff_iff]
      simp only [beq_iff_eq, decide_eq_true_eq]
      rw [this]
      omega
  · exact back_big p A X Y hbig w

theorem back_open {H : Type} {enc : TypeId × Value → H} {base : Nat} {W : World} (v0 : Value) (d0 : DataW H) (p0 : List MemPlace) (ok0 : Value.okWide Try.prog W .any base 26 v0) (h0 : DataW.Trod enc Try.prog W 0 (fun _ => true) true 26 v0 d0 p0)
    (X : ByteArray) (_wX : X.size ≤ maxLen) (Y : ByteArray) (_wY : Y.size ≤ maxLen) (W' : World) (hW : W' = W) :
    Calls Try.prog 5 #[v0, .string X, .string Y] W' fun e w' => e = .returned (.bool true) ∧ Below W'.heap.size W' w' := by
  subst hW
  obtain ⟨p, A, rfl, _⟩ := num_open v0 d0 p0 ok0 h0
  exact back_walk p A X Y W'
end Go.Proofs.Ytdmdnhlmfailaaa
