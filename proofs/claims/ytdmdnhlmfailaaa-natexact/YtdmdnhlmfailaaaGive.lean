/- What nat.need, takeByte and the deferred readers do (contracts; nothing is claimed here). -/
import Derived.Test.YtdmdnhlmfailaaaRows
import Derived.Test.YtdmdnhlmfailaaaApp
import Derived.Defers
import Derived.Recover
namespace Go.Proofs.Ytdmdnhlmfailaaa
open Go.RowKit Go.Vf

/-- What a reader gives up with. -/
abbrev lostV (why at_ : Int) : Value := .iface 52 (.agg #[.int .i64 why, .int .i64 at_])
abbrev lost (why at_ : Int) : Ending := .panicked [{ v := lostV why at_, recovered := false }]

theorem need_ok (h : Bool) (at_ : Int) (w : World) (hh : h = true) :
    Calls Try.prog 46 #[.bool h, .int .i64 at_] w fun e w' => e = .returned (.tuple #[]) ∧ w = w' := by
  subst hh
  go_enter Try.func46, Try.ntmps46
  go_wp2
  go_end0
  exact ⟨rfl, rfl⟩

theorem need_no (h : Bool) (at_ : Int) (w : World) (hh : h = false) :
    Calls Try.prog 46 #[.bool h, .int .i64 at_] w fun e w' => e = lost 20 at_ ∧ w = w' := by
  subst hh
  go_enter Try.func46, Try.ntmps46
  go_wp2
  exact ⟨rfl, rfl, rfl⟩

theorem takeByte_ok (s : ByteArray) (k : Nat) (i : Int) (hi : i = (k : Int)) (hk : k < s.size) (_hs : s.size ≤ 17179869184) (w : World) :
    Calls Try.prog 45 #[.string s, .int .i64 i] w fun e w' => e = .returned (.int .i64 (s[k].toNat : Int)) ∧ w = w' := by
  subst hi
  have hb := s[k].toNat_lt
  go_enter Try.func45, Try.ntmps45
  go_wp2_with fail
  refine (need_ok _ _ _ (by simp; try omega)).mono ?_
  rintro e w1 ⟨rfl, rfl⟩
  go_wp2
  go_ret
  exact ⟨rfl, rfl⟩

theorem takeByte_no (s : ByteArray) (k : Nat) (i : Int) (hi : i = (k : Int)) (hk : s.size ≤ k) (_hs : s.size ≤ 17179869184) (w : World) :
    Calls Try.prog 45 #[.string s, .int .i64 i] w fun e w' => e = lost 20 (s.size : Int) ∧ w = w' := by
  subst hi
  go_enter Try.func45, Try.ntmps45
  go_wp2_with fail
  refine (need_no _ _ _ (by simp; omega)).mono ?_
  rintro e w1 ⟨rfl, rfl⟩
  go_wp2
  exact ⟨rfl, rfl, rfl⟩

/-- The head of a number's bytes: whether below, how many bytes of magnitude, how long the head; or where it is none. -/
def tkHead : List UInt8 → Except Nat (Bool × Nat × Nat)
  | [] => .error 0
  | x :: r =>
    if x.toNat = 255 then
      match r with
      | [] => .error 1
      | y :: _ => if 126 < y.toNat then .ok (false, y.toNat, 2) else .error 1
    else if x.toNat = 1 then
      match r with
      | [] => .error 1
      | y :: _ => if y.toNat < 129 then .ok (true, 255 - y.toNat, 2) else .error 1
    else if 1 < x.toNat then
      if x.toNat < 128 then .ok (true, 128 - x.toNat, 1) else .ok (false, x.toNat - 128, 1)
    else .error 0

theorem drop_at (s : ByteArray) (k : Nat) (hk : k < s.size) : s.data.toList.drop k = s[k] :: s.data.toList.drop (k + 1) := by
  rw [List.drop_eq_getElem_cons (by rw [← Lib.size_eq]; exact hk)]
  rfl
theorem drop_end (s : ByteArray) (k : Nat) (hk : s.size ≤ k) : s.data.toList.drop k = [] := List.drop_of_length_le (by rw [← Lib.size_eq]; exact hk)

/-- What takeHead answers. -/
def headE (a : Nat) : Except Nat (Bool × Nat × Nat) → Ending
  | .ok (b, k, h) => .returned (.tuple #[.bool b, .int .i64 (k : Int), .int .i64 ((a + h : Nat) : Int)])
  | .error n => lost 20 ((a + n : Nat) : Int)

set_option maxHeartbeats 400000 in
set_option maxRecDepth 10000 in
theorem takeHead_any (s : ByteArray) (a : Nat) (ha : a ≤ s.size) (hs : s.size ≤ 17179869184) (w : World) :
    Calls Try.prog 34 #[.string s, .int .i64 (a : Int)] w fun e w' => e = headE a (tkHead (s.data.toList.drop a)) ∧ w = w' := by
  by_cases h1 : a < s.size
  · have hb := s[a].toNat_lt
    rw [drop_at s a h1]
    by_cases hF : s[a].toNat = 255
    · by_cases h2 : a + 1 < s.size
      · rw [drop_at s (a + 1) h2]
        have hb2 := s[a + 1].toNat_lt
        by_cases h3 : 126 < s[a + 1].toNat
        · have hR : headE a (tkHead (s[a] :: s[a + 1] :: s.data.toList.drop (a + 1 + 1))) = .returned (.tuple #[.bool false, .int .i64 (s[a + 1].toNat : Int), .int .i64 ((a : Int) + 2)]) := by
            simp [tkHead, headE, hF, h3]
          rw [hR]
          clear hR
          go_enter Try.func34, Try.ntmps34
          go_wp2_with fail
          refine (takeByte_ok s a _ rfl h1 hs _).mono ?_
          rintro e w1 ⟨rfl, rfl⟩
          go_wp2_with fail
          refine (takeByte_ok s (a + 1) _ rfl h2 hs _).mono ?_
          rintro e w1 ⟨rfl, rfl⟩
          go_wp2_with fail
          refine (need_ok _ _ _ (by simp; try omega)).mono ?_
          rintro e w1 ⟨rfl, rfl⟩
          go_wp2
          go_ret3
          exact ⟨rfl, rfl⟩
        · have hR : headE a (tkHead (s[a] :: s[a + 1] :: s.data.toList.drop (a + 1 + 1))) = lost 20 ((a : Int) + 1) := by
            simp [tkHead, headE, hF, h3]
          rw [hR]
          clear hR
          go_enter Try.func34, Try.ntmps34
          go_wp2_with fail
          refine (takeByte_ok s a _ rfl h1 hs _).mono ?_
          rintro e w1 ⟨rfl, rfl⟩
          go_wp2_with fail
          refine (takeByte_ok s (a + 1) _ rfl h2 hs _).mono ?_
          rintro e w1 ⟨rfl, rfl⟩
          go_wp2_with fail
          refine (need_no _ _ _ (by simp; try omega)).mono ?_
          rintro e w1 ⟨rfl, rfl⟩
          go_wp2
          exact ⟨rfl, rfl, rfl⟩
      · rw [drop_end s (a + 1) (by omega)]
        have e0 : s.size = a + 1 := by omega
        have hR : headE a (tkHead ([s[a]])) = lost 20 (s.size : Int) := by
          simp [tkHead, headE, hF, e0]
        rw [hR]
        clear hR
        clear e0
        go_enter Try.func34, Try.ntmps34
        go_wp2_with fail
        refine (takeByte_ok s a _ rfl h1 hs _).mono ?_
        rintro e w1 ⟨rfl, rfl⟩
        go_wp2_with fail
        refine (takeByte_no s (a + 1) _ rfl (by omega) hs _).mono ?_
        rintro e w1 ⟨rfl, rfl⟩
        go_wp2
        exact ⟨rfl, rfl, rfl⟩
    by_cases hO : s[a].toNat = 1
    · by_cases h2 : a + 1 < s.size
      · rw [drop_at s (a + 1) h2]
        have hb2 := s[a + 1].toNat_lt
        by_cases h3 : s[a + 1].toNat < 129
        · have hR : headE a (tkHead (s[a] :: s[a + 1] :: s.data.toList.drop (a + 1 + 1))) = .returned (.tuple #[.bool true, .int .i64 (255 - (s[a + 1].toNat : Int)), .int .i64 ((a : Int) + 2)]) := by
            have e2 : ((255 - s[a + 1].toNat : Nat) : Int) = 255 - (s[a + 1].toNat : Int) := by omega
            simp [tkHead, headE, hO, h3, e2]
          rw [hR]
          clear hR
          go_enter Try.func34, Try.ntmps34
          go_wp2_with fail
          refine (takeByte_ok s a _ rfl h1 hs _).mono ?_
          rintro e w1 ⟨rfl, rfl⟩
          go_wp2_with fail
          refine (takeByte_ok s (a + 1) _ rfl h2 hs _).mono ?_
          rintro e w1 ⟨rfl, rfl⟩
          go_wp2_with fail
          refine (need_ok _ _ _ (by simp; try omega)).mono ?_
          rintro e w1 ⟨rfl, rfl⟩
          go_wp2
          go_ret3
          exact ⟨rfl, rfl⟩
        · have hR : headE a (tkHead (s[a] :: s[a + 1] :: s.data.toList.drop (a + 1 + 1))) = lost 20 ((a : Int) + 1) := by
            simp [tkHead, headE, hO, h3]
          rw [hR]
          clear hR
          go_enter Try.func34, Try.ntmps34
          go_wp2_with fail
          refine (takeByte_ok s a _ rfl h1 hs _).mono ?_
          rintro e w1 ⟨rfl, rfl⟩
          go_wp2_with fail
          refine (takeByte_ok s (a + 1) _ rfl h2 hs _).mono ?_
          rintro e w1 ⟨rfl, rfl⟩
          go_wp2_with fail
          refine (need_no _ _ _ (by simp; try omega)).mono ?_
          rintro e w1 ⟨rfl, rfl⟩
          go_wp2
          exact ⟨rfl, rfl, rfl⟩
      · rw [drop_end s (a + 1) (by omega)]
        have e0 : s.size = a + 1 := by omega
        have hR : headE a (tkHead ([s[a]])) = lost 20 (s.size : Int) := by
          simp [tkHead, headE, hO, e0]
        rw [hR]
        clear hR
        clear e0
        go_enter Try.func34, Try.ntmps34
        go_wp2_with fail
        refine (takeByte_ok s a _ rfl h1 hs _).mono ?_
        rintro e w1 ⟨rfl, rfl⟩
        go_wp2_with fail
        refine (takeByte_no s (a + 1) _ rfl (by omega) hs _).mono ?_
        rintro e w1 ⟨rfl, rfl⟩
        go_wp2
        exact ⟨rfl, rfl, rfl⟩
    by_cases h4 : 1 < s[a].toNat
    · by_cases h5 : s[a].toNat < 128
      · have hR : headE a (tkHead (s[a] :: s.data.toList.drop (a + 1))) = .returned (.tuple #[.bool true, .int .i64 (128 - (s[a].toNat : Int)), .int .i64 ((a : Int) + 1)]) := by
          have e2 : ((128 - s[a].toNat : Nat) : Int) = 128 - (s[a].toNat : Int) := by omega
          simp [tkHead, headE, hF, hO, h4, h5, e2]
        rw [hR]
        clear hR
        go_enter Try.func34, Try.ntmps34
        go_wp2_with fail
        refine (takeByte_ok s a _ rfl h1 hs _).mono ?_
        rintro e w1 ⟨rfl, rfl⟩
        go_wp2_with fail
        refine (need_ok _ _ _ (by simp; try omega)).mono ?_
        rintro e w1 ⟨rfl, rfl⟩
        go_wp2
        go_ret3
        exact ⟨rfl, rfl⟩
      · have hR : headE a (tkHead (s[a] :: s.data.toList.drop (a + 1))) = .returned (.tuple #[.bool false, .int .i64 ((s[a].toNat : Int) - 128), .int .i64 ((a : Int) + 1)]) := by
          have e2 : ((s[a].toNat - 128 : Nat) : Int) = (s[a].toNat : Int) - 128 := by omega
          simp [tkHead, headE, hF, hO, h4, h5, e2]
        rw [hR]
        clear hR
        go_enter Try.func34, Try.ntmps34
        go_wp2_with fail
        refine (takeByte_ok s a _ rfl h1 hs _).mono ?_
        rintro e w1 ⟨rfl, rfl⟩
        go_wp2_with fail
        refine (need_ok _ _ _ (by simp; try omega)).mono ?_
        rintro e w1 ⟨rfl, rfl⟩
        go_wp2
        go_ret3
        exact ⟨rfl, rfl⟩
    · have hR : headE a (tkHead (s[a] :: s.data.toList.drop (a + 1))) = lost 20 (a : Int) := by
        simp [tkHead, headE, hF, hO, h4]
      rw [hR]
      clear hR
      go_enter Try.func34, Try.ntmps34
      go_wp2_with fail
      refine (takeByte_ok s a _ rfl h1 hs _).mono ?_
      rintro e w1 ⟨rfl, rfl⟩
      go_wp2_with fail
      refine (need_no _ _ _ (by simp; try omega)).mono ?_
      rintro e w1 ⟨rfl, rfl⟩
      go_wp2
      exact ⟨rfl, rfl, rfl⟩
  · rw [drop_end s a (by omega)]
    have e0 : s.size = a := by omega
    have hR : headE a (tkHead []) = lost 20 (s.size : Int) := by simp [headE, tkHead, e0]
    rw [hR]
    clear hR e0
    go_enter Try.func34, Try.ntmps34
    go_wp2_with fail
    refine (takeByte_no s a _ rfl (by omega) hs _).mono ?_
    rintro e w1 ⟨rfl, rfl⟩
    go_wp2
    exact ⟨rfl, rfl, rfl⟩
end Go.Proofs.Ytdmdnhlmfailaaa
