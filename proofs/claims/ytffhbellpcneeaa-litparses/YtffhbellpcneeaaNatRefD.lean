/- What the document's answer for Parse does (a contract; nothing is claimed here). -/
import Derived.Test.YtffhbellpcneeaaNatRefC
import Derived.Test.YtffhbellpcneeaaNatAppT
namespace Go.Proofs.Ytffhbellpcneeaa
open Go.RowKit Go.Vf

theorem rdigits_is (s : ByteArray) (f : Nat) (i : Int) (hi : i = (f : Int)) (hf : f ≤ s.size) (hs : s.size ≤ 17179869184) (r : Bool) (HR : Hid (digOK (s.data.toList.drop f) false = r)) (w : World) :
    Calls Try.prog 78 #[.string s, .int .i64 i] w fun e w' => e = .returned (.bool r) ∧ w = w' := by
  subst hi
  have h := rdigits_any s f hf hs w
  rw [HR.out] at h
  exact h

theorem rp_results {tmps : Array Value} {w : World} {h : Nat} {b : Bool} {m : ByteArray} {e : Int} (t2 : tmps[2]?.getD undef = .pointer (some ⟨h, 0, none⟩)) (t3 : tmps[3]?.getD undef = .int .i64 e) (c0 : w.cell? ⟨h, 0, none⟩ = some (.bool b)) (c1 : w.cell? ⟨h, 1, none⟩ = some (.string m)) :
    (results Try.f56 tmps).run Try.prog w = .ok (.tuple #[numV b m, .int .i64 e]) w := by
  simp [results, Try.results56, go_sem, t2, t3, c0, c1]

theorem digOK_true (D : List UInt8) : digOK D true = (digOK D false && !(D == [48])) := by
  unfold digOK
  cases D with
  | nil => rfl
  | cons x r =>
    by_cases hx : x = 48
    · subst hx
      cases r with
      | nil => decide
      | cons y t => simp
    · have e : (x == 48) = false := by simpa using hx
      simp [e]
theorem tval_ge {l : List UInt8} (hd : ∀ x ∈ l, isDig x = true) (h : l.getLast? ≠ some 48) (h0 : l ≠ []) : 10 ^ (l.length - 1) ≤ tval l := by
  induction l with
  | nil => exact absurd rfl h0
  | cons x r ih =>
    rw [tval]
    by_cases hr : r = []
    · subst hr
      have := tval_pos hd h (by simp)
      rw [tval] at this
      simp [tval] at this ⊢
      omega
    · have h2 : r.getLast? ≠ some 48 := by
        intro h3
        apply h
        rw [List.getLast?_cons, h3]
        rfl
      have := ih (fun y hy => hd y (by simp [hy])) h2 hr
      have hl : 0 < r.length := List.length_pos_iff.2 hr
      have e : (x :: r).length - 1 = (r.length - 1) + 1 := by simp; omega
      rw [e, Nat.pow_succ]
      omega
theorem long_digits {D : List UInt8} {b : Bool} (h : digOK D b = true) (hl : 620 < D.length) : ¬ (lowD (dval D)).length ≤ 255 := by
  unfold digOK at h
  simp only [Bool.and_eq_true, Bool.not_eq_true', List.all_eq_true] at h
  obtain ⟨⟨hne, hhd⟩, hdig⟩ := h
  have h48 : D.head? ≠ some 48 := by
    intro h1
    rw [h1] at hhd
    simp at hhd
    omega
  have h1 := tval_ge (l := D.reverse) (fun x hx => hdig x (by simpa using hx)) (by rw [List.getLast?_reverse]; exact h48) (by simpa using hne)
  rw [List.length_reverse] at h1
  obtain ⟨n, hn⟩ : ∃ n, n = 20 := ⟨_, rfl⟩
  have h2 : ((10 : Nat) ^ 31) ^ n ≤ 10 ^ (D.length - 1) := by
    rw [← Nat.pow_mul]
    exact Nat.pow_le_pow_right (by decide) (by omega)
  have h3 : (2 ^ 102) ^ n ≤ ((10 : Nat) ^ 31) ^ n := Nat.pow_le_pow_left (by decide) _
  have h4 : (256 : Nat) ^ 255 = (2 ^ 102) ^ n := by
    rw [hn, show (256 : Nat) = 2 ^ 8 by decide, ← Nat.pow_mul]
  rw [lowD_length_le, h4]
  exact Nat.not_lt.2 (Nat.le_trans h3 (Nat.le_trans h2 h1))

theorem parse_minus {s : ByteArray} (h0 : 0 < s.size) (h : s[0].toNat = 45) : parseB s.data.toList = true ∧ parseD s.data.toList = s.data.toList.drop 1 := by
  have e : s.data.toList = s[0] :: s.data.toList.drop 1 := (List.drop_zero (l := s.data.toList)).symm.trans (drop_at s 0 h0)
  have e2 : s[0] = 45 := UInt8.toNat_inj.1 h
  have : parseB s.data.toList = true := by
    rw [e, e2]
    simp [parseB]
  exact ⟨this, by rw [parseD, this]; rfl⟩
theorem parse_plain {s : ByteArray} (h : ¬ (∃ h0 : 0 < s.size, s[0].toNat = 45)) : parseB s.data.toList = false ∧ parseD s.data.toList = s.data.toList := by
  have : parseB s.data.toList = false := by
    by_cases h0 : 0 < s.size
    · have e : s.data.toList = s[0] :: s.data.toList.drop 1 := (List.drop_zero (l := s.data.toList)).symm.trans (drop_at s 0 h0)
      have e2 : ((45 : UInt8) == s[0]) = false := by
        simp only [beq_eq_false_iff_ne, ne_eq]
        intro h1
        exact h ⟨h0, by rw [← h1]; rfl⟩
      rw [e]
      simp only [parseB, List.isPrefixOf, e2, Bool.false_and]
    · have : s.data.toList = [] := List.eq_nil_of_length_eq_zero (by rw [← Lib.size_eq]; omega)
      rw [this]; rfl
  exact ⟨this, by rw [parseD, this]; rfl⟩

set_option maxHeartbeats 2000000 in
theorem rparse_form (s : ByteArray) (hs : s.size ≤ 17179869184) (hok : digOK (parseD s.data.toList) (parseB s.data.toList) = false) (w : World) :
    Calls Try.prog 56 #[.string s] w fun e w' => e = .returned (.tuple #[numV false ⟨#[]⟩, .int .i64 20]) ∧ Below w.heap.size w w' := by
  have hl : s.data.toList.length = s.size := (Lib.size_eq s).symm
  have hbW := (Below.refl w.heap.size w).alloc (Nat.le_refl _) (.cells #[.bool false, .string ⟨#[]⟩] 24)
  have k0 : (w.alloc (.cells #[.bool false, .string ⟨#[]⟩] 24)).cell? ⟨w.heap.size, 0, none⟩ = some (.bool false) := by simp
  have k1 : (w.alloc (.cells #[.bool false, .string ⟨#[]⟩] 24)).cell? ⟨w.heap.size, 1, none⟩ = some (.string ⟨#[]⟩) := by simp
  by_cases h0 : s.size = 0
  · have hn : s.data.toList = [] := List.eq_nil_of_length_eq_zero (by omega)
    have HD : Hid (digOK (s.data.toList.drop 0) false = false) := by show _ = _; rw [hn]; rfl
    clear hok hn hl
    go_enter Try.func56, Try.ntmps56
    go_wp2_with fail
    refine (rdigits_is s 0 _ rfl (by omega) hs _ HD _).mono ?_
    rintro e w1 ⟨rfl, rfl⟩
    go_wp2
    refine ⟨rfl, _, rp_results (h := w.heap.size) (b := false) (m := ⟨#[]⟩) (e := 20) rfl rfl k0 k1, rfl, hbW⟩
  · have h0' : 0 < s.size := by omega
    by_cases h45 : s[0].toNat = 45
    · obtain ⟨hB, hD⟩ := parse_minus h0' h45
      rw [hB, hD, digOK_true] at hok
      by_cases hf : digOK (s.data.toList.drop 1) false = true
      · rw [hf] at hok
        have h48 : s.data.toList.drop 1 = [48] := by simpa using hok
        have hst : s.toList = [45, 48] := by
          have e : s.data.toList = s[0] :: s.data.toList.drop 1 := (List.drop_zero (l := s.data.toList)).symm.trans (drop_at s 0 h0')
          rw [ByteArray.toList_eq, e, h48, show s[0] = 45 from UInt8.toNat_inj.1 h45]
        have HF : Hid (digOK (s.data.toList.drop 1) false = true) := hf
        clear hok hf hB hD hl h48
        go_enter Try.func56, Try.ntmps56
        go_wp2_with fail
        refine (rdigits_is s 1 _ rfl (by omega) hs _ HF _).mono ?_
        rintro e w1 ⟨rfl, rfl⟩
        go_wp2
        refine ⟨rfl, _, rp_results (h := w.heap.size) (b := false) (m := ⟨#[]⟩) (e := 20) rfl rfl k0 k1, rfl, hbW⟩
      · have HF : Hid (digOK (s.data.toList.drop 1) false = false) := by show _ = _; simpa using hf
        clear hok hf hB hD hl
        go_enter Try.func56, Try.ntmps56
        go_wp2_with fail
        refine (rdigits_is s 1 _ rfl (by omega) hs _ HF _).mono ?_
        rintro e w1 ⟨rfl, rfl⟩
        go_wp2
        refine ⟨rfl, _, rp_results (h := w.heap.size) (b := false) (m := ⟨#[]⟩) (e := 20) rfl rfl k0 k1, rfl, hbW⟩
    · obtain ⟨hB, hD⟩ := parse_plain (s := s) (fun h => h45 h.2)
      rw [hB, hD] at hok
      have HF : Hid (digOK (s.data.toList.drop 0) false = false) := hok
      have h45' : ((s[0].toNat : Int) == 45) = false := by simp; omega
      clear hok hB hD hl
      go_enter Try.func56, Try.ntmps56
      go_wp2_with fail
      refine (rdigits_is s 0 _ rfl (by omega) hs _ HF _).mono ?_
      rintro e w1 ⟨rfl, rfl⟩
      go_wp2
      refine ⟨rfl, _, rp_results (h := w.heap.size) (b := false) (m := ⟨#[]⟩) (e := 20) rfl rfl k0 k1, rfl, hbW⟩

set_option maxHeartbeats 2000000 in
theorem rparse_long (s : ByteArray) (hs : s.size ≤ 17179869184) (hok : digOK (parseD s.data.toList) (parseB s.data.toList) = true) (hlong : 620 < (parseD s.data.toList).length) (w : World) :
    Calls Try.prog 56 #[.string s] w fun e w' => e = .returned (.tuple #[numV false ⟨#[]⟩, .int .i64 21]) ∧ Below w.heap.size w w' := by
  have hl : s.data.toList.length = s.size := (Lib.size_eq s).symm
  have hbW := (Below.refl w.heap.size w).alloc (Nat.le_refl _) (.cells #[.bool false, .string ⟨#[]⟩] 24)
  have k0 : (w.alloc (.cells #[.bool false, .string ⟨#[]⟩] 24)).cell? ⟨w.heap.size, 0, none⟩ = some (.bool false) := by simp
  have k1 : (w.alloc (.cells #[.bool false, .string ⟨#[]⟩] 24)).cell? ⟨w.heap.size, 1, none⟩ = some (.string ⟨#[]⟩) := by simp
  by_cases hm : ∃ h0 : 0 < s.size, s[0].toNat = 45
  · obtain ⟨h0', h45⟩ := hm
    obtain ⟨hB, hD⟩ := parse_minus h0' h45
    rw [hB, hD, digOK_true] at hok
    rw [hD, List.length_drop, hl] at hlong
    have HF : Hid (digOK (s.data.toList.drop 1) false = true) := by show _ = _; rw [Bool.and_eq_true] at hok; exact hok.1
    have hst : (s.toList == [45, 48]) = false := by
      rw [Bool.eq_false_iff]
      intro h
      have : s.toList = [45, 48] := by simpa using h
      have := congrArg List.length this
      rw [ByteArray.toList_eq, hl] at this
      simp at this
      omega
    clear hok hB hD hl
    go_enter Try.func56, Try.ntmps56
    go_wp2_with fail
    refine (rdigits_is s 1 _ rfl (by omega) hs _ HF _).mono ?_
    rintro e w1 ⟨rfl, rfl⟩
    go_wp2
    refine ⟨rfl, _, rp_results (h := w.heap.size) (b := false) (m := ⟨#[]⟩) (e := 21) rfl rfl k0 k1, rfl, hbW⟩
  · obtain ⟨hB, hD⟩ := parse_plain hm
    rw [hB, hD] at hok
    rw [hD, hl] at hlong
    have h0' : 0 < s.size := by omega
    have h45 : ¬ s[0].toNat = 45 := fun h => hm ⟨h0', h⟩
    have HF : Hid (digOK (s.data.toList.drop 0) false = true) := hok
    have h45' : ((s[0].toNat : Int) == 45) = false := by simp; omega
    have hst : (s.toList == [45, 48]) = false := by
      rw [Bool.eq_false_iff]
      intro h
      have : s.toList = [45, 48] := by simpa using h
      have := congrArg List.length this
      rw [ByteArray.toList_eq, hl] at this
      simp at this
      omega
    clear hok hB hD hl hm
    go_enter Try.func56, Try.ntmps56
    go_wp2_with fail
    refine (rdigits_is s 0 _ rfl (by omega) hs _ HF _).mono ?_
    rintro e w1 ⟨rfl, rfl⟩
    go_wp2
    refine ⟨rfl, _, rp_results (h := w.heap.size) (b := false) (m := ⟨#[]⟩) (e := 21) rfl rfl k0 k1, rfl, hbW⟩
end Go.Proofs.Ytffhbellpcneeaa
