/- Contracts and lemmas (nothing is claimed here). -/
import Derived.Test.YtcbjnifoojjipaaGreatDoorJ27
import Derived.Test.YtcbjnifoojjipaaGreatDoorJ11
import Derived.Test.YtcbjnifoojjipaaGreatDoorJ10
namespace Go.Proofs.YtcbjnifoojjipaaGreatDoor
open Go.RowKit Go.Vf
set_option maxHeartbeats 2000000 in
theorem rdigits_any (s : ByteArray) (f : Nat) (hf : f ≤ s.size) (hs : s.size ≤ 17179869184) (w : World) :
  Calls Tryz.prog 117 #[.string s, .int .i64 (f : Int)] w fun e w' => e = .returned (.bool (digOK (s.data.toList.drop f) false)) ∧ w = w' := by
 have hl : s.data.toList.length = s.size := (Lib.size_eq s).symm
 have hdl : (s.data.toList.drop f).length = s.size - f := by rw [List.length_drop, hl]
 by_cases h0 : f < s.size
 ·
  have hsf : ((s.size : Int) == (f : Int)) = false := by simp; omega
  obtain ⟨r, hr⟩ : ∃ r, s.data.toList.drop f = s[f] :: r := ⟨_, drop_at s f h0⟩
  have hhead : (s.data.toList.drop f).head? = some s[f] := by rw [hr]; rfl
  have hemp : (s.data.toList.drop f).isEmpty = false := by rw [hr]; rfl
  have hbyte : ∀ x : UInt8, x = 48 ↔ x.toNat = 48 := fun x => ⟨fun h => by rw [h]; rfl, fun h => UInt8.toNat_inj.1 h⟩
  clear hr
  by_cases h48 : s[f].toNat = 48 ∧ f + 1 < s.size
  ·
   have hR : digOK (s.data.toList.drop f) false = false := by
    unfold digOK
    rw [hhead, hdl, (hbyte s[f]).2 h48.1]
    have : 1 < s.size - f := by omega
    simp [this]
   rw [hR]
   obtain ⟨h48, hor⟩ := h48
   clear hR hhead hemp hbyte hl hdl
   go_enter Tryz.func117, Tryz.ntmps117
   go_wp2
   go_ret
   exact ⟨rfl, rfl⟩
  ·
   have hR : digOK (s.data.toList.drop f) false = (s.data.toList.drop f).all isDig := by
    unfold digOK
    have : ((s.data.toList.drop f).head? == some 48 && (false || decide (1 < (s.data.toList.drop f).length))) = false := by
     rw [hhead, hdl]
     by_cases hx : s[f].toNat = 48
     ·
      have h1 : ¬ f + 1 < s.size := fun h => h48 ⟨hx, h⟩
      have h2 : ¬ 1 < s.size - f := by omega
      simp [h2]
     ·
      have : s[f] ≠ 48 := fun h => hx ((hbyte _).1 h)
      simp [this]
    rw [this, hemp]
    simp
   rw [hR]
   clear hR hhead hemp
   by_cases hx : s[f].toNat = 48
   ·
    have h1 : ¬ f + 1 < s.size := fun h => h48 ⟨hx, h⟩
    clear h48 hbyte
    go_enter Tryz.func117, Tryz.ntmps117
    go_wp2
    go_loopw [5] (fun i wr => ∃ k : Nat, f ≤ k ∧ k ≤ s.size ∧ i = .int .i64 k ∧ Hid (∀ x ∈ (s.data.toList.drop f).take (k - f), isDig x = true) ∧ w = wr) (fun i _ => s.size - (intOf i).toNat)
    case atStart => exact ⟨f, Nat.le_refl _, hf, rfl, by simp [Hid], rfl⟩
    case round =>
     obtain ⟨k, hfk, hk, rfl, HD, rfl⟩ := hrel
     by_cases hlt : k < s.size
     ·
      have hmem : s[k] ∈ s.data.toList.drop f := by
       have : (s.data.toList.drop f)[k - f]'(by rw [hdl]; omega) = s[k] := by
        rw [List.getElem_drop]
        show s.data.toList[f + (k - f)]'(by omega) = s.data.toList[k]'(by omega)
        congr 1
        omega
       rw [← this]
       exact List.getElem_mem _
      by_cases hlo : s[k].toNat < 48
      ·
       have hA : ((s.data.toList.drop f).all isDig) = false := by
        rw [List.all_eq_false]
        exact ⟨_, hmem, by simp [isDig]; omega⟩
       clear HD hmem
       go_wp2
       all_goals go_ret
       all_goals (first | exact ⟨rfl, rfl⟩ | exact ⟨congrArg (fun b => Ending.returned (Value.bool b)) hA.symm, rfl⟩)
      ·
       by_cases hhi : 57 < s[k].toNat
       ·
        have hA : ((s.data.toList.drop f).all isDig) = false := by
         rw [List.all_eq_false]
         exact ⟨_, hmem, by simp [isDig]; omega⟩
        clear HD hmem
        go_wp2
        all_goals go_ret
        all_goals (first | exact ⟨rfl, rfl⟩ | exact ⟨congrArg (fun b => Ending.returned (Value.bool b)) hA.symm, rfl⟩)
       ·
        have HD2 : Hid (∀ x ∈ (s.data.toList.drop f).take (k + 1 - f), isDig x = true) := by
         have e1 : k + 1 - f = (k - f) + 1 := by omega
         rw [e1, List.take_succ_eq_append_getElem (by rw [hdl]; omega)]
         intro x hx
         rcases List.mem_append.1 hx with hx | hx
         ·
          exact HD.out x hx
         ·
          rw [List.mem_singleton.1 hx, List.getElem_drop]
          have e2 : s.data.toList[f + (k - f)]'(by omega) = s[k] := by
           show s.data.toList[f + (k - f)]'(by omega) = s.data.toList[k]'(by omega)
           congr 1
           omega
          rw [e2]
          simp [isDig]; omega
        clear HD hmem
        go_wp2
        go_roundw
        case rel => exact ⟨k + 1, by omega, by omega, by go_num, HD2, trivial⟩
        case measure => simp [intOf]; omega
     ·
      have hA : ((s.data.toList.drop f).all isDig) = true := by
       rw [List.all_eq_true]
       have := HD.out
       rwa [List.take_of_length_le (by rw [hdl]; omega)] at this
      clear HD
      go_wp2
      go_ret
      (first | exact ⟨rfl, rfl⟩ | exact ⟨congrArg (fun b => Ending.returned (Value.bool b)) hA.symm, rfl⟩)
   ·
    have hx2 : ((s[f].toNat : Int) == 48) = false := by simp; omega
    clear h48 hbyte
    go_enter Tryz.func117, Tryz.ntmps117
    go_wp2
    go_loopw [5] (fun i wr => ∃ k : Nat, f ≤ k ∧ k ≤ s.size ∧ i = .int .i64 k ∧ Hid (∀ x ∈ (s.data.toList.drop f).take (k - f), isDig x = true) ∧ w = wr) (fun i _ => s.size - (intOf i).toNat)
    case atStart => exact ⟨f, Nat.le_refl _, hf, rfl, by simp [Hid], rfl⟩
    case round =>
     obtain ⟨k, hfk, hk, rfl, HD, rfl⟩ := hrel
     by_cases hlt : k < s.size
     ·
      have hmem : s[k] ∈ s.data.toList.drop f := by
       have : (s.data.toList.drop f)[k - f]'(by rw [hdl]; omega) = s[k] := by
        rw [List.getElem_drop]
        show s.data.toList[f + (k - f)]'(by omega) = s.data.toList[k]'(by omega)
        congr 1
        omega
       rw [← this]
       exact List.getElem_mem _
      by_cases hlo : s[k].toNat < 48
      ·
       have hA : ((s.data.toList.drop f).all isDig) = false := by
        rw [List.all_eq_false]
        exact ⟨_, hmem, by simp [isDig]; omega⟩
       clear HD hmem
       go_wp2
       all_goals go_ret
       all_goals (first | exact ⟨rfl, rfl⟩ | exact ⟨congrArg (fun b => Ending.returned (Value.bool b)) hA.symm, rfl⟩)
      ·
       by_cases hhi : 57 < s[k].toNat
       ·
        have hA : ((s.data.toList.drop f).all isDig) = false := by
         rw [List.all_eq_false]
         exact ⟨_, hmem, by simp [isDig]; omega⟩
        clear HD hmem
        go_wp2
        all_goals go_ret
        all_goals (first | exact ⟨rfl, rfl⟩ | exact ⟨congrArg (fun b => Ending.returned (Value.bool b)) hA.symm, rfl⟩)
       ·
        have HD2 : Hid (∀ x ∈ (s.data.toList.drop f).take (k + 1 - f), isDig x = true) := by
         have e1 : k + 1 - f = (k - f) + 1 := by omega
         rw [e1, List.take_succ_eq_append_getElem (by rw [hdl]; omega)]
         intro x hx
         rcases List.mem_append.1 hx with hx | hx
         ·
          exact HD.out x hx
         ·
          rw [List.mem_singleton.1 hx, List.getElem_drop]
          have e2 : s.data.toList[f + (k - f)]'(by omega) = s[k] := by
           show s.data.toList[f + (k - f)]'(by omega) = s.data.toList[k]'(by omega)
           congr 1
           omega
          rw [e2]
          simp [isDig]; omega
        clear HD hmem
        go_wp2
        go_roundw
        case rel => exact ⟨k + 1, by omega, by omega, by go_num, HD2, trivial⟩
        case measure => simp [intOf]; omega
     ·
      have hA : ((s.data.toList.drop f).all isDig) = true := by
       rw [List.all_eq_true]
       have := HD.out
       rwa [List.take_of_length_le (by rw [hdl]; omega)] at this
      clear HD
      go_wp2
      go_ret
      (first | exact ⟨rfl, rfl⟩ | exact ⟨congrArg (fun b => Ending.returned (Value.bool b)) hA.symm, rfl⟩)
 ·
  have hn : s.data.toList.drop f = [] := List.drop_of_length_le (by omega)
  rw [hn]
  have hfe : (f : Int) = (s.size : Int) := by omega
  clear hn hl hdl
  rw [hfe]
  go_enter Tryz.func117, Tryz.ntmps117
  go_wp2
  go_ret
  exact ⟨rfl, rfl⟩
theorem rdigits_is (s : ByteArray) (f : Nat) (i : Int) (hi : i = (f : Int)) (hf : f ≤ s.size) (hs : s.size ≤ 17179869184) (r : Bool) (HR : Hid (digOK (s.data.toList.drop f) false = r)) (w : World) :
    Calls Tryz.prog 117 #[.string s, .int .i64 i] w fun e w' => e = .returned (.bool r) ∧ w = w' := by
  subst hi
  have h := rdigits_any s f hf hs w
  rw [HR.out] at h
  exact h
theorem rp_results {tmps : Array Value} {w : World} {h : Nat} {b : Bool} {m : ByteArray} {e : Int} (t2 : tmps[2]?.getD undef = .pointer (some ⟨h, 0, none⟩)) (t3 : tmps[3]?.getD undef = .int .i64 e) (c0 : w.cell? ⟨h, 0, none⟩ = some (.bool b)) (c1 : w.cell? ⟨h, 1, none⟩ = some (.string m)) :
    (results Tryz.f95 tmps).run Tryz.prog w = .ok (.tuple #[numV b m, .int .i64 e]) w := by
  simp [results, Tryz.results95, go_sem, t2, t3, c0, c1]
theorem digOK_true (D : List UInt8) : digOK D true = (digOK D false && !(D == [48])) := by
  unfold digOK
  cases D with
  | nil => rfl
  | cons x r =>
    by_cases hx : x = 48
    · subst hx
      cases r with
      | nil => decide
      | cons y t => simp
    · have e : (x == 48) = false := by simpa using hx
      simp [e]
theorem tval_ge {l : List UInt8} (hd : ∀ x ∈ l, isDig x = true) (h : l.getLast? ≠ some 48) (h0 : l ≠ []) : 10 ^ (l.length - 1) ≤ tval l := by
  induction l with
  | nil => exact absurd rfl h0
  | cons x r ih =>
    rw [tval]
    by_cases hr : r = []
    · subst hr
      have := tval_pos hd h (by simp)
      rw [tval] at this
      simp [tval] at this ⊢
      omega
    · have h2 : r.getLast? ≠ some 48 := by
        intro h3
        apply h
        rw [List.getLast?_cons, h3]
        rfl
      have := ih (fun y hy => hd y (by simp [hy])) h2 hr
      have hl : 0 < r.length := List.length_pos_iff.2 hr
      have e : (x :: r).length - 1 = (r.length - 1) + 1 := by simp; omega
      rw [e, Nat.pow_succ]
      omega
theorem long_digits {D : List UInt8} {b : Bool} (h : digOK D b = true) (hl : 620 < D.length) : ¬ (lowD (dval D)).length ≤ 255 := by
  unfold digOK at h
  simp only [Bool.and_eq_true, Bool.not_eq_true', List.all_eq_true] at h
  obtain ⟨⟨hne, hhd⟩, hdig⟩ := h
  have h48 : D.head? ≠ some 48 := by
    intro h1
    rw [h1] at hhd
    simp at hhd
    omega
  have h1 := tval_ge (l := D.reverse) (fun x hx => hdig x (by simpa using hx)) (by rw [List.getLast?_reverse]; exact h48) (by simpa using hne)
  rw [List.length_reverse] at h1
  obtain ⟨n, hn⟩ : ∃ n, n = 20 := ⟨_, rfl⟩
  have h2 : ((10 : Nat) ^ 31) ^ n ≤ 10 ^ (D.length - 1) := by
    rw [← Nat.pow_mul]
    exact Nat.pow_le_pow_right (by decide) (by omega)
  have h3 : (2 ^ 102) ^ n ≤ ((10 : Nat) ^ 31) ^ n := Nat.pow_le_pow_left (by decide) _
  have h4 : (256 : Nat) ^ 255 = (2 ^ 102) ^ n := by
    rw [hn, show (256 : Nat) = 2 ^ 8 by decide, ← Nat.pow_mul]
  rw [lowD_length_le, h4]
  exact Nat.not_lt.2 (Nat.le_trans h3 (Nat.le_trans h2 h1))
theorem parse_minus {s : ByteArray} (h0 : 0 < s.size) (h : s[0].toNat = 45) : parseB s.data.toList = true ∧ parseD s.data.toList = s.data.toList.drop 1 := by
  have e : s.data.toList = s[0] :: s.data.toList.drop 1 := (List.drop_zero (l := s.data.toList)).symm.trans (drop_at s 0 h0)
  have e2 : s[0] = 45 := UInt8.toNat_inj.1 h
  have : parseB s.data.toList = true := by
    rw [e, e2]
    simp [parseB]
  exact ⟨this, by rw [parseD, this]; rfl⟩
theorem parse_plain {s : ByteArray} (h : ¬ (∃ h0 : 0 < s.size, s[0].toNat = 45)) : parseB s.data.toList = false ∧ parseD s.data.toList = s.data.toList := by
  have : parseB s.data.toList = false := by
    by_cases h0 : 0 < s.size
    · have e : s.data.toList = s[0] :: s.data.toList.drop 1 := (List.drop_zero (l := s.data.toList)).symm.trans (drop_at s 0 h0)
      have e2 : ((45 : UInt8) == s[0]) = false := by
        simp only [beq_eq_false_iff_ne, ne_eq]
        intro h1
        exact h ⟨h0, by rw [← h1]; rfl⟩
      rw [e]
      simp only [parseB, List.isPrefixOf, e2, Bool.false_and]
    · have : s.data.toList = [] := List.eq_nil_of_length_eq_zero (by rw [← Lib.size_eq]; omega)
      rw [this]; rfl
  exact ⟨this, by rw [parseD, this]; rfl⟩
set_option maxHeartbeats 2000000 in
theorem rparse_form (s : ByteArray) (hs : s.size ≤ 17179869184) (hok : digOK (parseD s.data.toList) (parseB s.data.toList) = false) (w : World) :
    Calls Tryz.prog 95 #[.string s] w fun e w' => e = .returned (.tuple #[numV false ⟨#[]⟩, .int .i64 20]) ∧ Below w.heap.size w w' := by
  have hl : s.data.toList.length = s.size := (Lib.size_eq s).symm
  have hbW := (Below.refl w.heap.size w).alloc (Nat.le_refl _) (.cells #[.bool false, .string ⟨#[]⟩] 44)
  have k0 : (w.alloc (.cells #[.bool false, .string ⟨#[]⟩] 44)).cell? ⟨w.heap.size, 0, none⟩ = some (.bool false) := by simp
  have k1 : (w.alloc (.cells #[.bool false, .string ⟨#[]⟩] 44)).cell? ⟨w.heap.size, 1, none⟩ = some (.string ⟨#[]⟩) := by simp
  by_cases h0 : s.size = 0
  · have hn : s.data.toList = [] := List.eq_nil_of_length_eq_zero (by omega)
    have HD : Hid (digOK (s.data.toList.drop 0) false = false) := by show _ = _; rw [hn]; rfl
    clear hok hn hl
    go_enter Tryz.func95, Tryz.ntmps95
    go_wp2_with fail
    refine (rdigits_is s 0 _ rfl (by omega) hs _ HD _).mono ?_
    rintro e w1 ⟨rfl, rfl⟩
    go_wp2
    refine ⟨rfl, _, rp_results (h := w.heap.size) (b := false) (m := ⟨#[]⟩) (e := 20) rfl rfl k0 k1, rfl, hbW⟩
  · have h0' : 0 < s.size := by omega
    by_cases h45 : s[0].toNat = 45
    · obtain ⟨hB, hD⟩ := parse_minus h0' h45
      rw [hB, hD, digOK_true] at hok
      by_cases hf : digOK (s.data.toList.drop 1) false = true
      · rw [hf] at hok
        have h48 : s.data.toList.drop 1 = [48] := by simpa using hok
        have hst : s.toList = [45, 48] := by
          have e : s.data.toList = s[0] :: s.data.toList.drop 1 := (List.drop_zero (l := s.data.toList)).symm.trans (drop_at s 0 h0')
          rw [ByteArray.toList_eq, e, h48, show s[0] = 45 from UInt8.toNat_inj.1 h45]
        have HF : Hid (digOK (s.data.toList.drop 1) false = true) := hf
        clear hok hf hB hD hl h48
        go_enter Tryz.func95, Tryz.ntmps95
        go_wp2_with fail
        refine (rdigits_is s 1 _ rfl (by omega) hs _ HF _).mono ?_
        rintro e w1 ⟨rfl, rfl⟩
        go_wp2
        refine ⟨rfl, _, rp_results (h := w.heap.size) (b := false) (m := ⟨#[]⟩) (e := 20) rfl rfl k0 k1, rfl, hbW⟩
      · have HF : Hid (digOK (s.data.toList.drop 1) false = false) := by show _ = _; simpa using hf
        clear hok hf hB hD hl
        go_enter Tryz.func95, Tryz.ntmps95
        go_wp2_with fail
        refine (rdigits_is s 1 _ rfl (by omega) hs _ HF _).mono ?_
        rintro e w1 ⟨rfl, rfl⟩
        go_wp2
        refine ⟨rfl, _, rp_results (h := w.heap.size) (b := false) (m := ⟨#[]⟩) (e := 20) rfl rfl k0 k1, rfl, hbW⟩
    · obtain ⟨hB, hD⟩ := parse_plain (s := s) (fun h => h45 h.2)
      rw [hB, hD] at hok
      have HF : Hid (digOK (s.data.toList.drop 0) false = false) := hok
      have h45' : ((s[0].toNat : Int) == 45) = false := by simp; omega
      clear hok hB hD hl
      go_enter Tryz.func95, Tryz.ntmps95
      go_wp2_with fail
      refine (rdigits_is s 0 _ rfl (by omega) hs _ HF _).mono ?_
      rintro e w1 ⟨rfl, rfl⟩
      go_wp2
      refine ⟨rfl, _, rp_results (h := w.heap.size) (b := false) (m := ⟨#[]⟩) (e := 20) rfl rfl k0 k1, rfl, hbW⟩
set_option maxHeartbeats 2000000 in
theorem rparse_long (s : ByteArray) (hs : s.size ≤ 17179869184) (hok : digOK (parseD s.data.toList) (parseB s.data.toList) = true) (hlong : 620 < (parseD s.data.toList).length) (w : World) :
    Calls Tryz.prog 95 #[.string s] w fun e w' => e = .returned (.tuple #[numV false ⟨#[]⟩, .int .i64 21]) ∧ Below w.heap.size w w' := by
  have hl : s.data.toList.length = s.size := (Lib.size_eq s).symm
  have hbW := (Below.refl w.heap.size w).alloc (Nat.le_refl _) (.cells #[.bool false, .string ⟨#[]⟩] 44)
  have k0 : (w.alloc (.cells #[.bool false, .string ⟨#[]⟩] 44)).cell? ⟨w.heap.size, 0, none⟩ = some (.bool false) := by simp
  have k1 : (w.alloc (.cells #[.bool false, .string ⟨#[]⟩] 44)).cell? ⟨w.heap.size, 1, none⟩ = some (.string ⟨#[]⟩) := by simp
  by_cases hm : ∃ h0 : 0 < s.size, s[0].toNat = 45
  · obtain ⟨h0', h45⟩ := hm
    obtain ⟨hB, hD⟩ := parse_minus h0' h45
    rw [hB, hD, digOK_true] at hok
    rw [hD, List.length_drop, hl] at hlong
    have HF : Hid (digOK (s.data.toList.drop 1) false = true) := by show _ = _; rw [Bool.and_eq_true] at hok; exact hok.1
    have hst : (s.toList == [45, 48]) = false := by
      rw [Bool.eq_false_iff]
      intro h
      have : s.toList = [45, 48] := by simpa using h
      have := congrArg List.length this
      rw [ByteArray.toList_eq, hl] at this
      simp at this
      omega
    clear hok hB hD hl
    go_enter Tryz.func95, Tryz.ntmps95
    go_wp2_with fail
    refine (rdigits_is s 1 _ rfl (by omega) hs _ HF _).mono ?_
    rintro e w1 ⟨rfl, rfl⟩
    go_wp2
    refine ⟨rfl, _, rp_results (h := w.heap.size) (b := false) (m := ⟨#[]⟩) (e := 21) rfl rfl k0 k1, rfl, hbW⟩
  · obtain ⟨hB, hD⟩ := parse_plain hm
    rw [hB, hD] at hok
    rw [hD, hl] at hlong
    have h0' : 0 < s.size := by omega
    have h45 : ¬ s[0].toNat = 45 := fun h => hm ⟨h0', h⟩
    have HF : Hid (digOK (s.data.toList.drop 0) false = true) := hok
    have h45' : ((s[0].toNat : Int) == 45) = false := by simp; omega
    have hst : (s.toList == [45, 48]) = false := by
      rw [Bool.eq_false_iff]
      intro h
      have : s.toList = [45, 48] := by simpa using h
      have := congrArg List.length this
      rw [ByteArray.toList_eq, hl] at this
      simp at this
      omega
    clear hok hB hD hl hm
    go_enter Tryz.func95, Tryz.ntmps95
    go_wp2_with fail
    refine (rdigits_is s 0 _ rfl (by omega) hs _ HF _).mono ?_
    rintro e w1 ⟨rfl, rfl⟩
    go_wp2
    refine ⟨rfl, _, rp_results (h := w.heap.size) (b := false) (m := ⟨#[]⟩) (e := 21) rfl rfl k0 k1, rfl, hbW⟩
set_option maxHeartbeats 8000000 in
set_option maxRecDepth 20000 in
theorem rparse_run1 (s : ByteArray) (hs : s.size ≤ 1000) (h0 : 0 < s.size) (h45 : s[0].toNat = 45) (hst : (s.toList == [45, 48]) = false) (HF : Hid (digOK (s.data.toList.drop 1) false = true)) (HDIG : Hid (∀ x ∈ (s.data.toList.drop 1), isDig x = true)) (hdl : (s.data.toList.drop 1).length = s.size - 1) (hsl : s.size - 1 ≤ 620) (R : Value) (HR1 : Hid ((lowD (dval (s.data.toList.drop 1))).length ≤ 255 → R = .tuple #[numV true (bs (lowD (dval (s.data.toList.drop 1))).reverse), .int .i64 0])) (HR2 : Hid (¬ (lowD (dval (s.data.toList.drop 1))).length ≤ 255 → R = .tuple #[numV false ⟨#[]⟩, .int .i64 21])) (w : World) :
  Calls Tryz.prog 95 #[.string s] w fun e w' => e = .returned R ∧ Below w.heap.size w w' := by
 have hl : s.data.toList.length = s.size := (Lib.size_eq s).symm
 have hbW := (Below.refl w.heap.size w).alloc (Nat.le_refl _) (.cells #[.bool false, .string ⟨#[]⟩] 44)
 obtain ⟨W, hW⟩ : ∃ W, w.alloc (.cells #[.bool false, .string ⟨#[]⟩] 44) = W := ⟨_, rfl⟩
 have k0 : W.cell? ⟨w.heap.size, 0, none⟩ = some (.bool false) := by rw [← hW]; simp
 have k1 : W.cell? ⟨w.heap.size, 1, none⟩ = some (.string ⟨#[]⟩) := by rw [← hW]; simp
 have z0 : W.frozen? ⟨w.heap.size, 0, none⟩ = false := by rw [← hW]; simp
 have z1 : W.frozen? ⟨w.heap.size, 1, none⟩ = false := by rw [← hW]; simp
 have hWs : W.heap.size = w.heap.size + 1 := by rw [← hW]; simp
 rw [hW] at hbW
 go_enter Tryz.func95, Tryz.ntmps95
 go_wp2_with fail
 refine (rdigits_is s 1 _ rfl (by omega) (by omega) _ HF _).mono ?_
 rintro e w1 ⟨rfl, rfl⟩
 go_wp2
 try rw [hW]
 go_loopw [5, 6] (fun v i wr => ∃ p : Nat, 1 ≤ p ∧ p ≤ s.size ∧ i = .int .i64 p ∧ BOwn 5 wr (w.heap.size + 1) v (lowD (dval ((s.data.toList.drop 1).take (p - 1)))) ∧ Below (w.heap.size + 1) W wr ∧ w.heap.size + 1 ≤ wr.heap.size) (fun _ i _ => s.size - (intOf i).toNat)
 case atStart => exact ⟨1, Nat.le_refl _, by omega, rfl, by simpa [dval, tval, lowD_zero] using BOwn.nil _ _ _, Below.refl _ _, by omega⟩
 case round =>
  obtain ⟨p, hp1, hp2, rfl, hown, hbel, hsz⟩ := hrel
  obtain ⟨m, Hm⟩ : ∃ m, Hid (dval ((s.data.toList.drop 1).take (p - 1)) = m) := ⟨_, rfl⟩
  rw [Hm.out] at hown
  have hlen0 : (lowD m).length ≤ 700 := by
   have h1 := dval_lt (l := (s.data.toList.drop 1).take (p - 1)) (fun x h => HDIG.out x (List.mem_of_mem_take h))
   rw [Hm.out, List.length_take] at h1
   have h2 : (lowD m).length ≤ min (p - 1) (s.data.toList.drop 1).length := lowD_length_le.2 (Nat.lt_of_lt_of_le h1 (Nat.pow_le_pow_left (by decide) _))
   rw [hdl] at h2
   omega
  by_cases hlt : p < s.size
  ·
   have hx := HDIG.out s[p] (by
    have : (s.data.toList.drop 1)[p - 1]'(by rw [hdl]; omega) = s[p] := by
     rw [List.getElem_drop]
     show s.data.toList[1 + (p - 1)]'(by omega) = s.data.toList[p]'(by omega)
     congr 1
     omega
    rw [← this]
    exact List.getElem_mem _)
   simp [isDig] at hx
   obtain ⟨c0, hc0⟩ : ∃ c0 : Nat, (s[p].toNat : Int) - 48 = (c0 : Int) := ⟨s[p].toNat - 48, by omega⟩
   have hc9 : c0 ≤ 9 := by omega
   obtain ⟨m2, Hmc⟩ : ∃ m2, Hid (m2 = 10 * m + c0) := ⟨_, rfl⟩
   have Hm2 : Hid (dval ((s.data.toList.drop 1).take (p + 1 - 1)) = m2) := by
    show _ = _
    rw [show p + 1 - 1 = (p - 1) + 1 by omega, List.take_succ_eq_append_getElem (by rw [hdl]; omega), dval_snoc, Hm.out, Hmc.out, List.getElem_drop]
    have e9 : s[p].toNat - 48 = c0 := by omega
    rw [← e9]
    congr 3
    show s.data.toList[1 + (p - 1)]'(by omega) = s.data.toList[p]'(by omega)
    congr 1
    omega
   have hcan := lowD_last m
   have hm2l : (lowD m2).length ≤ 710 := by
    have h1 := dval_lt (l := (s.data.toList.drop 1).take (p + 1 - 1)) (fun x h => HDIG.out x (List.mem_of_mem_take h))
    rw [Hm2.out, List.length_take] at h1
    have h2 : (lowD m2).length ≤ min (p + 1 - 1) (s.data.toList.drop 1).length := lowD_length_le.2 (Nat.lt_of_lt_of_le h1 (Nat.pow_le_pow_left (by decide) _))
    rw [hdl] at h2
    omega
   clear Hm
   rcases hown.form with ⟨rfl, hnil⟩ | ⟨gb, capb, rfl, hgb1, hcb1, hcb2, hrb⟩
   ·
    have HML : Hid ([] ++ lowD c0 = lowD m2) := by
     show _ = _
     rw [List.nil_append, show c0 = m2 by have := lowD_nil.1 hnil; have := Hmc.out; omega]
    have hown0 : BOwn 5 wr (w.heap.size + 1) (.slice none 0 0) [] := BOwn.nil _ _ _
    clear hown hnil hcan
    go_wp2
    go_loopw [7, 8] (fun x i wr' => i = .int .i64 0 ∧ x = .int .i64 (c0 : Int) ∧ wr = wr') (fun _ _ _ => 0)
    case atStart => exact ⟨rfl, by go_num, rfl⟩
    case round =>
     obtain ⟨rfl, rfl, rfl⟩ := hrel
     by_cases hC0 : ¬ 0 < c0
     ·
      have e0 : ([] : List UInt8) = lowD m2 := by have := HML.out; rwa [show c0 = 0 by omega, lowD_zero, List.append_nil] at this
      rw [e0] at hown0
      go_wp2
      go_roundw
      case rel => exact ⟨p + 1, by omega, by omega, by go_num, by rw [Hm2.out]; exact hown0, hbel, hsz⟩
      case measure => simp [intOf]; omega
     ·
      have e0 : ([] : List UInt8) ++ [UInt8.ofNat c0] = lowD m2 := by
       have := HML.out
       rwa [lowD_pos (show c0 ≠ 0 by omega), show c0 / 256 = 0 by omega, lowD_zero, show c0 % 256 = c0 by omega] at this
      have HE : Hid (([] : List UInt8) ++ [UInt8.ofNat c0] = lowD m2) := e0
      have HX : Hid (((c0 : Nat) : Int) = ((UInt8.ofNat c0).toNat : Int)) := (ofNat_int (by omega)).symm
      have hlen : ([] : List UInt8).length ≤ 1099511627776 := by
       have := congrArg List.length e0
       rw [List.length_append] at this
       omega
      clear e0
      go_wp2_with (at_builtin; refine wpList_append_byte rfl (.tmp 71) (.tmp 74) 130 rfl 5 Tryz.underlying130 info5 (w.heap.size + 1) _ _ rfl hown0 (UInt8.ofNat c0) _ HX.out 1 rfl hlen hsz (w.heap.size + 1) W hbel (Nat.le_refl _) ?_; intro v' w1 hown9 hbel9 hsz9)
      go_roundw
      case rel => exact ⟨p + 1, by omega, by omega, by go_num, by rw [Hm2.out, ← HE.out]; exact hown9, hbel9, hsz9⟩
      case measure => simp [intOf]; omega
   ·
    clear hrb
    have hml := mul_low hcan (sc := 10) (c := c0) (by decide)
    have hmc := mulL_carry (sc := 10) (lowD m) c0 (by omega)
    have hqn := mulL_length 10 (lowD m) c0
    rw [lval_lowD, show m * 10 + c0 = m2 by have := Hmc.out; omega] at hml
    obtain ⟨⟨q, C⟩, hqC⟩ : ∃ z, mulL 10 c0 (lowD m) = z := ⟨_, rfl⟩
    rw [hqC] at hml hmc hqn
    have HML : Hid (q ++ lowD C = lowD m2) := hml
    clear hml
    generalize hlm : lowD m = l at hown hqC hqn hcan hlen0 ⊢
    obtain ⟨n, hln⟩ : ∃ n, l.length = n := ⟨_, rfl⟩
    rw [hln] at hown hlen0 ⊢
    go_wp2
    go_loopw [7, 8] (fun x i wr' => ∃ k c : Nat, k ≤ n ∧ i = .int .i64 k ∧ x = .int .i64 c ∧ c ≤ 10 ∧ Hid (mulL 10 c (l.drop k) = (q.drop k, C)) ∧ BOwn 5 wr' (w.heap.size + 1) (.slice (some ⟨gb, 0, none⟩) n capb) (q.take k ++ l.drop k) ∧ Below (w.heap.size + 1) W wr' ∧ w.heap.size + 1 ≤ wr'.heap.size) (fun _ i _ => n - (intOf i).toNat)
    case atStart => exact ⟨0, c0, Nat.zero_le _, rfl, by go_num, by omega, by simpa [Hid] using hqC, by simpa using hown, hbel, hsz⟩
    case round =>
     obtain ⟨k, c, hk, rfl, rfl, hcs, HQ, hown, hbel, hsz⟩ := hrel
     by_cases hlt : k < n
     ·
      obtain ⟨x, hx, hkl⟩ : ∃ x, l[k]'(by omega) = x ∧ l.drop k = x :: l.drop (k + 1) := ⟨_, rfl, List.drop_eq_getElem_cons (by omega)⟩
      have hx255 := x.toNat_lt
      have hq := HQ.out
      rw [hkl, mulL, show c + x.toNat * 10 = 10 * x.toNat + c by omega, Prod.mk.injEq, List.drop_eq_getElem_cons (show k < q.length by omega), List.cons.injEq] at hq
      obtain ⟨⟨hq1, hq2⟩, hq3⟩ := hq
      have HQ2 : Hid (mulL 10 ((10 * x.toNat + c) / 256) (l.drop (k + 1)) = (q.drop (k + 1), C)) := Prod.ext hq2 hq3
      have hmix := mix_length (a := q) (l := l) hqn k (by omega)
      have hg := mix_get hqn k (by omega) (by omega)
      rw [hx] at hg
      rcases hown.form with ⟨h0, _⟩ | ⟨g', cap', he, hbg, hcap1, hcap2, hrow⟩
      ·
       cases h0
      have he' := he
      simp only [Value.slice.injEq, Option.some.injEq, Addr.mk.injEq, and_true] at he'
      obtain ⟨rfl, -, rfl⟩ := he'
      have hcell := hrow.cell k (by omega)
      rw [hg] at hcell
      have hfr := hrow.free k (by omega)
      have hst := own_set hown k (q[k]'(by omega)) (by omega)
      rw [mix_set hqn k (by omega), ← hq1, ofNat_mod] at hst
      have hbel2 := hbel.setCell (p := ⟨gb, k, none⟩) hbg (.int .u8 (((10 * x.toNat + c) % 256 : Nat) : Int))
      clear hrow hmix hg he hq1 hq2 hq3 hkl HQ hqC hown
      go_wp2
      go_roundw
      case rel => exact ⟨k + 1, (10 * x.toNat + c) / 256, by omega, by go_num, by go_num, by omega, HQ2, hst, hbel2, by simpa using hsz⟩
      case measure => simp [intOf]; omega
     ·
      have hkn : k = n := by omega
      have e1 : q.take k ++ l.drop k = q := by rw [List.take_of_length_le (by omega), List.drop_of_length_le (by omega), List.append_nil]
      have hq := HQ.out
      rw [List.drop_of_length_le (by omega), mulL] at hq
      have hcC : c = C := (Prod.mk.injEq .. ▸ hq).2
      rw [← hcC] at HML
      rw [e1] at hown
      clear HQ hq e1 hqC hcC hmc hkn
      by_cases hC0 : ¬ 0 < c
      ·
       have e0 : q = lowD m2 := by have := HML.out; rwa [show c = 0 by omega, lowD_zero, List.append_nil] at this
       rw [e0] at hown
       go_wp2
       go_roundw
       case rel => exact ⟨p + 1, by omega, by omega, by go_num, by rw [Hm2.out]; exact hown, hbel, hsz⟩
       case measure => simp [intOf]; omega
      ·
       have e0 : q ++ [UInt8.ofNat c] = lowD m2 := by
        have := HML.out
        rwa [lowD_pos (show c ≠ 0 by omega), show c / 256 = 0 by omega, lowD_zero, show c % 256 = c by omega] at this
       have HE : Hid (q ++ [UInt8.ofNat c] = lowD m2) := e0
       have HX : Hid (((c : Nat) : Int) = ((UInt8.ofNat c).toNat : Int)) := (ofNat_int (by omega)).symm
       have hlen : q.length ≤ 1099511627776 := by
        have := congrArg List.length e0
        rw [List.length_append] at this
        omega
       clear e0
       go_wp2_with (at_builtin; refine wpList_append_byte rfl (.tmp 71) (.tmp 74) 130 rfl 5 Tryz.underlying130 info5 (w.heap.size + 1) _ _ rfl hown (UInt8.ofNat c) _ HX.out 1 rfl hlen hsz (w.heap.size + 1) W hbel (Nat.le_refl _) ?_; intro v' w1 hown9 hbel9 hsz9)
       go_roundw
       case rel => exact ⟨p + 1, by omega, by omega, by go_num, by rw [Hm2.out, ← HE.out]; exact hown9, hbel9, hsz9⟩
       case measure => simp [intOf]; omega
  ·
   have HDV : Hid (dval (s.data.toList.drop 1) = m) := by
    have := Hm.out
    rw [List.take_of_length_le (by rw [hdl]; omega)] at this
    exact this
   clear Hm
   rcases hown.form with ⟨rfl, hnil⟩ | ⟨gb, capb, rfl, hgb1, hcb1, hcb2, hrb⟩
   ·
    have hcv := run_convert_bytes_nil (P := Tryz.prog) wr 130 5 Tryz.underlying130 Tryz.underlying5 0 0 9 Tryz.underlying9
    have hl0 : (lowD m).length = 0 := by rw [hnil]; rfl
    go_wp2
    go_loopw [10, 11] (fun v i wr' => v = .slice none 0 0 ∧ i = .int .i64 (-1) ∧ wr = wr') (fun _ _ _ => 0)
    case atStart => exact ⟨rfl, by go_num, rfl⟩
    case round =>
     obtain ⟨rfl, rfl, rfl⟩ := hrel
     have hb3 := hbel
     have c0 := (hb3.cell (p := ⟨w.heap.size, 0, none⟩) (Nat.lt_succ_self _)).trans k0
     have c1 := (hb3.cell (p := ⟨w.heap.size, 1, none⟩) (Nat.lt_succ_self _)).trans k1
     have f0 := (hb3.frozen (p := ⟨w.heap.size, 0, none⟩) (Nat.lt_succ_self _)).trans z0
     have f1 := (hb3.frozen (p := ⟨w.heap.size, 1, none⟩) (Nat.lt_succ_self _)).trans z1
     go_wp2
     refine ⟨rfl, _, rp_results (h := w.heap.size) (b := true) (m := ByteArray.empty) (e := 0) rfl rfl ?_ ?_, by rw [HR1.out (by rw [HDV.out]; omega), HDV.out, hnil]; rfl, ((hbW.trans (hb3.mono (Nat.le_succ _))).setCell (p := ⟨w.heap.size, 0, none⟩) (Nat.le_refl _) _).setCell (p := ⟨w.heap.size, 1, none⟩) (Nat.le_refl _) _⟩
     ·
      rw [World.cell?_setCell_other _ _ _ _ (by simp), World.cell?_setCell_same _ _ _ (by rw [c0])]
     ·
      rw [World.cell?_setCell_same _ _ _ (by rw [World.cell?_setCell_other _ _ _ _ (by simp), c1])]
   ·
    have hgb : gb < wr.heap.size := (World.ownsRow.lt hown gb rfl).2
    by_cases hlong : 255 < (lowD m).length
    ·
     have c0 := (hbel.cell (p := ⟨w.heap.size, 0, none⟩) (Nat.lt_succ_self _)).trans k0
     have c1 := (hbel.cell (p := ⟨w.heap.size, 1, none⟩) (Nat.lt_succ_self _)).trans k1
     have f0 := (hbel.frozen (p := ⟨w.heap.size, 0, none⟩) (Nat.lt_succ_self _)).trans z0
     have f1 := (hbel.frozen (p := ⟨w.heap.size, 1, none⟩) (Nat.lt_succ_self _)).trans z1
     go_wp2
     refine ⟨rfl, _, rp_results (h := w.heap.size) (b := false) (m := ⟨#[]⟩) (e := 21) rfl rfl ?_ ?_, by rw [HR2.out (by rw [HDV.out]; omega)], ((hbW.trans (hbel.mono (Nat.le_succ _))).setCell (p := ⟨w.heap.size, 0, none⟩) (Nat.le_refl _) _).setCell (p := ⟨w.heap.size, 1, none⟩) (Nat.le_refl _) _⟩
     ·
      rw [World.cell?_setCell_other _ _ _ _ (by simp), World.cell?_setCell_same _ _ _ (by rw [c0])]
     ·
      rw [World.cell?_setCell_same _ _ _ (by rw [World.cell?_setCell_other _ _ _ _ (by simp), c1])]
    ·
     obtain ⟨V, rfl⟩ : ∃ V, V = wr := ⟨_, rfl⟩
     go_wp2
     go_loopw [10, 11] (fun v i wr' => ∃ k : Nat, k ≤ (lowD m).length ∧ i = .int .i64 (((lowD m).length : Int) - 1 - (k : Int)) ∧ BOwn 5 wr' V.heap.size v ((lowD m).reverse.take k) ∧ Below V.heap.size V wr' ∧ V.heap.size ≤ wr'.heap.size) (fun _ i _ => (intOf i + 1).toNat)
     case atStart => exact ⟨0, Nat.zero_le _, by go_num, BOwn.nil _ _ _, Below.refl _ _, Nat.le_refl _⟩
     case round =>
      obtain ⟨k, hk, rfl, hown2, hbel2, hsz2⟩ := hrel
      by_cases hlt : k < (lowD m).length
      ·
       obtain ⟨j, hj⟩ : ∃ j, j + k + 1 = (lowD m).length := ⟨(lowD m).length - 1 - k, by omega⟩
       have ej : (((lowD m).length : Int) - 1 - (k : Int)) = (j : Int) := by omega
       obtain ⟨y, hy⟩ : ∃ y, (lowD m)[j]'(by omega) = y := ⟨_, rfl⟩
       have hcell := (brow_below hrb hbel2 hgb).cell j (by omega)
       rw [hy] at hcell
       have HRV : Hid ((lowD m).reverse.take (k + 1) = ((lowD m).reverse.take k) ++ [y]) := by
        show _ = _
        rw [rev_take (lowD m) j k hj, hy]
       have hlen2 : ((lowD m).reverse.take k).length ≤ 1099511627776 := by
        rw [List.length_take, List.length_reverse]; omega
       have hjl : j < (lowD m).length := by omega
       rw [ej]
       clear ej
       go_wp2_with (at_builtin; refine wpList_append_byte rfl (.tmp 87) (.tmp 92) 130 rfl 5 Tryz.underlying130 info5 V.heap.size _ _ rfl hown2 y _ rfl 1 rfl hlen2 hsz2 V.heap.size V hbel2 (Nat.le_refl _) ?_; intro v' w3 hown3 hbel3 hsz3)
       go_roundw
       case rel => exact ⟨k + 1, by omega, by go_num, by rw [HRV.out]; exact hown3, hbel3, hsz3⟩
       case measure => simp only [intOf]; omega
      ·
       obtain rfl : k = (lowD m).length := by omega
       rw [List.take_of_length_le (by rw [List.length_reverse]; exact Nat.le_refl _)] at hown2
       have ei : (((lowD m).length : Int) - 1 - ((lowD m).length : Int)) = -1 := by omega
       rw [ei]
       have hcv := run_string_own (P := Tryz.prog) wr 130 9 5 Tryz.underlying130 Tryz.underlying5 Tryz.underlying9 _ _ _ hown2
       have hb3 := hbel.trans (hbel2.mono hsz)
       have c0 := (hb3.cell (p := ⟨w.heap.size, 0, none⟩) (Nat.lt_succ_self _)).trans k0
       have c1 := (hb3.cell (p := ⟨w.heap.size, 1, none⟩) (Nat.lt_succ_self _)).trans k1
       have f0 := (hb3.frozen (p := ⟨w.heap.size, 0, none⟩) (Nat.lt_succ_self _)).trans z0
       have f1 := (hb3.frozen (p := ⟨w.heap.size, 1, none⟩) (Nat.lt_succ_self _)).trans z1
       go_wp2
       refine ⟨rfl, _, rp_results (h := w.heap.size) (b := true) (m := bs (lowD m).reverse) (e := 0) rfl rfl ?_ ?_, by rw [HR1.out (by rw [HDV.out]; omega), HDV.out], ((hbW.trans (hb3.mono (Nat.le_succ _))).setCell (p := ⟨w.heap.size, 0, none⟩) (Nat.le_refl _) _).setCell (p := ⟨w.heap.size, 1, none⟩) (Nat.le_refl _) _⟩
       ·
        rw [World.cell?_setCell_other _ _ _ _ (by simp), World.cell?_setCell_same _ _ _ (by rw [c0])]
       ·
        rw [World.cell?_setCell_same _ _ _ (by rw [World.cell?_setCell_other _ _ _ _ (by simp), c1])]
set_option maxHeartbeats 8000000 in
set_option maxRecDepth 20000 in
theorem rparse_run0 (s : ByteArray) (hs : s.size ≤ 1000) (h0 : 0 < s.size) (h45 : ((s[0].toNat : Int) == 45) = false) (hst : (s.toList == [45, 48]) = false) (HF : Hid (digOK (s.data.toList.drop 0) false = true)) (HDIG : Hid (∀ x ∈ (s.data.toList.drop 0), isDig x = true)) (hdl : (s.data.toList.drop 0).length = s.size - 0) (hsl : s.size - 0 ≤ 620) (R : Value) (HR1 : Hid ((lowD (dval (s.data.toList.drop 0))).length ≤ 255 → R = .tuple #[numV false (bs (lowD (dval (s.data.toList.drop 0))).reverse), .int .i64 0])) (HR2 : Hid (¬ (lowD (dval (s.data.toList.drop 0))).length ≤ 255 → R = .tuple #[numV false ⟨#[]⟩, .int .i64 21])) (w : World) :
  Calls Tryz.prog 95 #[.string s] w fun e w' => e = .returned R ∧ Below w.heap.size w w' := by
 have hl : s.data.toList.length = s.size := (Lib.size_eq s).symm
 have hbW := (Below.refl w.heap.size w).alloc (Nat.le_refl _) (.cells #[.bool false, .string ⟨#[]⟩] 44)
 obtain ⟨W, hW⟩ : ∃ W, w.alloc (.cells #[.bool false, .string ⟨#[]⟩] 44) = W := ⟨_, rfl⟩
 have k0 : W.cell? ⟨w.heap.size, 0, none⟩ = some (.bool false) := by rw [← hW]; simp
 have k1 : W.cell? ⟨w.heap.size, 1, none⟩ = some (.string ⟨#[]⟩) := by rw [← hW]; simp
 have z0 : W.frozen? ⟨w.heap.size, 0, none⟩ = false := by rw [← hW]; simp
 have z1 : W.frozen? ⟨w.heap.size, 1, none⟩ = false := by rw [← hW]; simp
 have hWs : W.heap.size = w.heap.size + 1 := by rw [← hW]; simp
 rw [hW] at hbW
 go_enter Tryz.func95, Tryz.ntmps95
 go_wp2_with fail
 refine (rdigits_is s 0 _ rfl (by omega) (by omega) _ HF _).mono ?_
 rintro e w1 ⟨rfl, rfl⟩
 go_wp2
 try rw [hW]
 go_loopw [5, 6] (fun v i wr => ∃ p : Nat, 0 ≤ p ∧ p ≤ s.size ∧ i = .int .i64 p ∧ BOwn 5 wr (w.heap.size + 1) v (lowD (dval ((s.data.toList.drop 0).take (p - 0)))) ∧ Below (w.heap.size + 1) W wr ∧ w.heap.size + 1 ≤ wr.heap.size) (fun _ i _ => s.size - (intOf i).toNat)
 case atStart => exact ⟨0, Nat.le_refl _, by omega, rfl, by simpa [dval, tval, lowD_zero] using BOwn.nil _ _ _, Below.refl _ _, by omega⟩
 case round =>
  obtain ⟨p, hp1, hp2, rfl, hown, hbel, hsz⟩ := hrel
  obtain ⟨m, Hm⟩ : ∃ m, Hid (dval ((s.data.toList.drop 0).take (p - 0)) = m) := ⟨_, rfl⟩
  rw [Hm.out] at hown
  have hlen0 : (lowD m).length ≤ 700 := by
   have h1 := dval_lt (l := (s.data.toList.drop 0).take (p - 0)) (fun x h => HDIG.out x (List.mem_of_mem_take h))
   rw [Hm.out, List.length_take] at h1
   have h2 : (lowD m).length ≤ min (p - 0) (s.data.toList.drop 0).length := lowD_length_le.2 (Nat.lt_of_lt_of_le h1 (Nat.pow_le_pow_left (by decide) _))
   rw [hdl] at h2
   omega
  by_cases hlt : p < s.size
  ·
   have hx := HDIG.out s[p] (by
    have : (s.data.toList.drop 0)[p - 0]'(by rw [hdl]; omega) = s[p] := by
     rw [List.getElem_drop]
     show s.data.toList[0 + (p - 0)]'(by omega) = s.data.toList[p]'(by omega)
     congr 1
     omega
    rw [← this]
    exact List.getElem_mem _)
   simp [isDig] at hx
   obtain ⟨c0, hc0⟩ : ∃ c0 : Nat, (s[p].toNat : Int) - 48 = (c0 : Int) := ⟨s[p].toNat - 48, by omega⟩
   have hc9 : c0 ≤ 9 := by omega
   obtain ⟨m2, Hmc⟩ : ∃ m2, Hid (m2 = 10 * m + c0) := ⟨_, rfl⟩
   have Hm2 : Hid (dval ((s.data.toList.drop 0).take (p + 1 - 0)) = m2) := by
    show _ = _
    rw [show p + 1 - 0 = (p - 0) + 1 by omega, List.take_succ_eq_append_getElem (by rw [hdl]; omega), dval_snoc, Hm.out, Hmc.out, List.getElem_drop]
    have e9 : s[p].toNat - 48 = c0 := by omega
    rw [← e9]
    congr 3
    show s.data.toList[0 + (p - 0)]'(by omega) = s.data.toList[p]'(by omega)
    congr 1
    omega
   have hcan := lowD_last m
   have hm2l : (lowD m2).length ≤ 710 := by
    have h1 := dval_lt (l := (s.data.toList.drop 0).take (p + 1 - 0)) (fun x h => HDIG.out x (List.mem_of_mem_take h))
    rw [Hm2.out, List.length_take] at h1
    have h2 : (lowD m2).length ≤ min (p + 1 - 0) (s.data.toList.drop 0).length := lowD_length_le.2 (Nat.lt_of_lt_of_le h1 (Nat.pow_le_pow_left (by decide) _))
    rw [hdl] at h2
    omega
   clear Hm
   rcases hown.form with ⟨rfl, hnil⟩ | ⟨gb, capb, rfl, hgb1, hcb1, hcb2, hrb⟩
   ·
    have HML : Hid ([] ++ lowD c0 = lowD m2) := by
     show _ = _
     rw [List.nil_append, show c0 = m2 by have := lowD_nil.1 hnil; have := Hmc.out; omega]
    have hown0 : BOwn 5 wr (w.heap.size + 1) (.slice none 0 0) [] := BOwn.nil _ _ _
    clear hown hnil hcan
    go_wp2
    go_loopw [7, 8] (fun x i wr' => i = .int .i64 0 ∧ x = .int .i64 (c0 : Int) ∧ wr = wr') (fun _ _ _ => 0)
    case atStart => exact ⟨rfl, by go_num, rfl⟩
    case round =>
     obtain ⟨rfl, rfl, rfl⟩ := hrel
     by_cases hC0 : ¬ 0 < c0
     ·
      have e0 : ([] : List UInt8) = lowD m2 := by have := HML.out; rwa [show c0 = 0 by omega, lowD_zero, List.append_nil] at this
      rw [e0] at hown0
      go_wp2
      go_roundw
      case rel => exact ⟨p + 1, by omega, by omega, by go_num, by rw [Hm2.out]; exact hown0, hbel, hsz⟩
      case measure => simp [intOf]; omega
     ·
      have e0 : ([] : List UInt8) ++ [UInt8.ofNat c0] = lowD m2 := by
       have := HML.out
       rwa [lowD_pos (show c0 ≠ 0 by omega), show c0 / 256 = 0 by omega, lowD_zero, show c0 % 256 = c0 by omega] at this
      have HE : Hid (([] : List UInt8) ++ [UInt8.ofNat c0] = lowD m2) := e0
      have HX : Hid (((c0 : Nat) : Int) = ((UInt8.ofNat c0).toNat : Int)) := (ofNat_int (by omega)).symm
      have hlen : ([] : List UInt8).length ≤ 1099511627776 := by
       have := congrArg List.length e0
       rw [List.length_append] at this
       omega
      clear e0
      go_wp2_with (at_builtin; refine wpList_append_byte rfl (.tmp 71) (.tmp 74) 130 rfl 5 Tryz.underlying130 info5 (w.heap.size + 1) _ _ rfl hown0 (UInt8.ofNat c0) _ HX.out 1 rfl hlen hsz (w.heap.size + 1) W hbel (Nat.le_refl _) ?_; intro v' w1 hown9 hbel9 hsz9)
      go_roundw
      case rel => exact ⟨p + 1, by omega, by omega, by go_num, by rw [Hm2.out, ← HE.out]; exact hown9, hbel9, hsz9⟩
      case measure => simp [intOf]; omega
   ·
    clear hrb
    have hml := mul_low hcan (sc := 10) (c := c0) (by decide)
    have hmc := mulL_carry (sc := 10) (lowD m) c0 (by omega)
    have hqn := mulL_length 10 (lowD m) c0
    rw [lval_lowD, show m * 10 + c0 = m2 by have := Hmc.out; omega] at hml
    obtain ⟨⟨q, C⟩, hqC⟩ : ∃ z, mulL 10 c0 (lowD m) = z := ⟨_, rfl⟩
    rw [hqC] at hml hmc hqn
    have HML : Hid (q ++ lowD C = lowD m2) := hml
    clear hml
    generalize hlm : lowD m = l at hown hqC hqn hcan hlen0 ⊢
    obtain ⟨n, hln⟩ : ∃ n, l.length = n := ⟨_, rfl⟩
    rw [hln] at hown hlen0 ⊢
    go_wp2
    go_loopw [7, 8] (fun x i wr' => ∃ k c : Nat, k ≤ n ∧ i = .int .i64 k ∧ x = .int .i64 c ∧ c ≤ 10 ∧ Hid (mulL 10 c (l.drop k) = (q.drop k, C)) ∧ BOwn 5 wr' (w.heap.size + 1) (.slice (some ⟨gb, 0, none⟩) n capb) (q.take k ++ l.drop k) ∧ Below (w.heap.size + 1) W wr' ∧ w.heap.size + 1 ≤ wr'.heap.size) (fun _ i _ => n - (intOf i).toNat)
    case atStart => exact ⟨0, c0, Nat.zero_le _, rfl, by go_num, by omega, by simpa [Hid] using hqC, by simpa using hown, hbel, hsz⟩
    case round =>
     obtain ⟨k, c, hk, rfl, rfl, hcs, HQ, hown, hbel, hsz⟩ := hrel
     by_cases hlt : k < n
     ·
      obtain ⟨x, hx, hkl⟩ : ∃ x, l[k]'(by omega) = x ∧ l.drop k = x :: l.drop (k + 1) := ⟨_, rfl, List.drop_eq_getElem_cons (by omega)⟩
      have hx255 := x.toNat_lt
      have hq := HQ.out
      rw [hkl, mulL, show c + x.toNat * 10 = 10 * x.toNat + c by omega, Prod.mk.injEq, List.drop_eq_getElem_cons (show k < q.length by omega), List.cons.injEq] at hq
      obtain ⟨⟨hq1, hq2⟩, hq3⟩ := hq
      have HQ2 : Hid (mulL 10 ((10 * x.toNat + c) / 256) (l.drop (k + 1)) = (q.drop (k + 1), C)) := Prod.ext hq2 hq3
      have hmix := mix_length (a := q) (l := l) hqn k (by omega)
      have hg := mix_get hqn k (by omega) (by omega)
      rw [hx] at hg
      rcases hown.form with ⟨h0, _⟩ | ⟨g', cap', he, hbg, hcap1, hcap2, hrow⟩
      ·
       cases h0
      have he' := he
      simp only [Value.slice.injEq, Option.some.injEq, Addr.mk.injEq, and_true] at he'
      obtain ⟨rfl, -, rfl⟩ := he'
      have hcell := hrow.cell k (by omega)
      rw [hg] at hcell
      have hfr := hrow.free k (by omega)
      have hst := own_set hown k (q[k]'(by omega)) (by omega)
      rw [mix_set hqn k (by omega), ← hq1, ofNat_mod] at hst
      have hbel2 := hbel.setCell (p := ⟨gb, k, none⟩) hbg (.int .u8 (((10 * x.toNat + c) % 256 : Nat) : Int))
      clear hrow hmix hg he hq1 hq2 hq3 hkl HQ hqC hown
      go_wp2
      go_roundw
      case rel => exact ⟨k + 1, (10 * x.toNat + c) / 256, by omega, by go_num, by go_num, by omega, HQ2, hst, hbel2, by simpa using hsz⟩
      case measure => simp [intOf]; omega
     ·
      have hkn : k = n := by omega
      have e1 : q.take k ++ l.drop k = q := by rw [List.take_of_length_le (by omega), List.drop_of_length_le (by omega), List.append_nil]
      have hq := HQ.out
      rw [List.drop_of_length_le (by omega), mulL] at hq
      have hcC : c = C := (Prod.mk.injEq .. ▸ hq).2
      rw [← hcC] at HML
      rw [e1] at hown
      clear HQ hq e1 hqC hcC hmc hkn
      by_cases hC0 : ¬ 0 < c
      ·
       have e0 : q = lowD m2 := by have := HML.out; rwa [show c = 0 by omega, lowD_zero, List.append_nil] at this
       rw [e0] at hown
       go_wp2
       go_roundw
       case rel => exact ⟨p + 1, by omega, by omega, by go_num, by rw [Hm2.out]; exact hown, hbel, hsz⟩
       case measure => simp [intOf]; omega
      ·
       have e0 : q ++ [UInt8.ofNat c] = lowD m2 := by
        have := HML.out
        rwa [lowD_pos (show c ≠ 0 by omega), show c / 256 = 0 by omega, lowD_zero, show c % 256 = c by omega] at this
       have HE : Hid (q ++ [UInt8.ofNat c] = lowD m2) := e0
       have HX : Hid (((c : Nat) : Int) = ((UInt8.ofNat c).toNat : Int)) := (ofNat_int (by omega)).symm
       have hlen : q.length ≤ 1099511627776 := by
        have := congrArg List.length e0
        rw [List.length_append] at this
        omega
       clear e0
       go_wp2_with (at_builtin; refine wpList_append_byte rfl (.tmp 71) (.tmp 74) 130 rfl 5 Tryz.underlying130 info5 (w.heap.size + 1) _ _ rfl hown (UInt8.ofNat c) _ HX.out 1 rfl hlen hsz (w.heap.size + 1) W hbel (Nat.le_refl _) ?_; intro v' w1 hown9 hbel9 hsz9)
       go_roundw
       case rel => exact ⟨p + 1, by omega, by omega, by go_num, by rw [Hm2.out, ← HE.out]; exact hown9, hbel9, hsz9⟩
       case measure => simp [intOf]; omega
  ·
   have HDV : Hid (dval (s.data.toList.drop 0) = m) := by
    have := Hm.out
    rw [List.take_of_length_le (by rw [hdl]; omega)] at this
    exact this
   clear Hm
   rcases hown.form with ⟨rfl, hnil⟩ | ⟨gb, capb, rfl, hgb1, hcb1, hcb2, hrb⟩
   ·
    have hcv := run_convert_bytes_nil (P := Tryz.prog) wr 130 5 Tryz.underlying130 Tryz.underlying5 0 0 9 Tryz.underlying9
    have hl0 : (lowD m).length = 0 := by rw [hnil]; rfl
    go_wp2
    go_loopw [10, 11] (fun v i wr' => v = .slice none 0 0 ∧ i = .int .i64 (-1) ∧ wr = wr') (fun _ _ _ => 0)
    case atStart => exact ⟨rfl, by go_num, rfl⟩
    case round =>
     obtain ⟨rfl, rfl, rfl⟩ := hrel
     have hb3 := hbel
     have c0 := (hb3.cell (p := ⟨w.heap.size, 0, none⟩) (Nat.lt_succ_self _)).trans k0
     have c1 := (hb3.cell (p := ⟨w.heap.size, 1, none⟩) (Nat.lt_succ_self _)).trans k1
     have f0 := (hb3.frozen (p := ⟨w.heap.size, 0, none⟩) (Nat.lt_succ_self _)).trans z0
     have f1 := (hb3.frozen (p := ⟨w.heap.size, 1, none⟩) (Nat.lt_succ_self _)).trans z1
     go_wp2
     refine ⟨rfl, _, rp_results (h := w.heap.size) (b := false) (m := ByteArray.empty) (e := 0) rfl rfl ?_ ?_, by rw [HR1.out (by rw [HDV.out]; omega), HDV.out, hnil]; rfl, ((hbW.trans (hb3.mono (Nat.le_succ _))).setCell (p := ⟨w.heap.size, 0, none⟩) (Nat.le_refl _) _).setCell (p := ⟨w.heap.size, 1, none⟩) (Nat.le_refl _) _⟩
     ·
      rw [World.cell?_setCell_other _ _ _ _ (by simp), World.cell?_setCell_same _ _ _ (by rw [c0])]
     ·
      rw [World.cell?_setCell_same _ _ _ (by rw [World.cell?_setCell_other _ _ _ _ (by simp), c1])]
   ·
    have hgb : gb < wr.heap.size := (World.ownsRow.lt hown gb rfl).2
    by_cases hlong : 255 < (lowD m).length
    ·
     have c0 := (hbel.cell (p := ⟨w.heap.size, 0, none⟩) (Nat.lt_succ_self _)).trans k0
     have c1 := (hbel.cell (p := ⟨w.heap.size, 1, none⟩) (Nat.lt_succ_self _)).trans k1
     have f0 := (hbel.frozen (p := ⟨w.heap.size, 0, none⟩) (Nat.lt_succ_self _)).trans z0
     have f1 := (hbel.frozen (p := ⟨w.heap.size, 1, none⟩) (Nat.lt_succ_self _)).trans z1
     go_wp2
     refine ⟨rfl, _, rp_results (h := w.heap.size) (b := false) (m := ⟨#[]⟩) (e := 21) rfl rfl ?_ ?_, by rw [HR2.out (by rw [HDV.out]; omega)], ((hbW.trans (hbel.mono (Nat.le_succ _))).setCell (p := ⟨w.heap.size, 0, none⟩) (Nat.le_refl _) _).setCell (p := ⟨w.heap.size, 1, none⟩) (Nat.le_refl _) _⟩
     ·
      rw [World.cell?_setCell_other _ _ _ _ (by simp), World.cell?_setCell_same _ _ _ (by rw [c0])]
     ·
      rw [World.cell?_setCell_same _ _ _ (by rw [World.cell?_setCell_other _ _ _ _ (by simp), c1])]
    ·
     obtain ⟨V, rfl⟩ : ∃ V, V = wr := ⟨_, rfl⟩
     go_wp2
     go_loopw [10, 11] (fun v i wr' => ∃ k : Nat, k ≤ (lowD m).length ∧ i = .int .i64 (((lowD m).length : Int) - 1 - (k : Int)) ∧ BOwn 5 wr' V.heap.size v ((lowD m).reverse.take k) ∧ Below V.heap.size V wr' ∧ V.heap.size ≤ wr'.heap.size) (fun _ i _ => (intOf i + 1).toNat)
     case atStart => exact ⟨0, Nat.zero_le _, by go_num, BOwn.nil _ _ _, Below.refl _ _, Nat.le_refl _⟩
     case round =>
      obtain ⟨k, hk, rfl, hown2, hbel2, hsz2⟩ := hrel
      by_cases hlt : k < (lowD m).length
      ·
       obtain ⟨j, hj⟩ : ∃ j, j + k + 1 = (lowD m).length := ⟨(lowD m).length - 1 - k, by omega⟩
       have ej : (((lowD m).length : Int) - 1 - (k : Int)) = (j : Int) := by omega
       obtain ⟨y, hy⟩ : ∃ y, (lowD m)[j]'(by omega) = y := ⟨_, rfl⟩
       have hcell := (brow_below hrb hbel2 hgb).cell j (by omega)
       rw [hy] at hcell
       have HRV : Hid ((lowD m).reverse.take (k + 1) = ((lowD m).reverse.take k) ++ [y]) := by
        show _ = _
        rw [rev_take (lowD m) j k hj, hy]
       have hlen2 : ((lowD m).reverse.take k).length ≤ 1099511627776 := by
        rw [List.length_take, List.length_reverse]; omega
       have hjl : j < (lowD m).length := by omega
       rw [ej]
       clear ej
       go_wp2_with (at_builtin; refine wpList_append_byte rfl (.tmp 87) (.tmp 92) 130 rfl 5 Tryz.underlying130 info5 V.heap.size _ _ rfl hown2 y _ rfl 1 rfl hlen2 hsz2 V.heap.size V hbel2 (Nat.le_refl _) ?_; intro v' w3 hown3 hbel3 hsz3)
       go_roundw
       case rel => exact ⟨k + 1, by omega, by go_num, by rw [HRV.out]; exact hown3, hbel3, hsz3⟩
       case measure => simp only [intOf]; omega
      ·
       obtain rfl : k = (lowD m).length := by omega
       rw [List.take_of_length_le (by rw [List.length_reverse]; exact Nat.le_refl _)] at hown2
       have ei : (((lowD m).length : Int) - 1 - ((lowD m).length : Int)) = -1 := by omega
       rw [ei]
       have hcv := run_string_own (P := Tryz.prog) wr 130 9 5 Tryz.underlying130 Tryz.underlying5 Tryz.underlying9 _ _ _ hown2
       have hb3 := hbel.trans (hbel2.mono hsz)
       have c0 := (hb3.cell (p := ⟨w.heap.size, 0, none⟩) (Nat.lt_succ_self _)).trans k0
       have c1 := (hb3.cell (p := ⟨w.heap.size, 1, none⟩) (Nat.lt_succ_self _)).trans k1
       have f0 := (hb3.frozen (p := ⟨w.heap.size, 0, none⟩) (Nat.lt_succ_self _)).trans z0
       have f1 := (hb3.frozen (p := ⟨w.heap.size, 1, none⟩) (Nat.lt_succ_self _)).trans z1
       go_wp2
       refine ⟨rfl, _, rp_results (h := w.heap.size) (b := false) (m := bs (lowD m).reverse) (e := 0) rfl rfl ?_ ?_, by rw [HR1.out (by rw [HDV.out]; omega), HDV.out], ((hbW.trans (hb3.mono (Nat.le_succ _))).setCell (p := ⟨w.heap.size, 0, none⟩) (Nat.le_refl _) _).setCell (p := ⟨w.heap.size, 1, none⟩) (Nat.le_refl _) _⟩
       ·
        rw [World.cell?_setCell_other _ _ _ _ (by simp), World.cell?_setCell_same _ _ _ (by rw [c0])]
       ·
        rw [World.cell?_setCell_same _ _ _ (by rw [World.cell?_setCell_other _ _ _ _ (by simp), c1])]
theorem rparse_any (s : ByteArray) (hs : s.size ≤ 17179869184) (w : World) :
  Calls Tryz.prog 95 #[.string s] w fun e w' => e = parseE (parseR s.data.toList) ∧ Below w.heap.size w w' := by
 have hl : s.data.toList.length = s.size := (Lib.size_eq s).symm
 by_cases hok : digOK (parseD s.data.toList) (parseB s.data.toList) = true
 ·
  by_cases hlong : 620 < (parseD s.data.toList).length
  ·
   have h := rparse_long s hs hok hlong w
   have e : parseE (parseR s.data.toList) = .returned (.tuple #[numV false ⟨#[]⟩, .int .i64 21]) := by
    rw [parseR, if_pos hok, if_neg (long_digits hok hlong)]
    rfl
   rw [e]
   exact h
  ·
   have hdig : ∀ x ∈ parseD s.data.toList, isDig x = true := by
    have h := hok
    unfold digOK at h
    rw [Bool.and_eq_true, List.all_eq_true] at h
    exact h.2
   obtain ⟨R, hR⟩ : ∃ R, parseE (parseR s.data.toList) = .returned R := by
    cases parseR s.data.toList with
    | ok z => exact ⟨_, rfl⟩
    | error e => exact ⟨_, rfl⟩
   have hR1 : (lowD (dval (parseD s.data.toList))).length ≤ 255 → R = .tuple #[numV (parseB s.data.toList) (bs (lowD (dval (parseD s.data.toList))).reverse), .int .i64 0] := by
    intro h
    rw [parseR, if_pos hok, if_pos h] at hR
    exact (Ending.returned.inj hR).symm
   have hR2 : ¬ (lowD (dval (parseD s.data.toList))).length ≤ 255 → R = .tuple #[numV false ⟨#[]⟩, .int .i64 21] := by
    intro h
    rw [parseR, if_pos hok, if_neg h] at hR
    exact (Ending.returned.inj hR).symm
   have hne : parseD s.data.toList ≠ [] := by
    intro h
    rw [h] at hok
    simp [digOK] at hok
   rw [hR]
   have hcmp : ∀ l : List UInt8, l ≠ [45, 48] → s.data.toList = l → (s.toList == [45, 48]) = false := by
    intro l h1 h2
    rw [ByteArray.toList_eq, h2]
    simpa using h1
   by_cases hm : ∃ h0 : 0 < s.size, s[0].toNat = 45
   ·
    obtain ⟨h0, h45⟩ := hm
    obtain ⟨hB, hD⟩ := parse_minus h0 h45
    rw [hB, hD] at hok hR1
    rw [hD] at hlong hdig hR2 hne
    rw [List.length_drop, hl] at hlong
    have h48 : s.data.toList ≠ [45, 48] := by
     intro h
     rw [h] at hok
     exact absurd hok (by decide)
    refine rparse_run1 s (by omega) h0 h45 (hcmp _ h48 rfl) ?_ hdig (by rw [List.length_drop, hl]) (by omega) R hR1 hR2 w
    rw [digOK_true, Bool.and_eq_true] at hok
    exact hok.1
   ·
    obtain ⟨hB, hD⟩ := parse_plain hm
    rw [hB, hD] at hok hR1
    rw [hD] at hlong hdig hR2 hne
    rw [hl] at hlong
    have h0 : 0 < s.size := by
     rw [← hl]
     exact List.length_pos_iff.2 hne
    have h45 : ¬ s[0].toNat = 45 := fun h => hm ⟨h0, h⟩
    have h48 : s.data.toList ≠ [45, 48] := by
     intro h
     rw [h] at hok
     exact absurd hok (by decide)
    exact rparse_run0 s (by omega) h0 (by simp; omega) (hcmp _ h48 rfl) hok hdig (by rw [List.length_drop, hl]) (by omega) R hR1 hR2 w
 ·
  have h := rparse_form s hs (by simpa using hok) w
  have e : parseE (parseR s.data.toList) = .returned (.tuple #[numV false ⟨#[]⟩, .int .i64 20]) := by
   rw [parseR, if_neg hok]
   rfl
  rw [e]
  exact h
end Go.Proofs.YtcbjnifoojjipaaGreatDoor
