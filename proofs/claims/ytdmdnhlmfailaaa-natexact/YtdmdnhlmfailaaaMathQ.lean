/- There and back, by bytes and by digits (lemmas of the verifier's own). -/
import Derived.Test.YtdmdnhlmfailaaaMathP
import Derived.Test.YtdmdnhlmfailaaaParse
namespace Go.Proofs.Ytdmdnhlmfailaaa
open Go.RowKit Go.Vf

theorem flip_flip (l : List UInt8) : flipL (flipL l) = l := by
  have h : ∀ x : UInt8, 255 - (255 - x) = x := fun x => by
    refine UInt8.toNat_inj.1 ?_
    have h1 := flip_toNat x
    have h2 := flip_toNat (255 - x)
    omega
  induction l with
  | nil => rfl
  | cons x r ih =>
    show (255 - (255 - x)) :: flipL (flipL r) = x :: r
    rw [h, ih]
theorem turn_turn (b : Bool) (l : List UInt8) : turnB b (turnB b l) = l := by unfold turnB; cases b <;> simp [flip_flip]
theorem turn_length (b : Bool) (l : List UInt8) : (turnB b l).length = l.length := by unfold turnB; cases b <;> simp [flipL_length]
theorem turn_append (b : Bool) (l r : List UInt8) : turnB b (l ++ r) = turnB b l ++ turnB b r := by unfold turnB; cases b <;> simp [flipL]
theorem ofNat_toNat (x : UInt8) : UInt8.ofNat x.toNat = x := by simp

theorem tkMag_turn {m : List UInt8} (hh : m.head? ≠ some 0) (h0 : m ≠ []) (b : Bool) (y : List UInt8) : tkMag (turnB b m ++ y) m.length b = .ok m := by
  obtain ⟨x, r, rfl⟩ : ∃ x r, m = x :: r := by
    cases m with
    | nil => exact absurd rfl h0
    | cons x r => exact ⟨x, r, rfl⟩
  have hx : x.toNat ≠ 0 := fun h => hh (by rw [show x = 0 from UInt8.toNat_inj.1 h]; rfl)
  obtain ⟨u, t, hu, hut⟩ : ∃ u t, turnB b (x :: r) = u :: t ∧ u.toNat ≠ (if b then 255 else 0) := by
    cases b
    · exact ⟨x, r, rfl, by simpa using hx⟩
    · refine ⟨255 - x, flipL r, rfl, ?_⟩
      have := flip_toNat x
      simp only [if_true]
      omega
  have hlen := turn_length b (x :: r)
  have htake : (turnB b (x :: r) ++ y).take (x :: r).length = turnB b (x :: r) := by rw [← hlen]; simp
  have hge : (x :: r).length ≤ (turnB b (x :: r) ++ y).length := by rw [List.length_append, hlen]; omega
  rw [hu, List.cons_append] at htake hge ⊢
  simp only [tkMag, hut, if_false, hge, if_true, htake]
  rw [← hu, turn_turn]

theorem tkHead_head {b : Bool} {k : Nat} (hk : k ≤ 255) (hb : b = true → 0 < k) (r : List UInt8) : tkHead (headL b k ++ r) = .ok (b, k, (headL b k).length) := by
  unfold headL
  by_cases h : 126 < k
  · rw [if_pos h]
    cases b
    · simp only [Bool.false_eq_true, if_false, List.cons_append, List.nil_append, tkHead]
      rw [if_pos (by decide), ofNat_nat (by omega), if_pos h]
      rfl
    · simp only [if_true, List.cons_append, List.nil_append, tkHead]
      rw [if_neg (by decide), if_pos (by decide), ofNat_nat (by omega), if_pos (by omega), show 255 - (255 - k) = k by omega]
      rfl
  · rw [if_neg h]
    cases b
    · simp only [Bool.false_eq_true, if_false, List.cons_append, List.nil_append, tkHead]
      rw [ofNat_nat (by omega), if_neg (by omega), if_neg (by omega), if_pos (by omega), if_neg (by omega), show 128 + k - 128 = k by omega]
      rfl
    · have := hb rfl
      simp only [if_true, List.cons_append, List.nil_append, tkHead]
      rw [ofNat_nat (by omega), if_neg (by omega), if_neg (by omega), if_pos (by omega), if_pos (by omega), show 128 - (128 - k) = k by omega]
      rfl

/-- P2.7: bytes. -/
theorem tk_put {p : Bool} {a : List UInt8} (hp : chk p a = 0) (y : List UInt8) : tk (putL p a ++ y) = ((putL p a).length, some (p, a)) := by
  obtain ⟨h1, h2, h3⟩ := chk_zero hp
  unfold tk putL
  rw [List.append_assoc, tkHead_head h1 (fun hb => List.length_pos_iff.2 (fun e => by rw [h3 e] at hb; cases hb))]
  simp only
  by_cases h0 : a = []
  · rw [h3 h0, h0]
    rfl
  · have : ¬ a.length = 0 := fun e => h0 (List.eq_nil_of_length_eq_zero e)
    rw [if_neg this, List.drop_left, tkMag_turn h2 h0]
    simp only [List.length_append, turn_length]

theorem tkHead_inv {l : List UInt8} {b : Bool} {k h : Nat} (hh : tkHead l = .ok (b, k, h)) : ∃ r, l = headL b k ++ r ∧ h = (headL b k).length ∧ k ≤ 255 ∧ (b = true → 0 < k) := by
  unfold tkHead at hh
  split at hh
  · cases hh
  · rename_i x r
    have hx := x.toNat_lt
    split at hh
    · rename_i hF
      split at hh
      · cases hh
      · rename_i y r'
        have hy := y.toNat_lt
        split at hh
        · rename_i hgt
          simp only [Except.ok.injEq, Prod.mk.injEq] at hh
          obtain ⟨rfl, rfl, rfl⟩ := hh
          refine ⟨r', ?_, ?_, by omega, by simp⟩
          · rw [headL, if_pos hgt, ofNat_toNat, show x = 255 from UInt8.toNat_inj.1 hF]; rfl
          · rw [headL, if_pos hgt]; rfl
        · cases hh
    · split at hh
      · rename_i hF hO
        split at hh
        · cases hh
        · rename_i y r'
          have hy := y.toNat_lt
          split at hh
          · rename_i hlt
            simp only [Except.ok.injEq, Prod.mk.injEq] at hh
            obtain ⟨rfl, rfl, rfl⟩ := hh
            refine ⟨r', ?_, ?_, by omega, by omega⟩
            · rw [headL, if_pos (by omega), show 255 - (255 - y.toNat) = y.toNat by omega, ofNat_toNat, show x = 1 from UInt8.toNat_inj.1 hO]; rfl
            · rw [headL, if_pos (by omega)]; rfl
          · cases hh
      · split at hh
        · split at hh
          · rename_i hF hO h1 hlt
            simp only [Except.ok.injEq, Prod.mk.injEq] at hh
            obtain ⟨rfl, rfl, rfl⟩ := hh
            refine ⟨r, ?_, ?_, by omega, by omega⟩
            · rw [headL, if_neg (by omega), show 128 - (128 - x.toNat) = x.toNat by omega, ofNat_toNat]; rfl
            · rw [headL, if_neg (by omega)]; rfl
          · rename_i hF hO h1 hlt
            simp only [Except.ok.injEq, Prod.mk.injEq] at hh
            obtain ⟨rfl, rfl, rfl⟩ := hh
            refine ⟨r, ?_, ?_, by omega, by simp⟩
            · rw [headL, if_neg (by omega), show 128 + (x.toNat - 128) = x.toNat by omega, ofNat_toNat]; rfl
            · rw [headL, if_neg (by omega)]; rfl
        · cases hh
theorem tkMag_inv {l m : List UInt8} {k : Nat} {b : Bool} (hk : 0 < k) (h : tkMag l k b = .ok m) : ∃ r, l = turnB b m ++ r ∧ m.length = k ∧ m.head? ≠ some 0 := by
  cases l with
  | nil => cases h
  | cons x t =>
    simp only [tkMag] at h
    by_cases hne : x.toNat = (if b then 255 else 0)
    · rw [if_pos hne] at h; cases h
    · rw [if_neg hne] at h
      by_cases hle : k ≤ (x :: t).length
      · rw [if_pos hle] at h
        simp only [Except.ok.injEq] at h
        subst h
        refine ⟨(x :: t).drop k, by rw [turn_turn, List.take_append_drop], by rw [turn_length, List.length_take]; omega, ?_⟩
        obtain ⟨j, rfl⟩ : ∃ j, k = j + 1 := ⟨k - 1, by omega⟩
        rw [List.take_succ_cons]
        cases b
        · intro h1
          have : x = 0 := by simpa [turnB] using h1
          exact hne (by rw [this]; rfl)
        · intro h1
          have h2 : (255 - x) = 0 := by simpa [turnB, flipL] using h1
          have := flip_toNat x
          rw [h2] at this
          exact hne (by simp only [if_true]; have : (0 : UInt8).toNat = 0 := rfl; omega)
      · rw [if_neg hle] at h; cases h
theorem tk_inv {l : List UInt8} {n : Nat} {b : Bool} {m : List UInt8} (h : tk l = (n, some (b, m))) : chk b m = 0 ∧ ∃ r, l = putL b m ++ r ∧ n = (putL b m).length := by
  unfold tk at h
  split at h
  · simp at h
  · rename_i b' k hd hh
    obtain ⟨r, hl, hd', hk, hb⟩ := tkHead_inv hh
    split at h
    · rename_i h0
      subst h0
      simp only [Prod.mk.injEq, Option.some.injEq] at h
      obtain ⟨rfl, rfl, rfl⟩ := h
      have : b' = false := by
        cases b'
        · rfl
        · exact absurd (hb rfl) (by decide)
      subst this
      exact ⟨by decide, r, by rw [hl]; rfl, by rw [hd']; rfl⟩
    · rename_i h0
      split at h
      · simp at h
      · rename_i m' hm
        simp only [Prod.mk.injEq, Option.some.injEq] at h
        obtain ⟨rfl, rfl, rfl⟩ := h
        obtain ⟨r2, hr2, hml, hmh⟩ := tkMag_inv (by omega) hm
        rw [hl, hd', List.drop_left] at hr2
        refine ⟨chk_ok (by omega) hmh (fun e => by rw [e] at hml; exact absurd hml.symm h0), r2, ?_, ?_⟩
        · rw [putL, hml, hl, hr2, List.append_assoc]
        · rw [putL, hml, List.length_append, turn_length, hml, hd']
theorem tkHead_err {l : List UInt8} {n : Nat} (h : tkHead l = .error n) : n ≤ l.length := by
  unfold tkHead at h
  split at h
  · simp only [Except.error.injEq] at h; omega
  · repeat' (first | (simp only [Except.error.injEq] at h; simp only [List.length_cons]; omega) | cases h | split at h)
theorem tk_le (l : List UInt8) : (tk l).1 ≤ l.length := by
  obtain ⟨⟨n, o⟩, h⟩ : ∃ z, tk l = z := ⟨_, rfl⟩
  rw [h]
  show n ≤ l.length
  cases o with
  | some z =>
    obtain ⟨b, m⟩ := z
    obtain ⟨_, r, hl, hn⟩ := tk_inv h
    rw [hl, hn, List.length_append]; omega
  | none =>
    unfold tk at h
    split at h
    · rename_i k hh
      have := tkHead_err hh
      simp only [Prod.mk.injEq] at h
      omega
    · rename_i b k hd hh
      obtain ⟨hh1, _, _⟩ := tkHead_ok hh
      split at h
      · simp at h
      · split at h
        · rename_i k' hm
          simp only [Prod.mk.injEq] at h
          have : k' ≤ (l.drop hd).length := by
            unfold tkMag at hm
            split at hm
            · simp only [Except.error.injEq] at hm; omega
            · rename_i x t hx
              by_cases hne : x.toNat = (if b then 255 else 0)
              · rw [if_pos hne] at hm
                simp only [Except.error.injEq] at hm; omega
              · rw [if_neg hne] at hm
                by_cases hle : k ≤ (x :: t).length
                · rw [if_pos hle] at hm; cases hm
                · rw [if_neg hle] at hm
                  simp only [Except.error.injEq] at hm; rw [hx]; omega
          rw [List.length_drop] at this
          omega
        · simp at h

/-- P2.7: digits. -/
theorem digit_not_minus {x : UInt8} (h : isDig x = true) : x ≠ 45 := by
  rintro rfl
  exact absurd h (by decide)
theorem parse_digits {D : List UInt8} (b : Bool) (hD : D.head? ≠ some 45) : parseB (if b then 45 :: D else D) = b ∧ parseD (if b then 45 :: D else D) = D := by
  cases b
  · have : parseB D = false := by
      cases D with
      | nil => rfl
      | cons x r =>
        have : x ≠ 45 := fun h => hD (by rw [h]; rfl)
        have e : ((45 : UInt8) == x) = false := by simpa using Ne.symm this
        simp only [parseB, List.isPrefixOf, e, Bool.false_and]
    simp only [Bool.false_eq_true, if_false]
    exact ⟨this, by rw [parseD, this]; rfl⟩
  · have : parseB (45 :: D) = true := by simp [parseB]
    simp only [if_true]
    exact ⟨this, by rw [parseD, this]; rfl⟩
theorem head_rev_digs {n : Nat} (b : Bool) (h : n ≠ 0) : digOK (decD n).reverse b = true ∧ (decD n).reverse.head? ≠ some 45 := by
  have h1 := decD_digs n
  have h2 := decD_last n
  have h3 : decD n ≠ [] := fun e => h (decD_nil.1 e)
  constructor
  · unfold digOK
    rw [List.head?_reverse]
    have e1 : ((decD n).getLast? == some 48) = false := by simpa using h2
    rw [e1]
    simp only [Bool.false_and, Bool.not_false, Bool.and_true, Bool.and_eq_true, List.all_eq_true]
    refine ⟨by simpa using h3, fun x hx => h1 x (by simpa using hx)⟩
  · rw [List.head?_reverse]
    intro h4
    have := List.mem_of_getLast? h4
    exact digit_not_minus (h1 _ this) rfl
theorem parse_print {p : Bool} {a : List UInt8} (hp : chk p a = 0) : parseR (printL p a) = .ok (p, a) := by
  obtain ⟨h1, h2, h3⟩ := chk_zero hp
  by_cases h0 : a = []
  · rw [h3 h0, h0]
    have e1 : digOK (parseD [48]) (parseB [48]) = true := by decide
    have e2 : dval (parseD [48]) = 0 := by decide
    have e3 : parseB [48] = false := by decide
    show parseR [48] = _
    rw [parseR, e1, e2, lowD_zero, e3]
    rfl
  · have hM := hvl_pos h2 h0
    obtain ⟨hok, h45⟩ := head_rev_digs p hM
    have hpr : printL p a = if p then 45 :: (decD (hvl a)).reverse else (decD (hvl a)).reverse := by
      rw [printL, if_neg (by simpa using h0)]
    obtain ⟨hB, hD⟩ := parse_digits p h45
    have hdv : dval (decD (hvl a)).reverse = hvl a := by rw [dval, List.reverse_reverse, tval_decD]
    have hmag := magOf_hvl h2
    unfold magOf at hmag
    rw [hpr, parseR, hB, hD, if_pos hok, hdv, if_pos (by rw [← List.length_reverse, hmag]; exact h1), hmag]
theorem print_parse {l : List UInt8} {b : Bool} {m : List UInt8} (h : parseR l = .ok (b, m)) : chk b m = 0 ∧ printL b m = l := by
  unfold parseR at h
  by_cases hok : digOK (parseD l) (parseB l) = true
  · rw [if_pos hok] at h
    by_cases hlen : (lowD (dval (parseD l))).length ≤ 255
    · rw [if_pos hlen] at h
      simp only [Except.ok.injEq, Prod.mk.injEq] at h
      obtain ⟨hb, hm⟩ := h
      have hl : l = if parseB l then 45 :: parseD l else parseD l := by
        by_cases h1 : parseB l = true
        · rw [if_pos h1, parseD, if_pos h1]
          unfold parseB at h1
          cases l with
          | nil => cases h1
          | cons x r =>
            simp only [List.isPrefixOf, Bool.and_true] at h1
            rw [← beq_iff_eq.1 h1]; rfl
        · rw [if_neg h1, parseD, if_neg h1]
      rw [hb] at hl hok
      generalize parseD l = D at hl hok hm hlen
      have hm' : m = magOf (dval D) := hm.symm
      unfold digOK at hok
      simp only [Bool.and_eq_true, Bool.not_eq_true', List.all_eq_true] at hok
      obtain ⟨⟨hne, hhd⟩, hdig⟩ := hok
      have hne' : D ≠ [] := by simpa using hne
      have hlast : D.head? ≠ some 48 → dval D ≠ 0 ∧ decD (dval D) = D.reverse := by
        intro h48
        have h1 : D.reverse.getLast? ≠ some 48 := by rw [List.getLast?_reverse]; exact h48
        exact ⟨tval_pos (fun x hx => hdig x (by simpa using hx)) h1 (by simpa using hne'), decD_tval (fun x hx => hdig x (by simpa using hx)) h1⟩
      have hval : hvl m = dval D := by rw [hm', magOf_val]
      by_cases h48 : D.head? = some 48
      · rw [h48] at hhd
        simp at hhd
        obtain ⟨hbf, hD1⟩ := hhd
        obtain rfl : D = [48] := by
          cases D with
          | nil => exact absurd rfl hne'
          | cons x r =>
            have : r = [] := List.eq_nil_of_length_eq_zero (by simp only [List.length_cons] at hD1; omega)
            rw [this] at h48 ⊢
            have : x = 48 := by simpa using h48
            rw [this]
        have hm0 : m = [] := by rw [hm', magOf_nil]; decide
        subst hbf
        rw [hm0]
        exact ⟨by decide, by rw [hl]; rfl⟩
      · obtain ⟨hpos, hdec⟩ := hlast h48
        have hm0 : m ≠ [] := fun e => hpos (magOf_nil.1 (by rw [← hm', e]))
        refine ⟨chk_ok (by rw [hm', magOf_length]; exact hlen) (by rw [hm']; exact magOf_head _) (fun e => absurd e hm0), ?_⟩
        rw [printL, if_neg (by simpa using hm0), hval, hdec, List.reverse_reverse, hl]
    · rw [if_neg hlen] at h; cases h
  · rw [if_neg hok] at h; cases h
theorem parse_err {l : List UInt8} {e : Int} (h : parseR l = .error e) : e = 20 ∨ e = 21 := by
  unfold parseR at h
  split at h
  · split at h
    · cases h
    · simp only [Except.error.injEq] at h; exact .inr h.symm
  · simp only [Except.error.injEq] at h; exact .inl h.symm
end Go.Proofs.Ytdmdnhlmfailaaa
