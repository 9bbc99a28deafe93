/- Contracts and lemmas (nothing is claimed here). -/
import Derived.Test.YtkjoomdglealmaaGreatDoorJ3
import Derived.Laws.EntriesVeiled
namespace Go.Proofs.YtkjoomdglealmaaGreatDoor
open Go.RowKit Go.Vf

theorem below_set {W : World} {B j : Nat} (v : Value) : Below B W (W.setCell ⟨B, j, none⟩ v) := (Below.refl B W).setCell (Nat.le_refl _) v
theorem stripNothing_any (B : Nat) (w : World) : Calls Tryz.prog 209 #[.pointer (some ⟨B, 0, none⟩)] w fun e w' => e = .returned (.tuple #[]) ∧ w' = w := by
  go_enter Tryz.func209, Tryz.ntmps209
  go_wp2
  go_end0
  exact ⟨rfl, rfl⟩
theorem stripMost_any (B : Nat) (o : Own) (a : Option Addr) (n c : Nat) (w : World) (h : Blk w B 57 (cellsF o a n c)) : Calls Tryz.prog 217 #[.pointer (some ⟨B, 0, none⟩)] w fun e w' => e = .returned (.tuple #[]) ∧ Below B w w' ∧ Blk w' B 57 (cellsF { o with most := 0 } a n c) := by
  have c9 := h.rowF.c9
  have f9 := h.frozen 9
  simp only [Nat.zero_add] at c9
  have hn := h.set 9 (.int .i64 0)
  have hb := below_set (W := w) (B := B) (j := 9) (.int .i64 0)
  clear h
  go_enter Tryz.func217, Tryz.ntmps217
  go_wp2
  go_end0
  exact ⟨rfl, hb, hn⟩
theorem stripCollate_any (B : Nat) (o : Own) (a : Option Addr) (n c : Nat) (w : World) (h : Blk w B 57 (cellsF o a n c)) : Calls Tryz.prog 221 #[.pointer (some ⟨B, 0, none⟩)] w fun e w' => e = .returned (.tuple #[]) ∧ Below B w w' ∧ Blk w' B 57 (cellsF { o with str := 0, shf := false, bck := false } a n c) := by
  have c10 := h.rowF.c10
  have c11 := h.rowF.c11
  have c12 := h.rowF.c12
  simp only [Nat.zero_add] at c10 c11 c12
  have f10 := h.frozen 10
  have f11 := h.frozen 11
  have f12 := h.frozen 12
  have hn := ((h.set 10 (.int .i64 0)).set 11 (.bool false)).set 12 (.bool false)
  have hb := ((below_set (W := w) (B := B) (j := 10) (.int .i64 0)).trans (below_set (j := 11) (.bool false))).trans (below_set (j := 12) (.bool false))
  clear h
  go_enter Tryz.func221, Tryz.ntmps221
  go_wp2
  go_end0
  exact ⟨rfl, hb, hn⟩
theorem stripFields_any (B : Nat) (o : Own) (a : Option Addr) (n c : Nat) (w : World) (h : Blk w B 57 (cellsF o a n c)) : Calls Tryz.prog 224 #[.pointer (some ⟨B, 0, none⟩)] w fun e w' => e = .returned (.tuple #[]) ∧ Below B w w' ∧ Blk w' B 57 (cellsF o none 0 0) := by
  have c13 := h.rowF.c13
  have f13 := h.frozen 13
  simp only [Nat.zero_add] at c13
  have hn := h.set 13 (.slice none 0 0)
  have hb := below_set (W := w) (B := B) (j := 13) (.slice none 0 0)
  clear h
  go_enter Tryz.func224, Tryz.ntmps224
  go_wp2
  go_end0
  exact ⟨rfl, hb, hn⟩
theorem stripBounds_any (B : Nat) (o : Own) (a : Option Addr) (n c : Nat) (w : World) (h : Blk w B 57 (cellsF o a n c)) : Calls Tryz.prog 213 #[.pointer (some ⟨B, 0, none⟩)] w fun e w' => e = .returned (.tuple #[]) ∧ Below B w w' ∧ Blk w' B 57 (cellsF { o with bnd := false, ln := false, lm := ⟨#[]⟩, hn := false, hm := ⟨#[]⟩ } a n c) := by
  have c4 := h.rowF.c4
  have c5 := h.rowF.c5
  have c6 := h.rowF.c6
  have c7 := h.rowF.c7
  have c8 := h.rowF.c8
  simp only [Nat.zero_add] at c4 c5 c6 c7 c8
  have f4 := h.frozen 4
  have f5 := h.frozen 5
  have f6 := h.frozen 6
  have f7 := h.frozen 7
  have f8 := h.frozen 8
  have hn := ((((h.set 4 (.bool false)).set 5 (.bool false)).set 6 (.string ⟨#[]⟩)).set 7 (.bool false)).set 8 (.string ⟨#[]⟩)
  have hb := ((((below_set (W := w) (B := B) (j := 4) (.bool false)).trans (below_set (j := 5) (.bool false))).trans (below_set (j := 6) (.string ⟨#[]⟩))).trans (below_set (j := 7) (.bool false))).trans (below_set (j := 8) (.string ⟨#[]⟩))
  clear h
  go_enter Tryz.func213, Tryz.ntmps213
  go_wp2
  go_end0
  exact ⟨rfl, hb, hn⟩

theorem anyRight_any (o : Own) (a : Option Addr) (n c : Nat) (w : World) : Calls Tryz.prog 208 #[fV o a n c] w fun e w' => e = .returned (.bool true) ∧ Below w.heap.size w w' := by
  unfold fV
  have hb1 := (Below.refl w.heap.size w).alloc (Nat.le_refl _) (fC o a n c)
  unfold fC at hb1
  go_enter Tryz.func208, Tryz.ntmps208
  go_wp2
  go_ret
  exact ⟨rfl, hb1⟩
theorem mostRight_any (o : Own) (a : Option Addr) (n c : Nat) (w : World) : Calls Tryz.prog 216 #[fV o a n c] w fun e w' => e = .returned (.bool (decide (0 ≤ o.most) && decide (o.most ≤ 65536))) ∧ Below w.heap.size w w' := by
  unfold fV
  have hb1 := (Below.refl w.heap.size w).alloc (Nat.le_refl _) (fC o a n c)
  unfold fC at hb1
  cases h1 : decide (0 ≤ o.most) with
  | false =>
    go_enter Tryz.func216, Tryz.ntmps216
    go_wp2
    go_ret
    exact ⟨rfl, hb1⟩
  | true =>
    cases h2 : decide (o.most ≤ 65536) with
    | false =>
      go_enter Tryz.func216, Tryz.ntmps216
      go_wp2
      go_ret
      exact ⟨rfl, hb1⟩
    | true =>
      go_enter Tryz.func216, Tryz.ntmps216
      go_wp2
      go_ret
      exact ⟨rfl, hb1⟩
def colOk (o : Own) : Bool := decide (1 ≤ o.str) && decide (o.str ≤ 4) && (decide (o.str < 4) || o.shf)
theorem collateRight_any (o : Own) (a : Option Addr) (n c : Nat) (w : World) : Calls Tryz.prog 220 #[fV o a n c] w fun e w' => e = .returned (.bool (colOk o)) ∧ Below w.heap.size w w' := by
  unfold fV colOk
  have hb1 := (((Below.refl w.heap.size w).alloc (Nat.le_refl _) (fC o a n c))).alloc (by simp) (.cells #[.int .i64 o.str, .bool o.shf, .bool o.bck] 55)
  unfold fC at hb1
  cases h1 : decide (1 ≤ o.str) with
  | false =>
    go_enter Tryz.func220, Tryz.ntmps220
    go_wp2
    go_ret
    exact ⟨rfl, hb1⟩
  | true =>
    cases h2 : decide (o.str ≤ 4) with
    | false =>
      go_enter Tryz.func220, Tryz.ntmps220
      go_wp2
      go_ret
      exact ⟨rfl, hb1⟩
    | true =>
      cases h3 : decide (o.str < 4) with
      | true =>
        go_enter Tryz.func220, Tryz.ntmps220
        go_wp2
        go_ret
        exact ⟨rfl, hb1⟩
      | false =>
        cases h4 : o.shf with
        | true =>
          rw [h4] at hb1
          go_enter Tryz.func220, Tryz.ntmps220
          go_wp2
          go_ret
          exact ⟨rfl, hb1⟩
        | false =>
          rw [h4] at hb1
          go_enter Tryz.func220, Tryz.ntmps220
          go_wp2
          go_ret
          exact ⟨rfl, hb1⟩

end Go.Proofs.YtkjoomdglealmaaGreatDoor

namespace Go.Vf

/-- Each byte turned. -/
def flipL (l : List UInt8) : List UInt8 := l.map (255 - ·)
theorem flipL_length (l : List UInt8) : (flipL l).length = l.length := by simp [flipL]

theorem set_fill {α : Type} (l : List α) (k : Nat) (hk : k < l.length) (z : α) : (l.take k ++ List.replicate (l.length - k) z).set k l[k] = l.take (k + 1) ++ List.replicate (l.length - (k + 1)) z := by
  rw [List.set_append_right k l[k] (by simp; omega)]
  have h1 : l.length - k = (l.length - (k + 1)) + 1 := by omega
  rw [h1, List.replicate_succ]
  simp only [List.length_take, Nat.min_eq_left (Nat.le_of_lt hk), Nat.sub_self, List.set_cons_zero]
  rw [List.take_succ_eq_append_getElem hk, List.append_assoc]
  rfl

/-- A text escaped, without its end. -/
def inner : List UInt8 → List UInt8
  | [] => []
  | c :: r => if c = 0 then 0 :: 255 :: inner r else c :: inner r
def esc (l : List UInt8) : List UInt8 := inner l ++ [0, 1]

theorem inner_append (a b : List UInt8) : inner (a ++ b) = inner a ++ inner b := by
  induction a with
  | nil => rfl
  | cons c r ih => simp only [List.cons_append, inner]; split <;> simp [ih]

theorem inner_plain (a : List UInt8) (h : ∀ x ∈ a, x ≠ 0) : inner a = a := by
  induction a with
  | nil => rfl
  | cons c r ih =>
    simp only [inner]
    rw [if_neg (h c (by simp)), ih (fun x hx => h x (by simp [hx]))]

/-- How many bytes need another one behind them. -/
def zerosL (l : List UInt8) : Nat := (l.filter (· == 0)).length
theorem zerosL_le (l : List UInt8) : zerosL l ≤ l.length := List.length_filter_le _ _
theorem inner_length (l : List UInt8) : (inner l).length = l.length + zerosL l := by
  induction l with
  | nil => rfl
  | cons c r ih =>
    simp only [inner, zerosL, List.filter_cons] at *
    by_cases h : c = 0
    · simp [h, ih]; omega
    · simp [h, ih]; omega
theorem zerosL_snoc (l : List UInt8) (c : UInt8) : zerosL (l ++ [c]) = zerosL l + if c = 0 then 1 else 0 := by
  unfold zerosL
  rw [List.filter_append]
  by_cases h : c = 0 <;> simp [h]

/-- A row of N bytes that is filled from the front, 0 behind. -/
def fill (acc : List UInt8) (N : Nat) : List UInt8 := acc ++ List.replicate (N - acc.length) 0
theorem fill_length (acc : List UInt8) (N : Nat) (h : acc.length ≤ N) : (fill acc N).length = N := by simp [fill]; omega
theorem fill_put (acc t : List UInt8) (N : Nat) (h : acc.length + t.length ≤ N) :
    (fill acc N).take acc.length ++ (t.take (N - acc.length) ++ (fill acc N).drop (acc.length + min t.length (N - acc.length))) = fill (acc ++ t) N := by
  have h1 : (fill acc N).take acc.length = acc := by simp [fill]
  have h2 : t.take (N - acc.length) = t := List.take_of_length_le (by omega)
  have h3 : min t.length (N - acc.length) = t.length := Nat.min_eq_left (by omega)
  rw [h1, h2, h3]
  have h4 : (fill acc N).drop (acc.length + t.length) = List.replicate (N - (acc ++ t).length) 0 := by
    rw [fill, List.drop_append, List.drop_eq_nil_of_le (by omega)]
    simp
    omega
  rw [h4, ← List.append_assoc]
  rfl
theorem fill_set (acc : List UInt8) (x : UInt8) (N : Nat) (h : acc.length < N) : (fill acc N).set acc.length x = fill (acc ++ [x]) N := by
  have h1 : N - acc.length = (N - (acc ++ [x]).length) + 1 := by simp; omega
  unfold fill
  rw [h1, List.replicate_succ, List.set_append_right acc.length x (Nat.le_refl _), Nat.sub_self, List.set_cons_zero, List.append_assoc]
  rfl
theorem fill_take (acc : List UInt8) (N : Nat) : (fill acc N).take acc.length = acc := by simp [fill]
theorem fill_nil (N : Nat) : fill [] N = List.replicate N 0 := by simp [fill]

/-- What Escape knows behind k rounds: acc lies there, from 'fr' on nothing has been copied. -/
def EscInv (l : List UInt8) (k fr : Nat) (acc : List UInt8) : Prop := fr ≤ k ∧ acc ++ (l.take k).drop fr = inner (l.take k)

theorem EscInv.zero (l : List UInt8) : EscInv l 0 0 [] := by simp [EscInv, inner]
theorem EscInv.other {l : List UInt8} {k fr : Nat} {acc : List UInt8} (h : EscInv l k fr acc) (hk : k < l.length) (hc : l[k] ≠ 0) : EscInv l (k + 1) fr acc := by
  obtain ⟨h1, h2⟩ := h
  refine ⟨by omega, ?_⟩
  rw [List.take_succ_eq_append_getElem hk, inner_append, ← h2, List.drop_append_of_le_length (by simp; omega)]
  simp [inner, hc]
theorem EscInv.null {l : List UInt8} {k fr : Nat} {acc : List UInt8} (h : EscInv l k fr acc) (hk : k < l.length) (hc : l[k] = 0) : EscInv l (k + 1) (k + 1) (acc ++ (l.drop fr).take (k + 1 - fr) ++ [255]) := by
  obtain ⟨h1, h2⟩ := h
  refine ⟨Nat.le_refl _, ?_⟩
  have e : (l.drop fr).take (k + 1 - fr) = (l.take (k + 1)).drop fr := by rw [List.drop_take]
  rw [e, List.take_succ_eq_append_getElem hk, inner_append, ← h2, List.drop_append_of_le_length (by simp; omega)]
  simp [inner, hc]
  omega
theorem EscInv.length {l : List UInt8} {k fr : Nat} {acc : List UInt8} (h : EscInv l k fr acc) (hk : k ≤ l.length) : acc.length + (k - fr) = (inner (l.take k)).length := by
  rw [← h.2]; simp; omega
theorem inner_take_le (l : List UInt8) (k : Nat) : (inner (l.take k)).length ≤ (inner l).length := by
  have h : inner l = inner (l.take k) ++ inner (l.drop k) := by rw [← inner_append, List.take_append_drop]
  rw [h]; simp
theorem EscInv.done {l : List UInt8} {fr : Nat} {acc : List UInt8} (h : EscInv l l.length fr acc) : acc ++ l.drop fr = inner l := by
  have := h.2
  simpa using this

/-- Reading an escaped text: the place where that ends, or breaks off; the text, if there is one. -/
def dec : List UInt8 → Nat × Option (List UInt8)
  | [] => (0, none)
  | [_] => (1, none)
  | c :: d :: r => if c = 0 then (if d = 1 then (2, some []) else if d = 255 then ((dec r).1 + 2, (dec r).2.map (0 :: ·)) else (1, none)) else ((dec (d :: r)).1 + 1, (dec (d :: r)).2.map (c :: ·))

/-- The same, a byte at a time: 'op': a 00 stands right ahead. -/
def scan : Bool → List UInt8 → Nat × Bool
  | _, [] => (0, false)
  | op, c :: r => if op = true ∧ c = 1 then (1, true) else if op = true ∧ c ≠ 255 then (0, false) else ((scan (c == 0) r).1 + 1, (scan (c == 0) r).2)

theorem scan_dec (l : List UInt8) : scan false l = ((dec l).1, (dec l).2.isSome) := by
  fun_induction dec l with
  | case1 => rfl
  | case2 c => simp [scan]
  | case3 r => simp [scan]
  | case4 r h ih => simp [scan, ih]
  | case5 d r h1 h2 => simp [scan, h1, h2]
  | case6 c d r h ih =>
    have e : scan false (c :: d :: r) = ((scan false (d :: r)).1 + 1, (scan false (d :: r)).2) := by
      rw [scan]; simp [show (c == 0) = false by simp [h]]
    rw [e, ih]; simp

theorem dec_some {l : List UInt8} : ∀ {n : Nat} {t : List UInt8}, dec l = (n, some t) → ∃ r, l = inner t ++ 0 :: 1 :: r ∧ n = (inner t).length + 2 := by
  fun_induction dec l with
  | case1 => intro n t h; simp at h
  | case2 c => intro n t h; simp at h
  | case3 r =>
    intro n t h
    simp at h
    obtain ⟨rfl, rfl⟩ := h
    exact ⟨r, by simp [inner], by simp [inner]⟩
  | case4 r h ih =>
    intro n t h
    simp only [Prod.mk.injEq, Option.map_eq_some_iff] at h
    obtain ⟨rfl, u, hu, rfl⟩ := h
    obtain ⟨r', e1, e2⟩ := ih (n := (dec r).1) (t := u) (by rw [← hu])
    exact ⟨r', by simp [inner, ← e1], by simp [inner, e2]⟩
  | case5 d r h1 h2 => intro n t h; simp at h
  | case6 c d r h ih =>
    intro n t h'
    simp only [Prod.mk.injEq, Option.map_eq_some_iff] at h'
    obtain ⟨rfl, u, hu, rfl⟩ := h'
    obtain ⟨r', e1, e2⟩ := ih (n := (dec (d :: r)).1) (t := u) (by rw [← hu])
    exact ⟨r', by simp [inner, h, ← e1], by simp [inner, h, e2]⟩

theorem dec_esc (t r : List UInt8) : dec (inner t ++ 0 :: 1 :: r) = ((inner t).length + 2, some t) := by
  induction t with
  | nil => simp [inner, dec]
  | cons c t ih =>
    by_cases h : c = 0
    · simp [inner, h, dec, ih]
    · have e : inner (c :: t) ++ 0 :: 1 :: r = c :: (inner t ++ 0 :: 1 :: r) := by simp [inner, h]
      have hl : (inner (c :: t)).length = (inner t).length + 1 := by simp [inner, h]
      rw [e, hl]
      obtain ⟨d, q, hq⟩ : ∃ d q, inner t ++ 0 :: 1 :: r = d :: q := by
        cases inner t with
        | nil => exact ⟨_, _, rfl⟩
        | cons a b => exact ⟨_, _, rfl⟩
      rw [hq] at ih ⊢
      rw [dec, if_neg h, ih]
      simp

theorem dec_le (l : List UInt8) : (dec l).1 ≤ l.length := by
  fun_induction dec l <;> simp_all <;> omega

/-- What 'plain' knows behind k rounds. -/
def PlInv (t : List UInt8) (k fr : Nat) (acc : List UInt8) : Prop :=
  (∃ t1 t2, t = t1 ++ t2 ∧ k = (inner t1).length ∧ fr ≤ k ∧ acc ++ ((inner t).take k).drop fr = t1) ∨
  (∃ t1 t2, t = t1 ++ 0 :: t2 ∧ k = (inner t1).length + 1 ∧ fr = k + 1 ∧ acc = t1 ++ [0])

theorem length_inner_ge (t : List UInt8) : t.length ≤ (inner t).length := by rw [inner_length]; omega

theorem PlInv.zero (t : List UInt8) : PlInv t 0 0 [] := .inl ⟨[], t, rfl, rfl, Nat.le_refl _, rfl⟩

theorem PlInv.other {t : List UInt8} {k fr : Nat} {acc : List UInt8} (h : PlInv t k fr acc) (hk : k < (inner t).length) (hc : (inner t)[k] ≠ 0) : PlInv t (k + 1) fr acc := by
  rcases h with ⟨t1, t2, rfl, rfl, h3, h4⟩ | ⟨t1, t2, rfl, rfl, rfl, rfl⟩
  · cases t2 with
    | nil => simp at hk
    | cons c t2 =>
      by_cases h0 : c = 0
      · exact absurd (by simp [inner_append, inner, h0]) hc
      · refine .inl ⟨t1 ++ [c], t2, by simp, by simp [inner_append, inner, h0], by omega, ?_⟩
        rw [List.take_succ_eq_append_getElem hk, List.drop_append_of_le_length (by simp; omega), ← List.append_assoc, h4]
        simp [inner_append, inner, h0]
  · refine .inl ⟨t1 ++ [0], t2, by simp, by simp [inner_append, inner], by omega, ?_⟩
    simp

theorem PlInv.null {t : List UInt8} {k fr : Nat} {acc : List UInt8} (h : PlInv t k fr acc) (hk : k < (inner t).length) (hc : (inner t)[k] = 0) :
    PlInv t (k + 1) (k + 2) (acc ++ ((inner t).drop fr).take (k + 1 - fr)) ∧ fr ≤ k ∧ k + 2 ≤ (inner t).length := by
  rcases h with ⟨t1, t2, rfl, rfl, h3, h4⟩ | ⟨t1, t2, rfl, rfl, rfl, rfl⟩
  · cases t2 with
    | nil => simp at hk
    | cons c t2 =>
      by_cases h0 : c = 0
      · subst h0
        refine ⟨.inr ⟨t1, t2, rfl, rfl, rfl, ?_⟩, h3, by simp [inner_append, inner]⟩
        rw [← List.drop_take, List.take_succ_eq_append_getElem hk, List.drop_append_of_le_length (by simp; omega), ← List.append_assoc, h4]
        simp [inner_append, inner]
      · exact absurd hc (by simp [inner_append, inner, h0])
  · exact absurd hc (by simp [inner_append, inner])

theorem PlInv.done {t : List UInt8} {fr : Nat} {acc : List UInt8} (h : PlInv t (inner t).length fr acc) : acc ++ (inner t).drop fr = t ∧ fr ≤ (inner t).length := by
  rcases h with ⟨t1, t2, rfl, h2, h3, h4⟩ | ⟨t1, t2, rfl, h2, h3, h4⟩
  · have : t2 = [] := by
      have h5 := length_inner_ge t2
      have h6 : (inner t2).length = 0 := by rw [inner_append, List.length_append] at h2; omega
      exact List.eq_nil_of_length_eq_zero (by omega)
    subst this
    simp at h3 h4 ⊢
    exact ⟨h4, h3⟩
  · exfalso
    simp [inner_append, inner] at h2

theorem PlInv.le {t : List UInt8} {k fr : Nat} {acc : List UInt8} (h : PlInv t k fr acc) (hk : k ≤ (inner t).length) : acc.length ≤ k ∧ (fr ≤ k → acc.length + (k - fr) ≤ k) := by
  rcases h with ⟨t1, t2, rfl, h2, h3, h4⟩ | ⟨t1, t2, rfl, h2, h3, h4⟩
  · have h5 := congrArg List.length h4
    have := length_inner_ge t1
    simp at h5
    omega
  · have := length_inner_ge t1
    subst h4
    simp
    omega

/-- The least text above all that begin with this one. -/
def nextL : List UInt8 → Option (List UInt8)
  | [] => none
  | c :: r => match nextL r with
    | some x => some (c :: x)
    | none => if c = 255 then none else some [c + 1]

theorem nextL_append_none (a b : List UInt8) (h : nextL b = none) : nextL (a ++ b) = nextL a := by
  induction a with
  | nil => simpa [nextL] using h
  | cons c r ih => simp only [List.cons_append, nextL]; rw [ih]
theorem nextL_append_some (a b x : List UInt8) (h : nextL b = some x) : nextL (a ++ b) = some (a ++ x) := by
  induction a with
  | nil => simpa using h
  | cons c r ih => simp only [List.cons_append, nextL]; rw [ih]
theorem nextL_last (l : List UInt8) (n : Nat) (hn : n < l.length) (h : nextL (l.drop (n + 1)) = none) (hc : l[n] ≠ 255) : nextL l = some (l.take n ++ [l[n] + 1]) := by
  have e : l = l.take n ++ l[n] :: l.drop (n + 1) := by simp
  have h2 : nextL (l[n] :: l.drop (n + 1)) = some [l[n] + 1] := by simp [nextL, h, hc]
  conv => lhs; rw [e]
  exact nextL_append_some _ _ _ h2
theorem nextL_high (l : List UInt8) (n : Nat) (hn : n < l.length) (h : nextL (l.drop (n + 1)) = none) (hc : l[n] = 255) : nextL (l.drop n) = none := by
  rw [List.drop_eq_getElem_cons hn]
  simp [nextL, h, hc]

/-- The order of bytes. -/
def cmpL : List UInt8 → List UInt8 → Int
  | [], [] => 0
  | [], _ :: _ => -1
  | _ :: _, [] => 1
  | a :: x, b :: y => if a < b then -1 else if b < a then 1 else cmpL x y

theorem cmpL_same (a : List UInt8) : cmpL a a = 0 := by
  induction a with
  | nil => rfl
  | cons c r ih => simp [cmpL, ih]
theorem cmpL_eq {a b : List UInt8} : cmpL a b = 0 ↔ a = b := by
  fun_induction cmpL a b <;> simp_all
  · rename_i h; intro e; subst e; simp at h
  · rename_i h; intro e; subst e; simp at h
  · rename_i h1 h2 _
    intro _
    exact UInt8.le_antisymm h2 h1
theorem cmpL_three (a b : List UInt8) : cmpL a b = -1 ∨ cmpL a b = 0 ∨ cmpL a b = 1 := by
  fun_induction cmpL a b <;> simp_all
theorem cmpL_neg (a b : List UInt8) : cmpL b a = - cmpL a b := by
  fun_induction cmpL a b <;> simp_all [cmpL]
  · rename_i h; exact UInt8.le_of_lt h
  · rename_i h1 h2 ih
    rw [if_neg (by simpa using h2), if_neg (by simpa using h1)]
theorem cmpL_append (p a b : List UInt8) : cmpL (p ++ a) (p ++ b) = cmpL a b := by
  induction p with
  | nil => rfl
  | cons c r ih => simp [cmpL, ih]
theorem cmpL_cons_ne (a b : UInt8) (x y : List UInt8) (h : a ≠ b) : cmpL (a :: x) (b :: y) = if (a.toNat : Int) < (b.toNat : Int) then -1 else if (b.toNat : Int) < (a.toNat : Int) then 1 else 0 := by
  have h' : a.toNat ≠ b.toNat := fun e => h (UInt8.toNat_inj.1 e)
  simp only [cmpL, UInt8.lt_iff_toNat_lt]
  by_cases h1 : a.toNat < b.toNat
  · rw [if_pos h1, if_pos (by omega)]
  · rw [if_neg h1, if_pos (by omega), if_neg (by omega), if_pos (by omega)]
theorem cmpL_ends (a b : List UInt8) (h : a = [] ∨ b = []) : cmpL a b = if (a.length : Int) < (b.length : Int) then -1 else if (b.length : Int) < (a.length : Int) then 1 else 0 := by
  cases a <;> cases b <;> simp_all [cmpL] <;> omega

/-- Begins a with b? -/
def beginsL (a b : List UInt8) : Bool := b.isPrefixOf a
theorem beginsL_take (a b : List UInt8) (_h : b.length ≤ a.length) : (a.take b.length == b) = beginsL a b := by
  rw [Bool.eq_iff_iff, beq_iff_eq, beginsL, List.isPrefixOf_iff_prefix, List.prefix_iff_eq_take]
  exact ⟨fun h => h.symm, fun h => h.symm⟩
theorem beginsL_short (a b : List UInt8) (h : ¬ b.length ≤ a.length) : beginsL a b = false := by
  rw [beginsL, Bool.eq_false_iff]
  intro hp
  rw [List.isPrefixOf_iff_prefix] at hp
  exact h hp.length_le

end Go.Vf
