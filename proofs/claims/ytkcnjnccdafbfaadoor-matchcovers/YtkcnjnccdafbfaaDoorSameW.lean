/- What MatchSame does (a contract; nothing is claimed here). -/
import Derived.Test.YtkcnjnccdafbfaaDoorJ16
import Derived.Test.YtkcnjnccdafbfaaDoorJ17
import Derived.Test.YtkcnjnccdafbfaaDoorSamQ
namespace Go.Proofs.YtkcnjnccdafbfaaDoor
open Go.RowKit Go.Vf Go.Maps

theorem formed_exists {t : List UInt8} {L : List Mk} {F : Int → List Int} (h : loadR t = .ok (L, F)) (zs : List Int) : ∃ X, Formed L F zs X := by
  obtain ⟨X, h1, h2, h3⟩ := form_exists (cls := classAt L) (fun q => (load_cls h q).1) (flatR F zs)
  exact ⟨X, h1, h3, h2⟩
theorem few_len {w : World} {bd : Nat} {L : List Mk} {F : Int → List Int} (h : DataAt w bd L F) {zs X : List Int} (hf : (flatR F zs).length ≤ 1000) (hX : Formed L F zs X) : zs.length ≤ 1000 ∧ X.length ≤ 1000 := by
  have := flat_len h zs
  have := hX.len
  omega
theorem elsOf_len {E : List Ent} (hok : ∀ e ∈ E, EntOk e) : ∀ rs : List (List Int), (elsOf E rs).length ≤ 16 * rs.length := by
  intro rs
  induction rs with
  | nil => simp [elsOf]
  | cons r t ih =>
    have := elOf_len hok r
    have e : elsOf E (r :: t) = elOf E r ++ elsOf E t := rfl
    rw [e, List.length_append, List.length_cons]
    omega
/-- Rows that were just made are told the same. -/
theorem rows_self {w : World} {va vb : Value} {rs : List (List Int)} (ha : RIn w va rs) (hb : RIn w vb rs) (n : Nat) (h1 : rs.length ≤ n) (h2 : ∀ r ∈ rs, r.length ≤ n) (hn : n ≤ 4611686018427387904) : Calls Tryd.prog 16 #[va, vb] w fun e w' => e = .returned (.bool true) ∧ Below w.heap.size w w' := by
  have := rows_any ha hb (by omega) (by omega) (fun r hr => by have := h2 r hr; omega) (fun r hr => by have := h2 r hr; omega)
  rw [show decide (rs = rs) = true by simp] at this
  exact this

set_option maxHeartbeats 16000000 in
set_option maxRecDepth 20000 in
theorem same_walk (m e : ByteArray) (hm : m.size ≤ 281474976710656) (he : e.size ≤ 281474976710656) (a b : Option Addr) (k c k2 c2 : Nat) (zs ys : List Int) (w : World) (hg : Glob w) (ha : Lst w a k c zs) (hb : Lst w b k2 c2 ys) :
    Calls Tryd.prog 4 #[.agg #[.string m, .string e], .slice a k c, .slice b k2 c2] w fun r w' => r = .returned (.bool true) ∧ Below w.heap.size w w' := by
  obtain ⟨w0, hw0, hb0, c0, c1⟩ := box_new w m e
  have hbo := both_any m e hm he w0 (hg.below hb0)
  go_enter Tryd.func4, Tryd.ntmps4
  go_wp2_with fail
  rw [← hw0]
  clear hw0
  go_wp2_with fail
  refine hbo.mono ?_
  rintro r w1 ⟨hb1, hcase⟩
  have hb01 := hb0.trans (hb1.mono hb0.size)
  have hg1 := hg.below hb01
  clear hbo c0 c1
  rcases hcase with ⟨L, F, E, bd, T, rfl, hL, hT, hd, me, ml, val, ht⟩ | ⟨d, t, rfl, _⟩
  · have ha1 := ha.below hb01
    have hy1 := hb.below hb01
    have hf1 := few_any hd ha1
    by_cases hfa : (flatR F zs).length ≤ 1000
    · rw [decide_eq_true hfa] at hf1
      go_wp2_with fail
      refine hf1.mono ?_
      rintro r w2 ⟨rfl, hb2⟩
      have hb02 := hb01.trans (hb2.mono hb01.size)
      have hd2 := hd.below hb2
      have ht2 := ht.below hb2
      have ha2 := ha1.below hb2
      have hy2 := hy1.below hb2
      have hg2 := hg1.below hb2
      have hf2 := few_any hd2 hy2
      have htok := ht.ok
      clear hf1 ha1 hy1 hd ht hg1 hb01 hb1 hb2 hb0
      by_cases hfb : (flatR F ys).length ≤ 1000
      · rw [decide_eq_true hfb] at hf2
        go_wp2_with fail
        refine hf2.mono ?_
        rintro r w3 ⟨rfl, hb3⟩
        have hb03 := hb02.trans (hb3.mono hb02.size)
        have hd3 := hd2.below hb3
        have ht3 := ht2.below hb3
        have hg3 := hg2.below hb3
        obtain ⟨X, hX⟩ := formed_exists hL zs
        obtain ⟨Y, hY⟩ := formed_exists hL ys
        have hXl := few_len hd3 hfa hX
        have hYl := few_len hd3 hfb hY
        have ha3 := (ha2.below hb3).numb (by omega)
        have hy3 := (hy2.below hb3).numb (by omega)
        have hss := stepsD_length (cls := classAt L) (fnd := fndT E) X
        have hsh := stepsD_short (cls := classAt L) (fnd := fndT E) X
        clear hf2 ha2 hy2 hd2 ht2 hg2 hb02 hb3
        go_wp2_with fail
        refine (steps_any hL hd3 ht3 ha3 hX.form (by omega)).mono ?_
        rintro r w4 ⟨v4, rfl, hr4, hb4⟩
        have hb04 := hb03.trans (hb4.mono hb03.size)
        have hd4 := hd3.below hb4
        have ht4 := ht3.below hb4
        have hg4 := hg3.below hb4
        have ha4 := ha3.below hb4
        have hy4 := hy3.below hb4
        have R4 := hr4.rin
        clear hd3 ht3 hg3 ha3 hy3 hb03 hb4 hr4
        go_wp2_with fail
        refine (form_load hL hd4 ha4).mono ?_
        intro r w5 hpost
        obtain ⟨gx, kx, cx, X', rfl, hownX, hX', hb5⟩ := hpost.formed
        obtain rfl : X' = X := FormOf.same hX'.form hX.form
        have hb05 := hb04.trans (hb5.mono hb04.size)
        have hd5 := hd4.below hb5
        have ht5 := ht4.below hb5
        have hg5 := hg4.below hb5
        have ha5 := ha4.below hb5
        have hy5 := hy4.below hb5
        have R5 := R4.go hb5
        have hnX := hownX.numb (formed_in hL ha4.int hX) (by omega)
        clear hd4 ht4 hg4 ha4 hy4 hb04 hb5 R4 hpost hownX hX'
        go_wp2_with fail
        refine (steps_any hL hd5 ht5 hnX (hX.self hL) (by omega)).mono ?_
        rintro r w6 ⟨v6, rfl, hr6, hb6⟩
        have hb06 := hb05.trans (hb6.mono hb05.size)
        have hd6 := hd5.below hb6
        have ht6 := ht5.below hb6
        have hg6 := hg5.below hb6
        have ha6 := ha5.below hb6
        have hy6 := hy5.below hb6
        have R6 := R5.go hb6
        have Q6 := hr6.rin
        clear hd5 ht5 hg5 ha5 hy5 hb05 hb6 R5 hr6 hnX
        go_wp2_with fail
        refine (rows_self Q6 R6 1000 (by omega) (fun r hr => by have := hsh r hr; omega) (by omega)).mono ?_
        rintro r w7 ⟨rfl, hb7⟩
        have hb07 := hb06.trans (hb7.mono hb06.size)
        have hd7 := hd6.below hb7
        have ht7 := ht6.below hb7
        have hg7 := hg6.below hb7
        have ha7 := ha6.below hb7
        have hy7 := hy6.below hb7
        have R7 := R6.go hb7
        clear hd6 ht6 hg6 ha6 hy6 hb06 hb7 R6 Q6
        go_wp2_with fail
        refine (same_load hL hd7 ha7 hy7 hX.form (by omega) hY.form (by omega)).mono ?_
        rintro r w8 ⟨rfl, hb8⟩
        have hb08 := hb07.trans (hb8.mono hb07.size)
        have hd8 := hd7.below hb8
        have ht8 := ht7.below hb8
        have hg8 := hg7.below hb8
        have ha8 := ha7.below hb8
        have hy8 := hy7.below hb8
        have R8 := R7.go hb8
        clear hd7 ht7 hg7 ha7 hy7 hb07 hb8 R7
        by_cases hXY : X' = Y
        · rw [decide_eq_true hXY]
          subst hXY
          go_wp2_with fail
          refine (awake_any w8 hg8).mono ?_
          rintro r w9 ⟨rfl, hb9⟩
          have hb09 := hb08.trans (hb9.mono hb08.size)
          have hd9 := hd8.below hb9
          have ht9 := ht8.below hb9
          have ha9 := ha8.below hb9
          have hy9 := hy8.below hb9
          have R9 := R8.go hb9
          clear hd8 ht8 hg8 ha8 hy8 hb08 hb9 R8
          go_wp2_with fail
          refine (steps_any hL hd9 ht9 hy9 hY.form (by omega)).mono ?_
          rintro r w10 ⟨v10, rfl, hr10, hb10⟩
          have hb010 := hb09.trans (hb10.mono hb09.size)
          have hd10 := hd9.below hb10
          have ht10 := ht9.below hb10
          have ha10 := ha9.below hb10
          have hy10 := hy9.below hb10
          have R10 := R9.go hb10
          have Q10 := hr10.rin
          clear hd9 ht9 ha9 hy9 hb09 hb10 R9 hr10
          go_wp2_with fail
          refine (rows_self Q10 R10 1000 (by omega) (fun r hr => by have := hsh r hr; omega) (by omega)).mono ?_
          rintro r w11 ⟨rfl, hb11⟩
          have hb011 := hb010.trans (hb11.mono hb010.size)
          have hd11 := hd10.below hb11
          have ht11 := ht10.below hb11
          have ha11 := ha10.below hb11
          have hy11 := hy10.below hb11
          clear hd10 ht10 ha10 hy10 hb010 hb11 R10 Q10
          go_wp2_with fail
          refine (elements_any hL hd11 ht11 ha11 hX.form (by omega) (by omega)).mono ?_
          rintro r w12 ⟨v12, rfl, he12, hb12⟩
          have hb012 := hb011.trans (hb12.mono hb011.size)
          have hd12 := hd11.below hb12
          have ht12 := ht11.below hb12
          have hy12 := hy11.below hb12
          clear hd11 ht11 ha11 hy11 hb011
          go_wp2_with fail
          refine (elements_any hL hd12 ht12 hy12 hY.form (by omega) (by omega)).mono ?_
          rintro r w13 ⟨v13, rfl, he13, hb13⟩
          have hb013 := hb012.trans (hb13.mono hb012.size)
          have e12 : Els w13.heap.size w13 v12 _ := EOwn.els (own_after he12 hb13)
          have e13 := EOwn.els he13
          have hle := elsOf_len htok (stepsD (classAt L) (fndT E) X')
          have hse := sameEls_q _ _ _ _ _ _ w13 e12 e13 (by omega) (by omega)
          rw [show ∀ l : List El, decide (l = l) = true from fun l => by simp] at hse
          clear he12 he13 e12 e13
          go_wp2_with fail
          refine hse.mono ?_
          rintro r w14 ⟨rfl, n14, rfl⟩
          go_wp2
          go_ret
          exact ⟨rfl, hb013.trans ((below_drewQ w13 n14).mono hb013.size)⟩
        · rw [decide_eq_false hXY]
          go_wp2_with fail
          refine (awake_any w8 hg8).mono ?_
          rintro r w9 ⟨rfl, hb9⟩
          go_wp2_with fail
          go_ret
          exact ⟨rfl, hb08.trans (hb9.mono hb08.size)⟩
      · rw [decide_eq_false hfb] at hf2
        go_wp2_with fail
        refine hf2.mono ?_
        rintro r w3 ⟨rfl, hb3⟩
        have hb03 := hb02.trans (hb3.mono hb02.size)
        go_wp2_with fail
        refine (awake_any w3 (hg2.below hb3)).mono ?_
        rintro r w4 ⟨rfl, hb4⟩
        go_wp2_with fail
        go_ret
        exact ⟨rfl, hb03.trans (hb4.mono hb03.size)⟩
    · rw [decide_eq_false hfa] at hf1
      go_wp2_with fail
      refine hf1.mono ?_
      rintro r w2 ⟨rfl, hb2⟩
      have hb02 := hb01.trans (hb2.mono hb01.size)
      go_wp2_with fail
      refine (awake_any w2 (hg1.below hb2)).mono ?_
      rintro r w3 ⟨rfl, hb3⟩
      go_wp2_with fail
      go_ret
      exact ⟨rfl, hb02.trans (hb3.mono hb02.size)⟩
  · go_wp2_with fail
    refine (awake_any w1 hg1).mono ?_
    rintro r w2 ⟨rfl, hb2⟩
    go_wp2_with fail
    go_ret
    exact ⟨rfl, hb01.trans (hb2.mono hb01.size)⟩
end Go.Proofs.YtkcnjnccdafbfaaDoor
