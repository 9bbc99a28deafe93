/- LitBack's walk (contracts; nothing is claimed here). -/
import Derived.Test.YtffhbellpcneeaaLBeh
import Derived.Test.YtffhbellpcneeaaPrtO
namespace Go.Proofs.Ytffhbellpcneeaa
open Go.RowKit Go.Vf
theorem make_two (p : Prt) (hf : Fits p) (a : Option Addr) (c lo n₀ : Nat) (w : World) (hn₀ : n₀ ≤ w.heap.size) (hin : PIn w lo n₀ p a) :
    Calls Try.prog 10 #[pV p a c] w fun e w' => ∃ v E, e = .returned (.tuple #[v, .int .i64 E]) ∧ Below w.heap.size w w' ∧ Hid ((E = 0 ∧ may p = true ∧ dep p ≤ 16 ∧ VIn w' w.heap.size w'.heap.size v p) ∨ (E == 0) = false) := by
  refine (make_any p hf a c lo n₀ w hn₀ hin).mono ?_
  rintro e w' ⟨hb, h | h | h⟩
  · exact ⟨_, _, h.2, hb, .inr rfl⟩
  · exact ⟨_, _, h.2.2, hb, .inr rfl⟩
  · obtain ⟨h1, h2, v, h3, h4⟩ := h
    have hd : dep p ≤ 16 := by
      have := deeper_dep 16 p
      rw [h1] at this
      have := of_decide_eq_false this.symm
      omega
    exact ⟨v, 0, h3, hb, .inl ⟨rfl, h2, hd, h4⟩⟩
theorem txt_beq {p q : Prt} (hp : may p = true) (hq : may q = true) : ((bs (txt p)).toList == (bs (txt q)).toList) = eqP p q := by
  rw [bs_toList, bs_toList]
  by_cases h : p = q
  · subst h; rw [eqP_self]; simp
  · rw [eqP_ne h, beq_eq_false_iff_ne]; intro e; exact h (txt_inj hp hq e)

set_option maxHeartbeats 4000000 in
set_option maxRecDepth 20000 in
theorem lback_any (p q : Prt) (hf : Fits p) (hf2 : Fits q) (a a2 : Option Addr) (c c2 lo n₀ : Nat) (s : ByteArray) (hs : s.size < 9223372036854775808) (w : World) (hn₀ : n₀ ≤ w.heap.size) (hin : PIn w lo n₀ p a) (hin2 : PIn w lo n₀ q a2) :
    Calls Try.prog 5 #[pV p a c, pV q a2 c2, .string s] w fun e w' => e = .returned (.bool true) ∧ Below w.heap.size w w' := by
  have hb0 := Blk.new w 27 #[.int .u8 p.kind, .bool p.yes, .bool p.neg, .string p.mag, .string p.raw, .slice a p.items.length c]
  have hs0 := alloc_size w (.cells #[.int .u8 p.kind, .bool p.yes, .bool p.neg, .string p.mag, .string p.raw, .slice a p.items.length c] 27)
  have hB1 := Blk.new (w.alloc (.cells #[.int .u8 p.kind, .bool p.yes, .bool p.neg, .string p.mag, .string p.raw, .slice a p.items.length c] 27)) 27 #[.int .u8 q.kind, .bool q.yes, .bool q.neg, .string q.mag, .string q.raw, .slice a2 q.items.length c2]
  have hbA := (Below.refl _ (w.alloc (.cells #[.int .u8 p.kind, .bool p.yes, .bool p.neg, .string p.mag, .string p.raw, .slice a p.items.length c] 27))).alloc (Nat.le_refl _) (.cells #[.int .u8 q.kind, .bool q.yes, .bool q.neg, .string q.mag, .string q.raw, .slice a2 q.items.length c2] 27)
  have hP := hb0.old hbA
  have hb1 := ((Below.refl w.heap.size w).alloc (Nat.le_refl _) (.cells #[.int .u8 p.kind, .bool p.yes, .bool p.neg, .string p.mag, .string p.raw, .slice a p.items.length c] 27)).alloc (by rw [hs0]; omega) (.cells #[.int .u8 q.kind, .bool q.yes, .bool q.neg, .string q.mag, .string q.raw, .slice a2 q.items.length c2] 27)
  rw [hs0] at hB1
  have haw := awake_any ((w.alloc (.cells #[.int .u8 p.kind, .bool p.yes, .bool p.neg, .string p.mag, .string p.raw, .slice a p.items.length c] 27)).alloc (.cells #[.int .u8 q.kind, .bool q.yes, .bool q.neg, .string q.mag, .string q.raw, .slice a2 q.items.length c2] 27))
  have hle := hvy_le p hf 0 0 (by decide)
  have hle2 := hvy_le q hf2 0 0 (by decide)
  have hwt := fun w' h1 h2 => weight_any p hf a c 0 lo n₀ w' h1 h2 (by decide)
  have hwt2 := fun w' h1 h2 => weight_any q hf2 a2 c2 0 lo n₀ w' h1 h2 (by decide)
  have hmk := fun w' h1 h2 => make_two p hf a c lo n₀ w' h1 h2
  have hmk2 := fun w' h1 h2 => make_two q hf2 a2 c2 lo n₀ w' h1 h2
  unfold pV at hwt hmk hwt2 hmk2 ⊢
  have HF : Hid (Fits p) := hf
  have HF2 : Hid (Fits q) := hf2
  have HI : Hid (PIn w lo n₀ p a) := hin
  have HI2 : Hid (PIn w lo n₀ q a2) := hin2
  clear hf hin hf2 hin2 hb0 hbA hs0
  go_enter Try.func5, Try.ntmps5
  go_wp2_with fail
  generalize (w.alloc (.cells #[.int .u8 p.kind, .bool p.yes, .bool p.neg, .string p.mag, .string p.raw, .slice a p.items.length c] 27)).alloc (.cells #[.int .u8 q.kind, .bool q.yes, .bool q.neg, .string q.mag, .string q.raw, .slice a2 q.items.length c2] 27) = w1 at *
  refine haw.mono ?_
  rintro _ w2 ⟨rfl, hb2⟩
  have hw2 : Below w.heap.size w w2 := hb1.trans (hb2.mono hb1.size)
  have hP2 := hP.old hb2
  have hQ2 := hB1.old hb2
  obtain ⟨c0, c1, c2', c3, c4, c5⟩ := hP2.c6
  have h3 := hwt w2 (Nat.le_trans hn₀ hw2.size) (HI.out.keep hw2 hn₀)
  clear hwt haw hP hB1 hb2 hb1
  go_wp2_with fail
  refine h3.mono ?_
  rintro _ w3 ⟨rfl, hb3⟩
  have hw3 : Below w.heap.size w w3 := hw2.trans (hb3.mono hw2.size)
  have hP3 := hP2.old hb3
  have hQ3 := hQ2.old hb3
  clear c0 c1 c2' c3 c4 c5 h3 hP2 hQ2 hb3 hw2
  by_cases hbig : 134217728 < hvy p 0 0
  · have t : decide ((134217728 : Int) < ((hvy p 0 0 : Nat) : Int)) = true := decide_eq_true (by omega)
    generalize hvy p 0 0 = H at *
    clear hmk hmk2 hwt2
    go_wp2_with fail
    go_ret
    exact ⟨rfl, hw3⟩
  have t : decide ((134217728 : Int) < ((hvy p 0 0 : Nat) : Int)) = false := decide_eq_false (by omega)
  generalize hvy p 0 0 = H at *
  obtain ⟨c0, c1, c2', c3, c4, c5⟩ := hQ3.c6
  have h4 := hwt2 w3 (Nat.le_trans hn₀ hw3.size) (HI2.out.keep hw3 hn₀)
  clear hwt2
  go_wp2_with fail
  refine h4.mono ?_
  rintro _ w4 ⟨rfl, hb4⟩
  have hw4 : Below w.heap.size w w4 := hw3.trans (hb4.mono hw3.size)
  have hP4 := hP3.old hb4
  have hQ4 := hQ3.old hb4
  clear c0 c1 c2' c3 c4 c5 h4 hP3 hQ3 hb4 hw3
  by_cases hbig2 : 134217728 < hvy q 0 0
  · have t2 : decide ((134217728 : Int) < ((hvy q 0 0 : Nat) : Int)) = true := decide_eq_true (by omega)
    generalize hvy q 0 0 = H2 at *
    clear hmk hmk2
    go_wp2_with fail
    go_ret
    exact ⟨rfl, hw4⟩
  have t2 : decide ((134217728 : Int) < ((hvy q 0 0 : Nat) : Int)) = false := decide_eq_false (by omega)
  generalize hvy q 0 0 = H2 at *
  by_cases hbig3 : 134217728 < s.size
  · have t3 : decide ((134217728 : Int) < (s.size : Int)) = true := decide_eq_true (by omega)
    clear hmk hmk2
    go_wp2_with fail
    go_ret
    exact ⟨rfl, hw4⟩
  have t3 : decide ((134217728 : Int) < (s.size : Int)) = false := decide_eq_false (by omega)
  obtain ⟨c0, c1, c2', c3, c4, c5⟩ := hP4.c6
  have h5 := hmk w4 (Nat.le_trans hn₀ hw4.size) (HI.out.keep hw4 hn₀)
  clear hmk
  go_wp2_with fail
  refine h5.mono ?_
  rintro _ w5 ⟨v, E, rfl, hb5, HE⟩
  have hw5 : Below w.heap.size w w5 := hw4.trans (hb5.mono hw4.size)
  have hQ5 := hQ4.old hb5
  clear c0 c1 c2' c3 c4 c5 h5 hP4 hQ4
  obtain ⟨c0, c1, c2', c3, c4, c5⟩ := hQ5.c6
  have h6 := hmk2 w5 (Nat.le_trans hn₀ hw5.size) (HI2.out.keep hw5 hn₀)
  clear hmk2
  go_wp2_with fail
  refine h6.mono ?_
  rintro _ w6 ⟨v2, E2, rfl, hb6, HE2⟩
  have hw6 : Below w.heap.size w w6 := hw5.trans (hb6.mono hw5.size)
  clear c0 c1 c2' c3 c4 c5 h6 hQ5 HI HI2
  rcases HE.out with ⟨rfl, hm1, hd1, hv1⟩ | hne
  · rcases HE2.out with ⟨rfl, hm2, hd2, hv2⟩ | hne2
    · have HV1 : Hid (VIn w5 w4.heap.size w5.heap.size v p) := hv1
      have HV2 : Hid (VIn w6 w5.heap.size w6.heap.size v2 q) := hv2
      clear hv1 hv2 HE HE2
      go_upto_if 58 with fail
      go_cut [] from 53 (fun wx => Below w.heap.size w wx)
      case first =>
        have hv16 := HV1.out.old hb6 (Nat.le_refl _)
        have hpr1 := lprint_any v p hm1 _ _ w6 hb6.size hv16
        have hpr2 := fun w' (h1 : w6.heap.size ≤ w'.heap.size) h2 => lprint_any v2 q hm2 w5.heap.size w6.heap.size w' h1 h2
        have hsame := fun w' h1 h2 h3 h4 => Same_any p q HF.out HF2.out v v2 w4.heap.size w5.heap.size w5.heap.size w6.heap.size w' h1 h2 h3 h4
        have hbeq := txt_beq hm1 hm2
        have hz56 := hb6.size
        by_cases hl1 : (txt p).length ≤ 65536
        · have hprn1 : prnV p = .tuple #[.string (bs (txt p)), .int .i64 0] := by rw [prnV, if_pos hl1]
          rw [hprn1] at hpr1
          have hpt := parse_txt hm1 hd1 hl1
          have hsz1 : (bs (txt p)).size ≤ 65536 := by rw [bs_size]; exact hl1
          have hpar := fun w' => lparse_any (bs (txt p)) (by omega) w'
          rw [bs_data, hpt] at hpar
          have y1 : decide ((65536 : Int) < ((bs (txt p)).size : Int)) = false := decide_eq_false (by omega)
          by_cases hl2 : (txt q).length ≤ 65536
          · have hprn2 : prnV q = .tuple #[.string (bs (txt q)), .int .i64 0] := by rw [prnV, if_pos hl2]
            rw [hprn2] at hpr2
            clear hprn1 hprn2 hpt hl1 hl2 hv16
            generalize bs (txt p) = X at *
            generalize bs (txt q) = Y at *
            generalize eqP p q = R at *
            have y2 : (R != R) = false := by cases R <;> rfl
            go_wp2_with fail
            refine hpr1.mono ?_
            rintro _ w7 ⟨rfl, hb7⟩
            have hpr2' := hpr2 w7 hb7.size (HV2.out.old hb7 (Nat.le_refl _))
            clear hpr1 hpr2
            go_wp2_with fail
            refine hpr2'.mono ?_
            rintro _ w8 ⟨rfl, hb8⟩
            have hb68 : Below w6.heap.size w6 w8 := hb7.trans (hb8.mono hb7.size)
            have hsm := hsame w8 (Nat.le_trans hz56 hb68.size) hb68.size ((HV1.out.old hb6 (Nat.le_refl _)).old hb68 hz56) (HV2.out.old hb68 (Nat.le_refl _))
            clear hpr2' hsame
            go_wp2_with fail
            refine hsm.mono ?_
            rintro _ w9 ⟨rfl, hb9⟩
            have hb69 : Below w6.heap.size w6 w9 := hb68.trans (hb9.mono hb68.size)
            have hpar9 := hpar w9
            clear hsm hpar
            go_wp2_with fail
            refine hpar9.mono ?_
            rintro _ w10 ⟨hb10, x, rfl, hx⟩
            have hb610 : Below w6.heap.size w6 w10 := hb69.trans (hb10.mono hb69.size)
            have hsm2 := Same_any p p HF.out HF.out x v _ _ _ _ w10 (Nat.le_refl _) (Nat.le_trans hz56 hb610.size) hx ((HV1.out.old hb6 (Nat.le_refl _)).old hb610 hz56)
            rw [eqP_self] at hsm2
            clear hpar9 hx
            go_wp2_with fail
            refine hsm2.mono ?_
            rintro _ w11 ⟨rfl, hb11⟩
            go_wp2_with fail
            go_meet
            case rel => exact (hw6.trans (hb610.mono hw6.size)).trans (hb11.mono (Nat.le_trans hw6.size hb610.size))
          · have hprn2 : prnV q = .tuple #[.string ⟨#[]⟩, .int .i64 2] := by rw [prnV, if_neg hl2]
            rw [hprn2] at hpr2
            clear hprn1 hprn2 hpt hl1 hl2 hv16 hsame hbeq
            generalize bs (txt p) = X at *
            go_wp2_with fail
            refine hpr1.mono ?_
            rintro _ w7 ⟨rfl, hb7⟩
            have hpr2' := hpr2 w7 hb7.size (HV2.out.old hb7 (Nat.le_refl _))
            clear hpr1 hpr2
            go_wp2_with fail
            refine hpr2'.mono ?_
            rintro _ w9 ⟨rfl, hb9⟩
            have hb69 : Below w6.heap.size w6 w9 := hb7.trans (hb9.mono hb7.size)
            have hpar9 := hpar w9
            clear hpr2' hpar
            go_wp2_with fail
            refine hpar9.mono ?_
            rintro _ w10 ⟨hb10, x, rfl, hx⟩
            have hb610 : Below w6.heap.size w6 w10 := hb69.trans (hb10.mono hb69.size)
            have hsm2 := Same_any p p HF.out HF.out x v _ _ _ _ w10 (Nat.le_refl _) (Nat.le_trans hz56 hb610.size) hx ((HV1.out.old hb6 (Nat.le_refl _)).old hb610 hz56)
            rw [eqP_self] at hsm2
            clear hpar9 hx
            go_wp2_with fail
            refine hsm2.mono ?_
            rintro _ w11 ⟨rfl, hb11⟩
            go_wp2_with fail
            go_meet
            case rel => exact (hw6.trans (hb610.mono hw6.size)).trans (hb11.mono (Nat.le_trans hw6.size hb610.size))
        · have hprn1 : prnV p = .tuple #[.string ⟨#[]⟩, .int .i64 2] := by rw [prnV, if_neg hl1]
          rw [hprn1] at hpr1
          obtain ⟨Y, E3, hprn2⟩ : ∃ Y E3, prnV q = .tuple #[.string Y, .int .i64 E3] := by
            unfold prnV; split
            · exact ⟨_, _, rfl⟩
            · exact ⟨_, _, rfl⟩
          rw [hprn2] at hpr2
          clear hprn1 hprn2 hl1 hv16 hsame hbeq
          go_wp2_with fail
          refine hpr1.mono ?_
          rintro _ w7 ⟨rfl, hb7⟩
          have hpr2' := hpr2 w7 hb7.size (HV2.out.old hb7 (Nat.le_refl _))
          clear hpr1 hpr2
          go_wp2_with fail
          refine hpr2'.mono ?_
          rintro _ w8 ⟨rfl, hb8⟩
          have hb68 : Below w6.heap.size w6 w8 := hb7.trans (hb8.mono hb7.size)
          clear hpr2'
          go_wp2_with fail
          go_meet
          case rel => exact hw6.trans (hb68.mono hw6.size)
      case rest =>
        clear hw6 hb6 hb5 hw5 hw4
        have hpar := lparse_any s (by omega) wc
        cases hp0 : parseL s.data.toList with
        | error x =>
          obtain ⟨why, i⟩ := x
          rw [hp0] at hpar
          rcases parseL_err hp0 with ⟨rfl, hi1, hi2⟩ | ⟨rfl, rfl, hi2⟩
          · rw [← Lib.size_eq] at hi1 hi2
            have y1 : decide ((0 : Int) ≤ (i : Int)) = true := decide_eq_true (by omega)
            have y2 : decide ((i : Int) ≤ (s.size : Int)) = true := decide_eq_true (by omega)
            have y3 : decide (i ≤ s.size) = true := decide_eq_true (by omega)
            clear hp0
            go_wp2_with fail
            refine hpar.mono ?_
            rintro _ w9 ⟨hb9, rfl⟩
            go_wp2_with fail
            go_ret
            exact ⟨rfl, hcut.trans (hb9.mono hcut.size)⟩
          · rw [← Lib.size_eq] at hi2
            have y2 : decide ((65536 : Int) < (s.size : Int)) = true := decide_eq_true (by omega)
            have y3 : decide (65536 < s.size) = true := decide_eq_true (by omega)
            have y4 : decide ((0 : Int) ≤ (s.size : Int)) = true := decide_eq_true (by omega)
            clear hp0
            go_wp2_with fail
            refine hpar.mono ?_
            rintro _ w9 ⟨hb9, rfl⟩
            go_wp2_with fail
            go_ret
            exact ⟨rfl, hcut.trans (hb9.mono hcut.size)⟩
        | ok pp =>
          rw [hp0] at hpar
          obtain ⟨j1, j2, j3, j4⟩ := parse_inv hp0
          have hprn : prnV pp = .tuple #[.string s, .int .i64 0] := by
            rw [prnV, ← j1, if_pos j4, bs_of]
          have hpri := fun v' lo' n' w' h1 h2 => lprint_any v' pp j2 lo' n' w' h1 h2
          rw [hprn] at hpri
          have y1 : (s.toList == s.toList) = true := by simp
          clear hp0 j1 j2 j3 j4 hprn
          go_wp2_with fail
          refine hpar.mono ?_
          rintro _ w9 ⟨hb9, vv, rfl, hvv⟩
          have hpri9 := hpri vv _ _ w9 (Nat.le_refl _) hvv
          clear hpri hvv hpar
          go_wp2_with fail
          refine hpri9.mono ?_
          rintro _ w10 ⟨rfl, hb10⟩
          go_wp2_with fail
          go_ret
          exact ⟨rfl, (hcut.trans (hb9.mono hcut.size)).trans (hb10.mono (Nat.le_trans hcut.size hb9.size))⟩
    · clear HE HE2 hv1
      have hpar := lparse_any s (by omega) w6
      cases hp0 : parseL s.data.toList with
      | error x =>
        obtain ⟨why, i⟩ := x
        rw [hp0] at hpar
        rcases parseL_err hp0 with ⟨rfl, hi1, hi2⟩ | ⟨rfl, rfl, hi2⟩
        · rw [← Lib.size_eq] at hi1 hi2
          have y1 : decide ((0 : Int) ≤ (i : Int)) = true := decide_eq_true (by omega)
          have y2 : decide ((i : Int) ≤ (s.size : Int)) = true := decide_eq_true (by omega)
          have y3 : decide (i ≤ s.size) = true := decide_eq_true (by omega)
          clear hp0
          go_wp2_with fail
          refine hpar.mono ?_
          rintro _ w9 ⟨hb9, rfl⟩
          go_wp2_with fail
          go_ret
          exact ⟨rfl, hw6.trans (hb9.mono hw6.size)⟩
        · rw [← Lib.size_eq] at hi2
          have y2 : decide ((65536 : Int) < (s.size : Int)) = true := decide_eq_true (by omega)
          have y3 : decide (65536 < s.size) = true := decide_eq_true (by omega)
          have y4 : decide ((0 : Int) ≤ (s.size : Int)) = true := decide_eq_true (by omega)
          clear hp0
          go_wp2_with fail
          refine hpar.mono ?_
          rintro _ w9 ⟨hb9, rfl⟩
          go_wp2_with fail
          go_ret
          exact ⟨rfl, hw6.trans (hb9.mono hw6.size)⟩
      | ok pp =>
        rw [hp0] at hpar
        obtain ⟨j1, j2, j3, j4⟩ := parse_inv hp0
        have hprn : prnV pp = .tuple #[.string s, .int .i64 0] := by
          rw [prnV, ← j1, if_pos j4, bs_of]
        have hpri := fun v' lo' n' w' h1 h2 => lprint_any v' pp j2 lo' n' w' h1 h2
        rw [hprn] at hpri
        have y1 : (s.toList == s.toList) = true := by simp
        clear hp0 j1 j2 j3 j4 hprn
        go_wp2_with fail
        refine hpar.mono ?_
        rintro _ w9 ⟨hb9, vv, rfl, hvv⟩
        have hpri9 := hpri vv _ _ w9 (Nat.le_refl _) hvv
        clear hpri hvv hpar
        go_wp2_with fail
        refine hpri9.mono ?_
        rintro _ w10 ⟨rfl, hb10⟩
        go_wp2_with fail
        go_ret
        exact ⟨rfl, (hw6.trans (hb9.mono hw6.size)).trans (hb10.mono (Nat.le_trans hw6.size hb9.size))⟩
  · clear HE HE2
    have hpar := lparse_any s (by omega) w6
    cases hp0 : parseL s.data.toList with
    | error x =>
      obtain ⟨why, i⟩ := x
      rw [hp0] at hpar
      rcases parseL_err hp0 with ⟨rfl, hi1, hi2⟩ | ⟨rfl, rfl, hi2⟩
      · rw [← Lib.size_eq] at hi1 hi2
        have y1 : decide ((0 : Int) ≤ (i : Int)) = true := decide_eq_true (by omega)
        have y2 : decide ((i : Int) ≤ (s.size : Int)) = true := decide_eq_true (by omega)
        have y3 : decide (i ≤ s.size) = true := decide_eq_true (by omega)
        clear hp0
        go_wp2_with fail
        refine hpar.mono ?_
        rintro _ w9 ⟨hb9, rfl⟩
        go_wp2_with fail
        go_ret
        exact ⟨rfl, hw6.trans (hb9.mono hw6.size)⟩
      · rw [← Lib.size_eq] at hi2
        have y2 : decide ((65536 : Int) < (s.size : Int)) = true := decide_eq_true (by omega)
        have y3 : decide (65536 < s.size) = true := decide_eq_true (by omega)
        have y4 : decide ((0 : Int) ≤ (s.size : Int)) = true := decide_eq_true (by omega)
        clear hp0
        go_wp2_with fail
        refine hpar.mono ?_
        rintro _ w9 ⟨hb9, rfl⟩
        go_wp2_with fail
        go_ret
        exact ⟨rfl, hw6.trans (hb9.mono hw6.size)⟩
    | ok pp =>
      rw [hp0] at hpar
      obtain ⟨j1, j2, j3, j4⟩ := parse_inv hp0
      have hprn : prnV pp = .tuple #[.string s, .int .i64 0] := by
        rw [prnV, ← j1, if_pos j4, bs_of]
      have hpri := fun v' lo' n' w' h1 h2 => lprint_any v' pp j2 lo' n' w' h1 h2
      rw [hprn] at hpri
      have y1 : (s.toList == s.toList) = true := by simp
      clear hp0 j1 j2 j3 j4 hprn
      go_wp2_with fail
      refine hpar.mono ?_
      rintro _ w9 ⟨hb9, vv, rfl, hvv⟩
      have hpri9 := hpri vv _ _ w9 (Nat.le_refl _) hvv
      clear hpri hvv hpar
      go_wp2_with fail
      refine hpri9.mono ?_
      rintro _ w10 ⟨rfl, hb10⟩
      go_wp2_with fail
      go_ret
      exact ⟨rfl, (hw6.trans (hb9.mono hw6.size)).trans (hb10.mono (Nat.le_trans hw6.size hb9.size))⟩
end Go.Proofs.Ytffhbellpcneeaa
