/- The walk of RekeyMaps (contracts; nothing is claimed here). -/
import Derived.Test.YtnjfkijekohdkaaDoorKMpo
import Derived.Test.YtnjfkijekohdkaaDoorKAwk
import Derived.Test.YtnjfkijekohdkaaDoorJ3
import Derived.Test.YtnjfkijekohdkaaDoorTel2
import Derived.Test.YtnjfkijekohdkaaDoorKEnv
namespace Go.Proofs.YtnjfkijekohdkaaDoor
open Go.RowKit Go.Vf

/-- Two new blocks. -/
theorem two_new (w : World) (t u : TypeId) (cs ds : Array Value) : Below w.heap.size w ((w.alloc (.cells cs t)).alloc (.cells ds u)) ∧ Blk ((w.alloc (.cells cs t)).alloc (.cells ds u)) w.heap.size t cs ∧ Blk ((w.alloc (.cells cs t)).alloc (.cells ds u)) (w.heap.size + 1) u ds ∧ ((w.alloc (.cells cs t)).alloc (.cells ds u)).heap.size = w.heap.size + 2 := by
  have b1 := (Below.refl w.heap.size w).alloc (Nat.le_refl _) (.cells cs t)
  have k1 := Blk.new w t cs
  have s1 := alloc_size w (.cells cs t)
  generalize w.alloc (.cells cs t) = x at *
  have b2 := (Below.refl x.heap.size x).alloc (Nat.le_refl _) (.cells ds u)
  have k2 := Blk.new x u ds
  have s2 := alloc_size x (.cells ds u)
  rw [s1] at k2 s2
  exact ⟨b1.trans (b2.mono b1.size), k1.old b2, k2, s2⟩
theorem tell_tup {qs : List Prt} {qn : Nat} {v : Value} {w : World} (hm : may (tupP qs) = true) (hq : qs.length = qn) (h : VIn w 0 w.heap.size v (tupP qs)) :
    Calls Tryd.prog 17 #[v] w fun e w' => ∃ a c, e = .returned (.agg #[.int .u8 7, .bool false, .bool false, .string ⟨#[]⟩, .string ⟨#[]⟩, .slice a qn c]) ∧ WIn w' w.heap.size w'.heap.size (tupP qs) a c ∧ Below w.heap.size w w' := by
  subst hq
  exact tell_two (tupP qs) hm v 0 w.heap.size w (Nat.le_refl _) h
theorem same_tup {qs : List Prt} {qn : Nat} {a b : Option Addr} {c d lo1 n1 lo2 n2 : Nat} {w : World} (hf : Fits (tupP qs)) (hq : qs.length = qn) (h1 : n1 ≤ w.heap.size) (h2 : n2 ≤ w.heap.size) (hp : PIn w lo1 n1 (tupP qs) a) (hp2 : PIn w lo2 n2 (tupP qs) b) :
    Calls Tryd.prog 18 #[.agg #[.int .u8 7, .bool false, .bool false, .string ⟨#[]⟩, .string ⟨#[]⟩, .slice a qn c], .agg #[.int .u8 7, .bool false, .bool false, .string ⟨#[]⟩, .string ⟨#[]⟩, .slice b qn d]] w fun e w' => e = .returned (.bool true) ∧ Below w.heap.size w w' := by
  subst hq
  have h := rsame_any (tupP qs) hf (tupP qs) hf a b c d lo1 n1 lo2 n2 w h1 h2 hp hp2
  rw [eqP_self] at h
  exact h
theorem write_tup {qs : List Prt} {qn : Nat} {a : Option Addr} {c lo n : Nat} {w : World} (hm : may (tupP qs) = true) (hq : qs.length = qn) (h1 : lo ≤ n) (h2 : n ≤ w.heap.size) (h : WIn w lo n (tupP qs) a c) :
    Calls Tryd.prog 16 #[.agg #[.int .u8 7, .bool false, .bool false, .string ⟨#[]⟩, .string ⟨#[]⟩, .slice a qn c]] w fun e w' => e = .returned (.tuple #[]) ∧ Wrt lo n w w' := by
  subst hq
  exact write_may (tupP qs) hm a c lo n w h1 h2 h
set_option maxHeartbeats 16000000 in
set_option maxRecDepth 20000 in
theorem maps_any (l : List (Int × Prt)) (p : Prt) (hl : l.length ≤ 281474976710656) (hf : Fits p) (hfl : ∀ s ∈ l, Fits s.2) (al a : Option Addr) (cl c : Nat) (en : Addr) (w : World) (hE : EnvK w en) (hin : PIn w 0 w.heap.size p a) (hsr : SrIn w 0 w.heap.size al l) :
    Calls Tryd.prog 4 #[.slice al l.length cl, .agg #[.int .u8 p.kind, .bool p.yes, .bool p.neg, .string p.mag, .string p.raw, .slice a p.items.length c]] w fun e w' => e = .returned (.bool true) ∧ Below w.heap.size w w' := by
  have hb1 := (Below.refl w.heap.size w).alloc (Nat.le_refl _) (.cells #[.int .u8 p.kind, .bool p.yes, .bool p.neg, .string p.mag, .string p.raw, .slice a p.items.length c] 29)
  have hB1 := Blk.new w 29 #[.int .u8 p.kind, .bool p.yes, .bool p.neg, .string p.mag, .string p.raw, .slice a p.items.length c]
  obtain ⟨W1, hw1⟩ : ∃ W1, w.alloc (.cells #[.int .u8 p.kind, .bool p.yes, .bool p.neg, .string p.mag, .string p.raw, .slice a p.items.length c] 29) = W1 := ⟨_, rfl⟩
  rw [hw1] at hb1 hB1
  have HIN : Hid (PIn W1 0 w.heap.size p a) := hin.keep hb1 (Nat.le_refl _)
  have HSR : Hid (SrIn W1 0 w.heap.size al l) := hsr.keep hb1 (Nat.le_refl _)
  have HE : Hid (EnvK W1 en) := hE.old hE.two hb1
  have HF : Hid (Fits p) := hf
  have HFL : Hid (∀ s ∈ l, Fits s.2) := hfl
  have HB1 : Hid (Blk W1 w.heap.size 29 #[.int .u8 p.kind, .bool p.yes, .bool p.neg, .string p.mag, .string p.raw, .slice a p.items.length c]) := hB1
  have hz1 : w.heap.size < W1.heap.size := hB1.lt
  have HW1 : Hid (Below w.heap.size w W1) := hb1
  have HOK : Hid (∀ w', Below W1.heap.size W1 w' → Below w.heap.size w w') := fun w' h => HW1.out.trans (h.mono (Nat.le_of_lt hz1))
  have H7 : Hid (∀ w2, Below W1.heap.size W1 w2 → Calls Tryd.prog 7 #[.slice al l.length cl, .agg #[.int .u8 p.kind, .bool p.yes, .bool p.neg, .string p.mag, .string p.raw, .slice a p.items.length c]] w2 (VsE l p w2)) := fun w2 h2 =>
    vast_exact l p hl hf hfl al cl a c 0 w.heap.size w2 (Nat.le_trans (Nat.le_of_lt hz1) h2.size) (HIN.out.keep h2 (Nat.le_of_lt hz1)) (HSR.out.keep h2 (Nat.le_of_lt hz1))
  have H9 : Hid (∀ w2, Below W1.heap.size W1 w2 → Calls Tryd.prog 9 #[.agg #[.int .u8 p.kind, .bool p.yes, .bool p.neg, .string p.mag, .string p.raw, .slice a p.items.length c]] w2 fun e w' => e = .returned (.int .i64 (if deeper 16 p then 91 else if may p then 0 else 90)) ∧ Below w2.heap.size w2 w') := fun w2 h2 =>
    rmake_any p hf a c 0 w.heap.size w2 (Nat.le_trans (Nat.le_of_lt hz1) h2.size) (HIN.out.keep h2 (Nat.le_of_lt hz1))
  have H8 : Hid (∀ w2, Below W1.heap.size W1 w2 → Calls Tryd.prog 8 #[.agg #[.int .u8 p.kind, .bool p.yes, .bool p.neg, .string p.mag, .string p.raw, .slice a p.items.length c]] w2 fun e w' => Below w2.heap.size w2 w' ∧
      ((deeper 16 p = true ∧ e = .returned (.tuple #[.nilIface, .int .i64 91])) ∨ (deeper 16 p = false ∧ may p = false ∧ e = .returned (.tuple #[.nilIface, .int .i64 90])) ∨
        (deeper 16 p = false ∧ may p = true ∧ ∃ v, e = .returned (.tuple #[v, .int .i64 0]) ∧ VIn w' w2.heap.size w'.heap.size v p))) := fun w2 h2 =>
    make_any p hf a c 0 w.heap.size w2 (Nat.le_trans (Nat.le_of_lt hz1) h2.size) (HIN.out.keep h2 (Nat.le_of_lt hz1))
  obtain ⟨ll, hll⟩ : ∃ ll, l.length = ll := ⟨_, rfl⟩
  obtain ⟨ln, hln⟩ : ∃ ln, p.items.length = ln := ⟨_, rfl⟩
  have HLL : Hid (l.length = ll) := hll
  have HLN : Hid (p.items.length = ln) := hln
  rw [hll] at hl H7
  rw [hln] at H7 H8 H9 HB1 hw1
  rw [hll, hln]
  obtain ⟨z9, hz9⟩ : ∃ z9 : Int, (if deeper 16 p then 91 else if may p then 0 else 90) = z9 := ⟨_, rfl⟩
  have HZ9 : Hid ((if deeper 16 p then (91 : Int) else if may p then 0 else 90) = z9) := hz9
  rw [hz9] at H9
  clear hin hsr hE hf hfl hB1 hb1 hll hln hz9
  have hc := awake_any W1
  go_enter Tryd.func4, Tryd.ntmps4
  go_upto_region 1 with fail
  (try rw [hw1])
  clear hw1
  go_wp2_with fail
  refine hc.mono ?_
  clear hc
  rintro _ w2 ⟨rfl, hb2⟩
  obtain ⟨c0, c1, c2, c3, c4, c5⟩ := (HB1.out.old hb2).c6
  have hc := H7.out w2 hb2
  have HW2 : Hid (Below W1.heap.size W1 w2) := hb2
  clear hb2 H7
  go_wp2_with fail
  refine hc.mono ?_
  clear hc c0 c1 c2 c3 c4 c5
  rintro _ w3 ⟨bb, rfl, hb3, hvs⟩
  have hb13 : Below W1.heap.size W1 w3 := HW2.out.trans (hb3.mono HW2.out.size)
  obtain ⟨c0, c1, c2, c3, c4, c5⟩ := (HB1.out.old hb13).c6
  have hc := H8.out w3 hb13
  have HW3 : Hid (Below W1.heap.size W1 w3) := hb13
  clear hb3 hb13 H8 HW2
  cases bb with
  | true =>
    clear hc
    go_wp2_with fail
    go_ret
    exact ⟨rfl, HOK.out _ HW3⟩
  | false =>
  obtain ⟨hl4, -, -, hsw⟩ := hvs rfl
  have HSW : Hid (∀ s ∈ l, wt s.2 ≤ 536870912) := fun s hs => by have h1 := wt_w1 s.2; have h2 := (hsw s hs).2; omega
  have HL4 : Hid (l.length ≤ 4000) := hl4
  clear hvs hsw hl4
  go_wp2_with fail
  refine hc.mono ?_
  clear hc c0 c1 c2 c3 c4 c5
  rintro e w4 ⟨hb4, h4⟩
  obtain ⟨v, rfl, hv4⟩ : ∃ v, e = .returned (.tuple #[v, .int .i64 z9]) ∧ (z9 = 0 → may p = true ∧ deeper 16 p = false ∧ VIn w4 w3.heap.size w4.heap.size v p) := by
    rcases h4 with ⟨h1, rfl⟩ | ⟨h1, h2, rfl⟩ | ⟨h1, h2, v, rfl, hv⟩
    · have e1 : z9 = 91 := by rw [← HZ9.out, if_pos h1]
      subst e1
      exact ⟨_, rfl, fun h => absurd h (by decide)⟩
    · have e1 : z9 = 90 := by rw [← HZ9.out, h1, h2]; rfl
      subst e1
      exact ⟨_, rfl, fun h => absurd h (by decide)⟩
    · have e1 : z9 = 0 := by rw [← HZ9.out, h1, h2]; rfl
      subst e1
      exact ⟨v, rfl, fun _ => ⟨h2, h1, hv⟩⟩
  have hb14 : Below W1.heap.size W1 w4 := HW3.out.trans (hb4.mono HW3.out.size)
  obtain ⟨c0, c1, c2, c3, c4, c5⟩ := (HB1.out.old hb14).c6
  have hc := H9.out w4 hb14
  have HW4 : Hid (Below W1.heap.size W1 w4) := hb14
  have HV4 : Hid (z9 = 0 → may p = true ∧ deeper 16 p = false ∧ VIn w4 w3.heap.size w4.heap.size v p) := hv4
  have hz34 := hb4.size
  clear h4 hb4 hv4 hb14 H9 HZ9
  go_wp2_with fail
  refine hc.mono ?_
  clear hc c0 c1 c2 c3 c4 c5
  rintro _ w5 ⟨rfl, hb5⟩
  have HW5 : Hid (Below W1.heap.size W1 w5) := HW4.out.trans (hb5.mono HW4.out.size)
  have HB45 : Hid (Below w4.heap.size w4 w5) := hb5
  have hz45 := hb5.size
  have hz13 := HW3.out.size
  clear hb5
  have t1 : (z9 != z9) = false := by simp [bne]
  have t1' : (z9 == z9) = true := by simp
  by_cases h90 : z9 = 0
  case neg =>
    have t2 : (z9 == 0) = false := beq_eq_false_iff_ne.2 h90
    have t2' : (z9 != 0) = true := by simp [bne, t2]
    go_wp2_with fail
    go_ret
    exact ⟨rfl, HOK.out _ HW5⟩
  subst h90
  obtain ⟨hm4, hd4, hv4⟩ := HV4.out rfl
  have hoc := oc_any l p HF.out hm4 hd4
  have HV5 : Hid (VIn w5 w3.heap.size w4.heap.size v p) := hv4.old HB45.out (Nat.le_refl _)
  have hc := slent_any l HL4.out HSW.out al cl w.heap.size w5 (Nat.le_trans (Nat.le_of_lt hz1) HW5.out.size) (HSR.out.keep HW5.out (Nat.le_of_lt hz1))
  rw [HLL.out] at hc
  clear hm4 hd4 hv4 HV4 HB45 HW4 HW3 t1 t1'
  go_wp2_with fail
  refine hc.mono ?_
  clear hc
  rintro e w6 ⟨A, C, P, h6, hS6, hM6, hb6⟩
  rw [HLL.out] at h6
  subst h6
  have HW6 : Hid (Below W1.heap.size W1 w6) := HW5.out.trans (hb6.mono HW5.out.size)
  have HS6 : Hid (SofS w6 w5.heap.size l.length l (l.length + 2) A C P) := hS6
  have HM6 : Hid (∀ j, l.length ≤ j → j < l.length + 2 → w6.cell? ⟨w5.heap.size, j * 7, none⟩ = some (.int .i64 (-99))) := hM6
  have HV6 : Hid (VIn w6 w3.heap.size w4.heap.size v p) := HV5.out.old hb6 hz45
  have hz56 : w5.heap.size < w6.heap.size := hS6.len.lt
  have HLT : Hid (ll ≤ 4000) := by rw [← HLL.out]; exact HL4.out
  clear hS6 hM6 hb6 HV5 HW5
  obtain ⟨c0, c1, c2, c3, c4, c5⟩ := (HB1.out.old HW6.out).c6
  rcases hoc with ⟨C0, m0, k0, hC0, hbad⟩ | ⟨qs, hgood⟩
  · have hc := rmap_bad hbad HFL.out al a cl c 0 w.heap.size w6 (Nat.le_trans (Nat.le_of_lt hz1) HW6.out.size) (HSR.out.keep HW6.out (Nat.le_of_lt hz1)) (HIN.out.keep HW6.out (Nat.le_of_lt hz1))
    rw [HLL.out, HLN.out] at hc
    have HBD : Hid (OcBad l p C0 m0 k0) := hbad
    have HC0 : Hid (C0 ≠ 0) := hC0
    clear hbad hC0
    go_wp2_with fail
    refine hc.mono ?_
    clear hc c0 c1 c2 c3 c4 c5
    rintro _ w7 ⟨hb7, rfl⟩
    have hz67 := hb7.size
    obtain ⟨hb8, hB8, hD8, hs8⟩ := two_new w7 29 40 #[.int .u8 0, .bool false, .bool false, .string ⟨#[]⟩, .string ⟨#[]⟩, .slice none 0 0] #[.int .i64 C0, .int .i64 m0, .slice none 0 0]
    go_upto_region 13 with fail
    generalize (w7.alloc (.cells #[.int .u8 0, .bool false, .bool false, .string ⟨#[]⟩, .string ⟨#[]⟩, .slice none 0 0] 29)).alloc (.cells #[.int .i64 C0, .int .i64 m0, .slice none 0 0] 40) = w8 at *
    have hb68 := hb7.trans (hb8.mono hz67)
    have HW8 : Hid (Below W1.heap.size W1 w8) := HW6.out.trans (hb68.mono HW6.out.size)
    have HV8 : Hid (VIn w8 w3.heap.size w4.heap.size v p) := HV6.out.old hb68 (by omega)
    have HS8 : Hid (SofS w8 w5.heap.size l.length l (l.length + 2) A C P) := HS6.out.old hb68
    have HM8 : Hid (∀ j, l.length ≤ j → j < l.length + 2 → w8.cell? ⟨w5.heap.size, j * 7, none⟩ = some (.int .i64 (-99))) := fun j h1 h2 => (hb68.cell (p := ⟨w5.heap.size, j * 7, none⟩) hz56).trans (HM6.out j h1 h2)
    have HD8 : Hid (Blk w8 (w7.heap.size + 1) 40 #[.int .i64 C0, .int .i64 m0, .slice none 0 0]) := hD8
    have hz68 := hb68.size
    clear hb7 hb8 hb68 hB8 hD8 hs8 HV6 HS6 HM6 HW6 hz67
    have hc := map_bad HBD.out HL4.out HFL.out (some ⟨w5.heap.size, 0, none⟩) (ll + 2) 0 w8.heap.size w3.heap.size w4.heap.size en w8 (HE.out.old HE.out.two HW8.out) (by omega) (Nat.le_refl _) HS8.out.srin v HV8.out
    rw [HLL.out] at hc
    go_wp2_with fail
    refine hc.mono ?_
    clear hc
    rintro _ w9 ⟨hb9, f1, rfl, F1, rfl, -, hF1⟩
    have HW9 : Hid (Below W1.heap.size W1 w9) := HW8.out.trans (hb9.mono HW8.out.size)
    have HB9 : Hid (Below w8.heap.size w8 w9) := hb9
    have HF1 : Hid (Blk w9 F1 69 #[.int .i64 C0, .int .i64 m0, .slice none 0 0, whyV k0]) := hF1
    have hz89 := hb9.size
    clear hb9 hF1
    have hc := map_bad HBD.out HL4.out HFL.out (some ⟨w5.heap.size, 0, none⟩) (ll + 2) 0 w9.heap.size w3.heap.size w4.heap.size en w9 (HE.out.old HE.out.two HW9.out) (by omega) (Nat.le_refl _) (HS8.out.old HB9.out).srin v (HV8.out.old HB9.out (by omega))
    rw [HLL.out] at hc
    go_wp2_with fail
    refine hc.mono ?_
    clear hc HBD HV8
    rintro _ w10 ⟨hb10, f2, rfl, F2, rfl, -, hF2⟩
    have HW10 : Hid (Below W1.heap.size W1 w10) := HW9.out.trans (hb10.mono HW9.out.size)
    have HB10 : Hid (Below w8.heap.size w8 w10) := HB9.out.trans (hb10.mono hz89)
    have HF1' : Hid (Blk w10 F1 69 #[.int .i64 C0, .int .i64 m0, .slice none 0 0, whyV k0]) := HF1.out.old hb10
    have HF2 : Hid (Blk w10 F2 69 #[.int .i64 C0, .int .i64 m0, .slice none 0 0, whyV k0]) := hF2
    have HD10 : Hid (Blk w10 (w7.heap.size + 1) 40 #[.int .i64 C0, .int .i64 m0, .slice none 0 0]) := HD8.out.old HB10.out
    have hz8x := HB10.out.size
    clear hb10 hF2 HF1 HB9 HW9 HD8 hz89
    have hc := keepIs_fault F1 C0 m0 w10 HC0.out (HE.out.old HE.out.two HW10.out).et (HF1'.out.cell 0) (HF1'.out.cell 1) (HF1'.out.cell 2)
    have d0 : w10.cell? ⟨w7.heap.size + 1, 0, none⟩ = some (.int .i64 C0) := HD10.out.cell 0
    have d1 : w10.cell? ⟨w7.heap.size + 1, 1, none⟩ = some (.int .i64 m0) := HD10.out.cell 1
    have d2 : w10.cell? ⟨w7.heap.size + 1, 2, none⟩ = some (.slice none 0 0) := HD10.out.cell 2
    go_wp2_with fail
    refine hc.mono ?_
    clear hc d0 d1 d2
    rintro _ w11 ⟨rfl, hb11⟩
    have HW11 : Hid (Below W1.heap.size W1 w11) := HW10.out.trans (hb11.mono HW10.out.size)
    have HB11 : Hid (Below w8.heap.size w8 w11) := HB10.out.trans (hb11.mono hz8x)
    have HF1 : Hid (Blk w11 F1 69 #[.int .i64 C0, .int .i64 m0, .slice none 0 0, whyV k0]) := HF1'.out.old hb11
    have HG2 : Hid (Blk w11 F2 69 #[.int .i64 C0, .int .i64 m0, .slice none 0 0, whyV k0]) := HF2.out.old hb11
    have HD11 : Hid (Blk w11 (w7.heap.size + 1) 40 #[.int .i64 C0, .int .i64 m0, .slice none 0 0]) := HD10.out.old hb11
    have hz81 := HB11.out.size
    clear hb11 HF2 HF1' HB10 HW10 HD10 hz8x
    have hc := keepIs_fault F2 C0 m0 w11 HC0.out (HE.out.old HE.out.two HW11.out).et (HG2.out.cell 0) (HG2.out.cell 1) (HG2.out.cell 2)
    have d0 : w11.cell? ⟨w7.heap.size + 1, 0, none⟩ = some (.int .i64 C0) := HD11.out.cell 0
    have d1 : w11.cell? ⟨w7.heap.size + 1, 1, none⟩ = some (.int .i64 m0) := HD11.out.cell 1
    have d2 : w11.cell? ⟨w7.heap.size + 1, 2, none⟩ = some (.slice none 0 0) := HD11.out.cell 2
    go_wp2_with fail
    refine hc.mono ?_
    clear hc d0 d1 d2 HG2
    rintro _ w12 ⟨rfl, hb12⟩
    have HW12 : Hid (Below W1.heap.size W1 w12) := HW11.out.trans (hb12.mono HW11.out.size)
    have HB12 : Hid (Below w8.heap.size w8 w12) := HB11.out.trans (hb12.mono hz81)
    have HF12 : Hid (Blk w12 F1 69 #[.int .i64 C0, .int .i64 m0, .slice none 0 0, whyV k0]) := HF1.out.old hb12
    have HD12 : Hid (Blk w12 (w7.heap.size + 1) 40 #[.int .i64 C0, .int .i64 m0, .slice none 0 0]) := HD11.out.old hb12
    clear hb12 HF1 HB11 HW11 HD11 hz81
    have hc := skept_any l HL4.out HSW.out al cl w.heap.size w5.heap.size A C P w12 (Nat.le_trans (Nat.le_of_lt hz1) HW12.out.size) (HSR.out.keep HW12.out (Nat.le_of_lt hz1)) (HS8.out.old HB12.out) (fun j h1 h2 => (HB12.out.cell (p := ⟨w5.heap.size, j * 7, none⟩) (show w5.heap.size < w8.heap.size by omega)).trans (HM8.out j h1 h2))
    rw [HLL.out] at hc
    go_wp2_with fail
    refine hc.mono ?_
    clear hc HS8 HM8 HB12
    rintro _ w13 ⟨rfl, hb13⟩
    have HW13 : Hid (Below W1.heap.size W1 w13) := HW12.out.trans (hb13.mono HW12.out.size)
    have HF13 : Hid (Blk w13 F1 69 #[.int .i64 C0, .int .i64 m0, .slice none 0 0, whyV k0]) := HF12.out.old hb13
    have d0 : w13.cell? ⟨w7.heap.size + 1, 0, none⟩ = some (.int .i64 C0) := (HD12.out.old hb13).cell 0
    have tc : (C0 == 0) = false := beq_eq_false_iff_ne.2 HC0.out
    have tc' : (C0 != 0) = true := by simp [bne, tc]
    clear hb13 HF12 HD12 HW12
    by_cases hk0 : k0 = 0
    · subst hk0
      go_wp2_with fail
      go_ret
      exact ⟨rfl, HOK.out _ HW13⟩
    · have tk : (k0 == 0) = false := beq_eq_false_iff_ne.2 hk0
      have hwv : whyV k0 = .iface 33 (.int .i64 k0) := if_neg hk0
      have h3 : w13.cell? ⟨F1, 3, none⟩ = some (.iface 33 (.int .i64 k0)) := by rw [← hwv]; exact HF13.out.cell 3
      have hc := why_fault F1 k0 w13 (HE.out.old HE.out.two HW13.out).et h3
      clear hwv h3
      go_wp2_with fail
      refine hc.mono ?_
      clear hc
      rintro _ w14 ⟨rfl, hb14⟩
      go_wp2_with fail
      go_ret
      exact ⟨rfl, HOK.out _ (HW13.out.trans (hb14.mono HW13.out.size))⟩
  · have hc := rmap_good hgood HFL.out al a cl c 0 w.heap.size w6 (Nat.le_trans (Nat.le_of_lt hz1) HW6.out.size) (HSR.out.keep HW6.out (Nat.le_of_lt hz1)) (HIN.out.keep HW6.out (Nat.le_of_lt hz1))
    rw [HLL.out, HLN.out] at hc
    have HGD : Hid (OcGood l p qs) := hgood
    have HQG : Hid (∀ x ∈ qs, Good x) := hgood.items HFL.out
    obtain ⟨qn, hqn⟩ : ∃ qn, qs.length = qn := ⟨_, rfl⟩
    have hql : qn ≤ 1024 := by rw [← hqn]; exact hgood.len
    have HQN : Hid (qs.length = qn) := hqn
    have HMY : Hid (may (tupP qs) = true) := good_may HQG.out (by rw [hqn]; exact hql)
    have HFT : Hid (Fits (tupP qs)) := good_fits HQG.out (by rw [hqn]; exact hql)
    have HPT : Hid (P l.length ≤ w6.heap.size) := HS6.out.top
    rw [hqn] at hc
    clear hqn hgood
    go_wp2_with fail
    refine hc.mono ?_
    clear hc c0 c1 c2 c3 c4 c5
    rintro _ w7 ⟨hb7, qa, qc, rfl, hq7⟩
    have hz67 := hb7.size
    obtain ⟨hb8, hB8, hD8, hs8⟩ := two_new w7 29 40 #[.int .u8 7, .bool false, .bool false, .string ⟨#[]⟩, .string ⟨#[]⟩, .slice qa qn qc] #[.int .i64 0, .int .i64 0, .slice none 0 0]
    go_upto_region 13 with fail
    generalize (w7.alloc (.cells #[.int .u8 7, .bool false, .bool false, .string ⟨#[]⟩, .string ⟨#[]⟩, .slice qa qn qc] 29)).alloc (.cells #[.int .i64 0, .int .i64 0, .slice none 0 0] 40) = w8 at *
    have hb68 := hb7.trans (hb8.mono hz67)
    have HW8 : Hid (Below W1.heap.size W1 w8) := HW6.out.trans (hb68.mono HW6.out.size)
    have HV8 : Hid (VIn w8 w3.heap.size w4.heap.size v p) := HV6.out.old hb68 (by omega)
    have HS8 : Hid (SofS w8 w5.heap.size l.length l (l.length + 2) A C P) := HS6.out.old hb68
    have HM8 : Hid (∀ j, l.length ≤ j → j < l.length + 2 → w8.cell? ⟨w5.heap.size, j * 7, none⟩ = some (.int .i64 (-99))) := fun j h1 h2 => (hb68.cell (p := ⟨w5.heap.size, j * 7, none⟩) hz56).trans (HM6.out j h1 h2)
    have HD8 : Hid (Blk w8 (w7.heap.size + 1) 40 #[.int .i64 0, .int .i64 0, .slice none 0 0]) := hD8
    have HN8 : Hid (Blk w8 w7.heap.size 29 #[.int .u8 7, .bool false, .bool false, .string ⟨#[]⟩, .string ⟨#[]⟩, .slice qa qn qc]) := hB8
    have HQ8 : Hid (PIn w8 w6.heap.size w7.heap.size (tupP qs) qa) := hq7.keep hb8 (Nat.le_refl _)
    have hz68 := hb68.size
    have hz78 : w7.heap.size + 2 = w8.heap.size := hs8.symm
    have HZ78 : Hid (w7.heap.size + 2 = w8.heap.size) := hz78
    clear hb7 hb8 hb68 hB8 hD8 hs8 HV6 HS6 HM6 HW6 hq7 hz78
    have hc := map_good HGD.out HFL.out (fun b => b < w5.heap.size ∨ w6.heap.size ≤ b) (some ⟨w5.heap.size, 0, none⟩) (ll + 2) 0 w8.heap.size w3.heap.size w4.heap.size en w8 (fun b h1 h2 => .inl (by omega)) (fun b h => .inr (by omega)) (HE.out.old HE.out.two HW8.out) (by omega) (Nat.le_refl _) HS8.out.srin v HV8.out
    rw [HLL.out] at hc
    go_wp2_with fail
    refine hc.mono ?_
    clear hc
    rintro _ w9 ⟨hb9, g1, rfl, hg1⟩
    have HW9 : Hid (Below W1.heap.size W1 w9) := HW8.out.trans (hb9.mono HW8.out.size)
    have HB9 : Hid (Below w8.heap.size w8 w9) := hb9
    have HG1 : Hid (VAt w9 (fun b => b < w9.heap.size ∧ (b < w5.heap.size ∨ w6.heap.size ≤ b)) (.iface 83 (.pointer (some ⟨g1, 0, none⟩))) (tupP qs)) := hg1
    have hz89 := hb9.size
    clear hb9 hg1
    have hc := map_good HGD.out HFL.out (fun b => b < w5.heap.size ∨ w6.heap.size ≤ b) (some ⟨w5.heap.size, 0, none⟩) (ll + 2) 0 w9.heap.size w3.heap.size w4.heap.size en w9 (fun b h1 h2 => .inl (by omega)) (fun b h => .inr (by omega)) (HE.out.old HE.out.two HW9.out) (by omega) (Nat.le_refl _) (HS8.out.old HB9.out).srin v (HV8.out.old HB9.out (by omega))
    rw [HLL.out] at hc
    go_wp2_with fail
    refine hc.mono ?_
    clear hc HGD HV8
    rintro _ w10 ⟨hb10, g2, rfl, hg2⟩
    have HW10 : Hid (Below W1.heap.size W1 w10) := HW9.out.trans (hb10.mono HW9.out.size)
    have HB10 : Hid (Below w8.heap.size w8 w10) := HB9.out.trans (hb10.mono hz89)
    have HG1' : Hid (VAt w10 (fun b => b < w10.heap.size ∧ (b < w5.heap.size ∨ w6.heap.size ≤ b)) (.iface 83 (.pointer (some ⟨g1, 0, none⟩))) (tupP qs)) := HG1.out.keep (fun b hb => hb10.block b hb.1) (fun b hb => ⟨Nat.lt_of_lt_of_le hb.1 hb10.size, hb.2⟩)
    have HG2 : Hid (VAt w10 (fun b => b < w10.heap.size ∧ (b < w5.heap.size ∨ w6.heap.size ≤ b)) (.iface 83 (.pointer (some ⟨g2, 0, none⟩))) (tupP qs)) := hg2
    have HD10 : Hid (Blk w10 (w7.heap.size + 1) 40 #[.int .i64 0, .int .i64 0, .slice none 0 0]) := HD8.out.old HB10.out
    have hz8x := HB10.out.size
    clear hb10 hg2 HG1 HB9 HW9 HD8 hz89
    have hc := keepIs_none w10
    have d0 : w10.cell? ⟨w7.heap.size + 1, 0, none⟩ = some (.int .i64 0) := HD10.out.cell 0
    have d1 : w10.cell? ⟨w7.heap.size + 1, 1, none⟩ = some (.int .i64 0) := HD10.out.cell 1
    have d2 : w10.cell? ⟨w7.heap.size + 1, 2, none⟩ = some (.slice none 0 0) := HD10.out.cell 2
    go_wp2_with fail
    refine hc.mono ?_
    clear hc d0 d1 d2
    rintro _ w11 ⟨rfl, hb11⟩
    have HW11 : Hid (Below W1.heap.size W1 w11) := HW10.out.trans (hb11.mono HW10.out.size)
    have HB11 : Hid (Below w8.heap.size w8 w11) := HB10.out.trans (hb11.mono hz8x)
    have HX11 : Hid (Below w10.heap.size w10 w11) := hb11
    have HD11 : Hid (Blk w11 (w7.heap.size + 1) 40 #[.int .i64 0, .int .i64 0, .slice none 0 0]) := HD10.out.old hb11
    have hz81 := HB11.out.size
    have hzx1 := hb11.size
    clear hb11 HB10 HW10 HD10
    have hc := keepIs_none w11
    have d0 : w11.cell? ⟨w7.heap.size + 1, 0, none⟩ = some (.int .i64 0) := HD11.out.cell 0
    have d1 : w11.cell? ⟨w7.heap.size + 1, 1, none⟩ = some (.int .i64 0) := HD11.out.cell 1
    have d2 : w11.cell? ⟨w7.heap.size + 1, 2, none⟩ = some (.slice none 0 0) := HD11.out.cell 2
    go_wp2_with fail
    refine hc.mono ?_
    clear hc d0 d1 d2
    rintro _ w12 ⟨rfl, hb12⟩
    have HW12 : Hid (Below W1.heap.size W1 w12) := HW11.out.trans (hb12.mono HW11.out.size)
    have HB12 : Hid (Below w8.heap.size w8 w12) := HB11.out.trans (hb12.mono hz81)
    have HX12 : Hid (Below w10.heap.size w10 w12) := HX11.out.trans (hb12.mono hzx1)
    have HD12 : Hid (Blk w12 (w7.heap.size + 1) 40 #[.int .i64 0, .int .i64 0, .slice none 0 0]) := HD11.out.old hb12
    clear hb12 HB11 HW11 HD11 hz81 HX11 hzx1
    have hc := skept_any l HL4.out HSW.out al cl w.heap.size w5.heap.size A C P w12 (Nat.le_trans (Nat.le_of_lt hz1) HW12.out.size) (HSR.out.keep HW12.out (Nat.le_of_lt hz1)) (HS8.out.old HB12.out) (fun j h1 h2 => (HB12.out.cell (p := ⟨w5.heap.size, j * 7, none⟩) (show w5.heap.size < w8.heap.size by omega)).trans (HM8.out j h1 h2))
    rw [HLL.out] at hc
    go_wp2_with fail
    refine hc.mono ?_
    clear hc HM8
    rintro _ w13 ⟨rfl, hb13⟩
    have HW13 : Hid (Below W1.heap.size W1 w13) := HW12.out.trans (hb13.mono HW12.out.size)
    have HB13 : Hid (Below w8.heap.size w8 w13) := HB12.out.trans (hb13.mono HB12.out.size)
    have HX13 : Hid (Below w10.heap.size w10 w13) := HX12.out.trans (hb13.mono HX12.out.size)
    have d0 : w13.cell? ⟨w7.heap.size + 1, 0, none⟩ = some (.int .i64 0) := (HD12.out.old hb13).cell 0
    have HG1 : Hid (VAt w13 (fun b => b < w13.heap.size ∧ (b < w5.heap.size ∨ w6.heap.size ≤ b)) (.iface 83 (.pointer (some ⟨g1, 0, none⟩))) (tupP qs)) := HG1'.out.keep (fun b hb => HX13.out.block b hb.1) (fun b hb => ⟨Nat.lt_of_lt_of_le hb.1 HX13.out.size, hb.2⟩)
    have HG2' : Hid (VAt w13 (fun b => b < w13.heap.size ∧ (b < w5.heap.size ∨ w6.heap.size ≤ b)) (.iface 83 (.pointer (some ⟨g2, 0, none⟩))) (tupP qs)) := HG2.out.keep (fun b hb => HX13.out.block b hb.1) (fun b hb => ⟨Nat.lt_of_lt_of_le hb.1 HX13.out.size, hb.2⟩)
    have HN13 : Hid (Blk w13 w7.heap.size 29 #[.int .u8 7, .bool false, .bool false, .string ⟨#[]⟩, .string ⟨#[]⟩, .slice qa qn qc]) := HN8.out.old HB13.out
    have HQ13 : Hid (PIn w13 w6.heap.size w7.heap.size (tupP qs) qa) := HQ8.out.keep HB13.out (by have := HZ78.out; omega)
    have HS13 : Hid (SofR w13 w5.heap.size 0 l (l.length + 2) A C P) := (HS8.out.old HB13.out).rest
    have hz13' : w7.heap.size < w13.heap.size := by have := HB13.out.size; have := HZ78.out; omega
    have HOK3 : Hid (∀ w', Below w5.heap.size w13 w' → Below w.heap.size w w') := fun w' h => HW1.out.trans (((HW13.out.mono (Nat.le_of_lt hz1)).trans (h.mono (by omega))))
    clear hb13 HD12 HW12 HB12 HX12 HX13 HG1' HG2 HN8 HQ8 HS8 hz8x HB13 HZ78
    clear HW13 HSR HIN HF HFL HE HB1 HOK
    go_wp2
    go_loopw [22] (fun iv wr => ∃ (j : Nat), j ≤ ll ∧ iv = .int .i64 (j : Int) ∧ Hid (SofR wr w5.heap.size j l (l.length + 2) A C P) ∧ Hid (Wrt w5.heap.size (P l.length) w13 wr)) (fun iv _ => ll - (intOf iv).toNat)
    case atStart => exact ⟨0, Nat.zero_le _, rfl, HS13, Wrt.refl _ _ _⟩
    case round =>
      obtain ⟨j, hj, rfl, HR, HWR⟩ := hrel
      by_cases hjn : j < ll
      · have hjl : j < l.length := by rw [HLL.out]; exact hjn
        have hwj := HSW.out _ (List.getElem_mem hjl)
        have hrow := HR.out.row j hjl (Nat.le_refl _)
        have hlin := HR.out.lin j hjl (Nat.le_refl _)
        have hcs := HR.out.len
        have hpp : P j ≤ P (j + 1) := HR.out.mono j (j + 1) (Nat.le_succ _) hjl
        have hpt : P (j + 1) ≤ wr.heap.size := Nat.le_trans (HR.out.mono (j + 1) l.length hjl (Nat.le_refl _)) HR.out.top
        obtain ⟨aX, haX⟩ : ∃ aX, aX = A j := ⟨_, rfl⟩
        obtain ⟨cX, hcX⟩ : ∃ cX, cX = C j := ⟨_, rfl⟩
        rw [← haX, ← hcX] at hrow hlin
        clear haX hcX
        obtain ⟨s, hs⟩ : ∃ s, s = l[j] := ⟨_, rfl⟩
        rw [← hs] at hwj hrow hlin
        clear hs
        obtain ⟨f, q⟩ := s
        obtain ⟨r0, r1, r2, r3, r4, r5, r6⟩ := hrow
        dsimp only at hwj r0 r1 r2 r3 r4 r5 r6 hlin
        have hc : Calls Tryd.prog 16 #[.agg #[.int .u8 q.kind, .bool q.yes, .bool q.neg, .string q.mag, .string q.raw, .slice aX q.items.length cX]] wr fun e w' => e = .returned (.tuple #[]) ∧ Wrt (P j) (P (j + 1)) wr w' := write_any q hwj aX cX (P j) (P (j + 1)) wr hpp hpt hlin.win
        have hji : (j : Int) < (ll : Int) := by omega
        have tl : decide ((j : Int) < (ll : Int)) = true := decide_eq_true hji
        have HSTEP : Hid (∀ w', Wrt (P j) (P (j + 1)) wr w' → SofR (w'.setCell ⟨w5.heap.size, j * 7, none⟩ (.int .i64 5000)) w5.heap.size (j + 1) l (l.length + 2) A C P ∧ Wrt w5.heap.size (P l.length) w13 (w'.setCell ⟨w5.heap.size, j * 7, none⟩ (.int .i64 5000))) := fun w' h => ⟨(HR.out.step hjl h (.int .i64 5000)).1, HWR.out.trans (HR.out.step hjl h (.int .i64 5000)).2⟩
        have HCS : Hid (∀ w', Wrt (P j) (P (j + 1)) wr w' → w'.cell? ⟨w5.heap.size, j * 7, none⟩ = some (.int .i64 f) ∧ w'.frozen? ⟨w5.heap.size, j * 7, none⟩ = false) := fun w' h => by
          have h0 := HR.out.p0
          have h1 := HR.out.mono 0 j (Nat.zero_le _) (Nat.le_of_lt hjl)
          have e0 : w'.heap[w5.heap.size]? = wr.heap[w5.heap.size]? := h.below.block _ (by omega)
          obtain ⟨cs, h2, h3⟩ := hcs
          exact ⟨(cell_block e0 _).trans r0, (show Blk w' w5.heap.size 52 cs from e0.trans h2).frozen _⟩
        clear hlin hcs hpp hpt hwj
        go_wp2_with fail
        refine hc.mono ?_
        clear hc r0 r1 r2 r3 r4 r5 r6
        rintro _ wq ⟨rfl, hwq⟩
        obtain ⟨u0, uf⟩ := HCS.out wq hwq
        have HST : Hid (SofR (wq.setCell ⟨w5.heap.size, j * 7, none⟩ (.int .i64 5000)) w5.heap.size (j + 1) l (l.length + 2) A C P) := (HSTEP.out wq hwq).1
        have HWT : Hid (Wrt w5.heap.size (P l.length) w13 (wq.setCell ⟨w5.heap.size, j * 7, none⟩ (.int .i64 5000))) := (HSTEP.out wq hwq).2
        clear HSTEP HCS HR HWR hwq
        go_wp2
        go_roundw
        case rel => exact ⟨j + 1, by omega, by go_num, HST, HWT⟩
        case measure => simp [intOf]; omega
      · obtain rfl : j = ll := by omega
        have tl : decide ((j : Int) < (j : Int)) = false := decide_eq_false (by omega)
        have hkp : ∀ b, b < w13.heap.size → (b < w5.heap.size ∨ w6.heap.size ≤ b) → wr.heap[b]? = w13.heap[b]? := fun b h1 h2 => by
          have h3 := HPT.out
          rcases h2 with h2 | h2
          · exact HWR.out.below.block b h2
          · exact HWR.out.above b (by omega) h1
        have hzr := HWR.out.below.size
        have HA : Hid (VIn wr 0 wr.heap.size (.iface 83 (.pointer (some ⟨g1, 0, none⟩))) (tupP qs)) := (HG1.out.keep (S' := (fun b => b < w13.heap.size ∧ (b < w5.heap.size ∨ w6.heap.size ≤ b))) (fun b hb => hkp b hb.1 hb.2) (fun _ h => h)).to fun b hb => ⟨Nat.zero_le _, Nat.lt_of_lt_of_le hb.1 hzr⟩
        have HA2 : Hid (VIn wr 0 wr.heap.size (.iface 83 (.pointer (some ⟨g2, 0, none⟩))) (tupP qs)) := (HG2'.out.keep (S' := (fun b => b < w13.heap.size ∧ (b < w5.heap.size ∨ w6.heap.size ≤ b))) (fun b hb => hkp b hb.1 hb.2) (fun _ h => h)).to fun b hb => ⟨Nat.zero_le _, Nat.lt_of_lt_of_le hb.1 hzr⟩
        have HN : Hid (Blk wr w7.heap.size 29 #[.int .u8 7, .bool false, .bool false, .string ⟨#[]⟩, .string ⟨#[]⟩, .slice qa qn qc]) := (hkp _ hz13' (.inr hz67)).trans HN13.out
        have HQ : Hid (PIn wr w6.heap.size w7.heap.size (tupP qs) qa) := HQ13.out.keep' fun b h1 h2 => hkp b (by omega) (.inr h1)
        have HOKr : Hid (∀ w', Below wr.heap.size wr w' → Below w.heap.size w w') := fun w' h => HOK3.out _ (HWR.out.below.trans (h.mono (by have := HPT.out; omega)))
        have hz7r : w7.heap.size < wr.heap.size := by omega
        clear hkp HG1 HG2' HN13 HQ13 HS13 HWR HR HOK3 HPT hzr hz13'
        have hc := tell_tup HMY.out HQN.out HA.out
        go_wp2_with fail
        refine hc.mono ?_
        clear hc
        rintro _ x1 ⟨a1, c1, rfl, hw1, hb1⟩
        have HB1 : Hid (Below wr.heap.size wr x1) := hb1
        have HW1c : Hid (WIn x1 wr.heap.size x1.heap.size (tupP qs) a1 c1) := hw1
        clear hb1 hw1
        have hb2 := (Below.refl x1.heap.size x1).alloc (Nat.le_refl _) (.cells #[.int .u8 7, .bool false, .bool false, .string ⟨#[]⟩, .string ⟨#[]⟩, .slice a1 qn c1] 29)
        have hB2 := Blk.new x1 29 #[.int .u8 7, .bool false, .bool false, .string ⟨#[]⟩, .string ⟨#[]⟩, .slice a1 qn c1]
        go_upto_region 29 with fail
        generalize x1.alloc (.cells #[.int .u8 7, .bool false, .bool false, .string ⟨#[]⟩, .string ⟨#[]⟩, .slice a1 qn c1] 29) = x2 at *
        have HB2 : Hid (Below wr.heap.size wr x2) := HB1.out.trans (hb2.mono HB1.out.size)
        have HC2 : Hid (Blk x2 x1.heap.size 29 #[.int .u8 7, .bool false, .bool false, .string ⟨#[]⟩, .string ⟨#[]⟩, .slice a1 qn c1]) := hB2
        have HW2 : Hid (WIn x2 wr.heap.size x1.heap.size (tupP qs) a1 c1) := HW1c.out.keep fun b _ h => hb2.block b h
        have hzx := HB1.out.size
        have hz2 : x1.heap.size < x2.heap.size := hB2.lt
        clear hb2 hB2 HB1 HW1c
        have hc := tell_tup HMY.out HQN.out ((HA2.out.old HB2.out (Nat.le_refl _)).mono HB2.out.size (Nat.le_refl _))
        go_wp2_with fail
        refine hc.mono ?_
        clear hc HA2
        rintro _ x3 ⟨a2, c2, rfl, hw3, hb3⟩
        have HB3 : Hid (Below wr.heap.size wr x3) := HB2.out.trans (hb3.mono HB2.out.size)
        have HC3 : Hid (Blk x3 x1.heap.size 29 #[.int .u8 7, .bool false, .bool false, .string ⟨#[]⟩, .string ⟨#[]⟩, .slice a1 qn c1]) := HC2.out.old hb3
        have HW3 : Hid (WIn x3 wr.heap.size x1.heap.size (tupP qs) a1 c1) := HW2.out.keep fun b _ h => hb3.block b (by omega)
        have HE3 : Hid (WIn x3 x2.heap.size x3.heap.size (tupP qs) a2 c2) := hw3
        have hz3 := hb3.size
        clear hb3 hw3 HB2 HC2 HW2
        have hb4 := (Below.refl x3.heap.size x3).alloc (Nat.le_refl _) (.cells #[.int .u8 7, .bool false, .bool false, .string ⟨#[]⟩, .string ⟨#[]⟩, .slice a2 qn c2] 29)
        have hB4 := Blk.new x3 29 #[.int .u8 7, .bool false, .bool false, .string ⟨#[]⟩, .string ⟨#[]⟩, .slice a2 qn c2]
        go_upto_region 30 with fail
        generalize x3.alloc (.cells #[.int .u8 7, .bool false, .bool false, .string ⟨#[]⟩, .string ⟨#[]⟩, .slice a2 qn c2] 29) = x4 at *
        have HB4 : Hid (Below wr.heap.size wr x4) := HB3.out.trans (hb4.mono HB3.out.size)
        have HC4 : Hid (Blk x4 x1.heap.size 29 #[.int .u8 7, .bool false, .bool false, .string ⟨#[]⟩, .string ⟨#[]⟩, .slice a1 qn c1]) := HC3.out.old hb4
        have HD4 : Hid (Blk x4 x3.heap.size 29 #[.int .u8 7, .bool false, .bool false, .string ⟨#[]⟩, .string ⟨#[]⟩, .slice a2 qn c2]) := hB4
        have HW4 : Hid (WIn x4 wr.heap.size x1.heap.size (tupP qs) a1 c1) := HW3.out.keep fun b _ h => hb4.block b (by omega)
        have HE4 : Hid (WIn x4 x2.heap.size x3.heap.size (tupP qs) a2 c2) := HE3.out.keep fun b _ h => hb4.block b (by omega)
        have hz4 : x3.heap.size < x4.heap.size := hB4.lt
        clear hb4 hB4 HB3 HC3 HW3 HE3
        have hc := same_tup HFT.out HQN.out (c := c1) (d := qc) (Nat.le_of_lt (show x1.heap.size < x4.heap.size by omega)) (show w7.heap.size ≤ x4.heap.size by omega) HW4.out.pin (HQ.out.keep HB4.out (Nat.le_of_lt hz7r))
        obtain ⟨m0, m1, m2, m3, m4, m5⟩ := HC4.out.c6
        obtain ⟨n0, n1, n2, n3, n4, n5⟩ := (HN.out.below HB4.out hz7r).c6
        go_wp2_with fail
        refine hc.mono ?_
        clear hc m0 m1 m2 m3 m4 m5 n0 n1 n2 n3 n4 n5
        rintro _ x5 ⟨rfl, hb5⟩
        have HB5 : Hid (Below wr.heap.size wr x5) := HB4.out.trans (hb5.mono HB4.out.size)
        have HC5 : Hid (Blk x5 x1.heap.size 29 #[.int .u8 7, .bool false, .bool false, .string ⟨#[]⟩, .string ⟨#[]⟩, .slice a1 qn c1]) := HC4.out.old hb5
        have HD5 : Hid (Blk x5 x3.heap.size 29 #[.int .u8 7, .bool false, .bool false, .string ⟨#[]⟩, .string ⟨#[]⟩, .slice a2 qn c2]) := HD4.out.old hb5
        have HW5 : Hid (WIn x5 wr.heap.size x1.heap.size (tupP qs) a1 c1) := HW4.out.keep fun b _ h => hb5.block b (by omega)
        have HE5 : Hid (WIn x5 x2.heap.size x3.heap.size (tupP qs) a2 c2) := HE4.out.keep fun b _ h => hb5.block b (by omega)
        have hz5 := hb5.size
        clear hb5 HB4 HC4 HD4 HW4 HE4
        have hc := same_tup HFT.out HQN.out (c := c2) (d := qc) (Nat.le_of_lt (show x3.heap.size < x5.heap.size by omega)) (show w7.heap.size ≤ x5.heap.size by omega) HE5.out.pin (HQ.out.keep HB5.out (Nat.le_of_lt hz7r))
        obtain ⟨m0, m1, m2, m3, m4, m5⟩ := HD5.out.c6
        obtain ⟨n0, n1, n2, n3, n4, n5⟩ := (HN.out.below HB5.out hz7r).c6
        go_wp2_with fail
        refine hc.mono ?_
        clear hc m0 m1 m2 m3 m4 m5 n0 n1 n2 n3 n4 n5 HD5 HE5
        rintro _ x6 ⟨rfl, hb6⟩
        have HB6 : Hid (Below wr.heap.size wr x6) := HB5.out.trans (hb6.mono HB5.out.size)
        have HC6 : Hid (Blk x6 x1.heap.size 29 #[.int .u8 7, .bool false, .bool false, .string ⟨#[]⟩, .string ⟨#[]⟩, .slice a1 qn c1]) := HC5.out.old hb6
        have HW6 : Hid (WIn x6 wr.heap.size x1.heap.size (tupP qs) a1 c1) := HW5.out.keep fun b _ h => hb6.block b (by omega)
        have hz6 := hb6.size
        clear hb6 HB5 HC5 HW5
        have hc := write_tup HMY.out HQN.out hzx (show x1.heap.size ≤ x6.heap.size by omega) HW6.out
        obtain ⟨m0, m1, m2, m3, m4, m5⟩ := HC6.out.c6
        go_wp2_with fail
        refine hc.mono ?_
        clear hc m0 m1 m2 m3 m4 m5 HC6 HW6
        rintro _ x7 ⟨rfl, hw7⟩
        have HB7 : Hid (Below wr.heap.size wr x7) := HB6.out.trans hw7.below
        have HN7 : Hid (Blk x7 w7.heap.size 29 #[.int .u8 7, .bool false, .bool false, .string ⟨#[]⟩, .string ⟨#[]⟩, .slice qa qn qc]) := HN.out.below HB7.out hz7r
        have HQ7 : Hid (PIn x7 w6.heap.size w7.heap.size (tupP qs) qa) := HQ.out.keep HB7.out (Nat.le_of_lt hz7r)
        have HA7 : Hid (VIn x7 0 wr.heap.size (.iface 83 (.pointer (some ⟨g1, 0, none⟩))) (tupP qs)) := HA.out.old HB7.out (Nat.le_refl _)
        have hz7 := HB7.out.size
        have HC7 : Hid (∀ x, Below x7.heap.size x7 x → Calls Tryd.prog 17 #[.iface 83 (.pointer (some ⟨g1, 0, none⟩))] x fun e w' => ∃ a c, e = .returned (.agg #[.int .u8 7, .bool false, .bool false, .string ⟨#[]⟩, .string ⟨#[]⟩, .slice a qn c]) ∧ WIn w' x.heap.size w'.heap.size (tupP qs) a c ∧ Below x.heap.size x w') := fun x hx => tell_tup HMY.out HQN.out (((HA7.out.old hx (by omega))).mono (Nat.le_trans hz7 hx.size) (Nat.le_refl _))
        have HF7 : Hid (∀ x, Below x7.heap.size x7 x → x.cell? ⟨w7.heap.size, 0, none⟩ = some (.int .u8 7) ∧ x.cell? ⟨w7.heap.size, 1, none⟩ = some (.bool false) ∧ x.cell? ⟨w7.heap.size, 2, none⟩ = some (.bool false) ∧ x.cell? ⟨w7.heap.size, 3, none⟩ = some (.string ⟨#[]⟩) ∧ x.cell? ⟨w7.heap.size, 4, none⟩ = some (.string ⟨#[]⟩) ∧ x.cell? ⟨w7.heap.size, 5, none⟩ = some (.slice qa qn qc)) := fun x hx => (HN7.out.old hx).c6
        clear hw7 HB6 HN HQ HA HN7 HA7
        go_upto_region 33 with fail
        refine wp_region_held_drew (S := fun x => Below x7.heap.size x7 x) (by kernel_rfl) ((Below.refl _ _).drew) (fun hHeldz => ?_)
        refine wpAnyH_takeD (i := 0) (some 138) (v := ?vz0c1) rfl rfl (by kernel_rfl) (by kernel_rfl) (by kernel_rfl) (fun _ _ _ h => h) (Or.inl ⟨by kernel_rfl, ?hyz0c1⟩) (by assumption) ?restz0c1
        case hyz0c1 => (intro x hSx; (try dsimp only at hSx); go_simp; first | done | with_reducible rfl)
        try simp only [Act.put, List.setIfInBounds_toArray, List.set_cons_zero, List.set_cons_succ]
        refine wpAnyH_takeD (i := 2) (some 140) (v := ?vz2c2) rfl rfl (by kernel_rfl) (by kernel_rfl) (by kernel_rfl) (fun _ _ _ h => h) (Or.inl ⟨by kernel_rfl, ?hyz2c2⟩) (by assumption) ?restz2c2
        case hyz2c2 => (intro x hSx; (try dsimp only at hSx); obtain ⟨z0, z1, z2, z3, z4, z5⟩ := HF7.out x hSx; go_simp; first | done | with_reducible rfl)
        try simp only [Act.put, List.setIfInBounds_toArray, List.set_cons_zero, List.set_cons_succ]
        refine wpAnyH_ready (rs := [1]) (by kernel_rfl) (by simp) ?_
        refine AllReadyH.cons rfl (fun K hK => ?_) AllReadyH.nil
        go_simp
        go_wp2_with (go_at_call 17; refine (HC7.out _ hHeldz).mono ?_; rintro e y1 ⟨a3, c3, rfl, hw8, hb8⟩)
        have HW8 : Hid (WIn y1 _ y1.heap.size (tupP qs) a3 c3) := hw8
        clear hw8
        refine hK.out _ _ (hHeldz.trans (hb8.mono hHeldz.size)) (fun hHeldz1 => ?_)
        clear hb8
        clear hK K
        try simp only [Act.put, List.setIfInBounds_toArray, List.set_cons_zero, List.set_cons_succ]
        refine wpAnyH_ready (rs := [3]) (by kernel_rfl) (by simp) ?_
        refine AllReadyH.cons rfl (fun K hK => ?_) AllReadyH.nil
        go_simp
        have hq18 := same_tup HFT.out HQN.out (c := c3) (d := qc) (Nat.le_refl _) (show w7.heap.size ≤ y1.heap.size from Nat.le_trans (Nat.le_of_lt hz7r) (Nat.le_trans hz7 hHeldz1.size)) HW8.out.pin (HQ7.out.keep hHeldz1 (Nat.le_trans (Nat.le_of_lt hz7r) hz7))
        go_wp2_with (go_at_call 18; refine hq18.mono ?_; rintro e y3 ⟨rfl, hb9⟩)
        refine hK.out _ _ (hHeldz1.trans (hb9.mono hHeldz1.size)) (fun hHeldz3 => ?_)
        clear hb9
        clear hK K
        try simp only [Act.put, List.setIfInBounds_toArray, List.set_cons_zero, List.set_cons_succ]
        refine wpAnyH_takeD (i := 4) (some 27) (v := ?vz4c3) rfl rfl (by kernel_rfl) (by kernel_rfl) (by kernel_rfl) (fun _ _ _ h => h) (Or.inl ⟨by kernel_rfl, ?hyz4c3⟩) (by assumption) ?restz4c3
        case hyz4c3 => (intro x hSx; (try dsimp only at hSx); go_simp; first | done | with_reducible rfl)
        try simp only [Act.put, List.setIfInBounds_toArray, List.set_cons_zero, List.set_cons_succ]
        refine wpAnyH_done (by kernel_rfl) ?_ _
        go_wp2
        go_ret
        exact ⟨rfl, HOKr.out _ (HB7.out.trans (hHeldz3.mono hz7))⟩
end Go.Proofs.YtnjfkijekohdkaaDoor
