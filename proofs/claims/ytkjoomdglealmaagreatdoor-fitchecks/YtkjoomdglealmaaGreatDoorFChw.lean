/- What the statement FitChecks does (a contract; nothing is claimed here). -/
import Derived.Test.YtkjoomdglealmaaGreatDoorFFld
import Derived.Test.YtkjoomdglealmaaGreatDoorJ32
import Derived.Test.YtkjoomdglealmaaGreatDoorTell
import Derived.BigRegion
namespace Go.Proofs.YtkjoomdglealmaaGreatDoor
open Go.RowKit Go.Vf

theorem inn_own {r : Bad} {w w' : World} {e : Ending} (h : InnPost r w e w') : ∃ (cc aa : Int) (x : Option Addr) (n cp : Nat) (y : Int), e = .returned (.tuple #[.agg #[.int .i64 cc, .int .i64 aa, .slice x n cp], .int .i64 y]) ∧ Below w.heap.size w w' ∧
    ((r = none ∧ Value.agg #[.int .i64 cc, .int .i64 aa, .slice x n cp] = .agg #[.int .i64 0, .int .i64 0, .slice none 0 0] ∧ y = 0) ∨ ∃ c a P v, r = some (c, a, P, y) ∧ Value.agg #[.int .i64 cc, .int .i64 aa, .slice x n cp] = .agg #[.int .i64 c, .int .i64 a, v] ∧ IOwn w' w.heap.size v P) := by
  cases r with
  | none => exact ⟨0, 0, none, 0, 0, 0, h.2, h.1, .inl ⟨rfl, rfl, rfl⟩⟩
  | some q =>
    obtain ⟨cc, aa, P, y⟩ := q
    obtain ⟨h1, v, h2, h3⟩ := h
    obtain ⟨x, cp, rfl⟩ := h3.val
    exact ⟨cc, aa, x, P.length, cp, y, h2, h1, .inr ⟨cc, aa, P, _, rfl, rfl, h3⟩⟩
/-- The document's answer in memory, from a block on. -/
def InnAt (r : Bad) (w : World) (base : Nat) (wv : Value) (y : Int) : Prop := (r = none ∧ wv = .agg #[.int .i64 0, .int .i64 0, .slice none 0 0] ∧ y = 0) ∨ ∃ c a P v, r = some (c, a, P, y) ∧ wv = .agg #[.int .i64 c, .int .i64 a, v] ∧ IOwn w base v P
theorem InnAt.keep {r : Bad} {w w' : World} {base : Nat} {wv : Value} {y : Int} (h : InnAt r w base wv y) (hk : ∀ b, base ≤ b → b < w.heap.size → w'.heap[b]? = w.heap[b]?) : InnAt r w' base wv y := by
  rcases h with h | ⟨c, a, P, v, h1, h2, h3⟩
  · exact .inl h
  · exact .inr ⟨c, a, P, v, h1, h2, own_blocks h3 fun i hi => by obtain ⟨q, cs', f, hh⟩ := own_ge h3 hi; exact hk i q (Array.getElem?_eq_some_iff.1 hh).1⟩
theorem InnAt.told {r : Bad} {w : World} {base : Nat} {wv : Value} {y : Int} (h : InnAt r w base wv y) : (r = none ∧ wv = .agg #[.int .i64 0, .int .i64 0, .slice none 0 0] ∧ y = 0) ∨ ∃ c a P v, r = some (c, a, P, y) ∧ wv = .agg #[.int .i64 c, .int .i64 a, v] ∧ Ints w.heap.size w v P := by
  rcases h with h | ⟨c, a, P, v, h1, h2, h3⟩
  · exact .inl h
  · exact .inr ⟨c, a, P, v, h1, h2, h3.ints⟩
theorem item_ok {p : Prt} (hp : Fits p) (hm : may p = true) (hd : dep p ≤ 16) {x : Prt} (hx : x ∈ p.items) : Fits x ∧ may x = true ∧ dep x ≤ 16 := by
  refine ⟨hp.mem hx, ?_, ?_⟩
  · rw [may_eq] at hm
    simp only [Bool.and_eq_true, List.all_eq_true] at hm
    exact hm.2 x hx
  · cases p with
    | mk k y b m r l =>
      have h := depL_mem (show x ∈ l from hx)
      by_cases hk : k = 7
      · rw [dep, if_pos hk] at hd; omega
      · have hl : l ≠ [] := fun e => by rw [e] at hx; cases hx
        rw [may_mk] at hm
        simp [hk, hl] at hm
theorem null_ok : Fits (Prt.mk 0 false false ⟨#[]⟩ ⟨#[]⟩ []) ∧ may (Prt.mk 0 false false ⟨#[]⟩ ⟨#[]⟩ []) = true ∧ dep (Prt.mk 0 false false ⟨#[]⟩ ⟨#[]⟩ []) ≤ 16 :=
  ⟨Fits.mk (Int.le_refl 0) (Nat.zero_le _) (Nat.zero_le _) (Nat.zero_le _) (fun x hx => by simp [Prt.items] at hx), by rw [may]; rfl, by rw [dep]; decide⟩

set_option maxHeartbeats 16000000 in
set_option maxRecDepth 40000 in
theorem fitChecks_any (limit : Int) (l : List Fld) (p : Prt) (a pa : Option Addr) (c pc lo n₀ : Nat) (w : World) (hf : ∀ x ∈ l, FitsF 281474976710656 x) (hll : l.length ≤ 281474976710656) (hp : Fits p) (hc : l.length ≤ c) (hn₀ : n₀ ≤ w.heap.size) (hin : FIn w lo n₀ l a) (hpin : PIn w lo n₀ p pa) (hT : Tabs w) (hE : ErrT w) :
    Calls Tryz.prog 3 #[.agg #[.int .i64 limit, .slice a l.length c], pV p pa pc] w fun e w' => e = .returned (.bool true) ∧ Below w.heap.size w w' := by
  have h3z := hT.size
  have hb1 := (Below.refl w.heap.size w).alloc (Nat.le_refl _) (.cells #[.int .i64 limit, .slice a l.length c] 24)
  have hs1 := alloc_size w (.cells #[.int .i64 limit, .slice a l.length c] 24)
  have hA1 := Blk.new w 24 #[.int .i64 limit, .slice a l.length c]
  have hb12 := (Below.refl _ (w.alloc (.cells #[.int .i64 limit, .slice a l.length c] 24))).alloc (Nat.le_refl _) (.cells #[.int .u8 p.kind, .bool p.yes, .bool p.neg, .string p.mag, .string p.raw, .slice pa p.items.length pc] 30)
  have hb2 := hb1.trans (hb12.mono hb1.size)
  have hP2 := Blk.new (w.alloc (.cells #[.int .i64 limit, .slice a l.length c] 24)) 30 #[.int .u8 p.kind, .bool p.yes, .bool p.neg, .string p.mag, .string p.raw, .slice pa p.items.length pc]
  have hA2 := hA1.old hb12
  rw [hs1] at hP2
  unfold pV
  go_enter Tryz.func3, Tryz.ntmps3
  go_upto_region 1 with fail
  generalize (w.alloc (.cells #[.int .i64 limit, .slice a l.length c] 24)).alloc (.cells #[.int .u8 p.kind, .bool p.yes, .bool p.neg, .string p.mag, .string p.raw, .slice pa p.items.length pc] 30) = w2 at *
  have hz2 := hb2.size
  have hz0 : 0 < w.heap.size := by omega
  clear hb1 hs1 hA1 hb12
  have hup := awake_any w2 (hT.own hb2) (hE.old hz0 hb2)
  go_wp2_with fail
  refine hup.mono ?_
  rintro _ w3 ⟨rfl, hb3⟩
  have hb03 := hb2.trans (hb3.mono hb2.size)
  have hA3 := hA2.old hb3
  have hP3 := hP2.old hb3
  have hz3 := hb03.size
  clear hup hA2 hP2 hb3 hb2 hz2
  have hwt := weight_any p hp pa pc 0 lo n₀ w3 (by omega) (hpin.keep hb03 hn₀) (by decide)
  unfold pV at hwt
  obtain ⟨q0, q1, q2, q3, q4, q5⟩ := hP3.c6
  obtain ⟨H, hH⟩ : ∃ H, hvy p 0 0 = H := ⟨_, rfl⟩
  rw [hH] at hwt
  go_wp2_with fail
  refine hwt.mono ?_
  rintro _ w4 ⟨rfl, hb4⟩
  have hb04 := hb03.trans (hb4.mono hb03.size)
  have hA4 := hA3.old hb4
  have hP4 := hP3.old hb4
  have hz4 := hb04.size
  clear hwt hA3 hP3 hb4 hb03 hz3 q0 q1 q2 q3 q4 q5
  by_cases hbig : 67108864 < H
  · have t1 : decide ((67108864 : Int) < (H : Int)) = true := decide_eq_true (by omega)
    have t2 : decide (67108864 < H) = true := decide_eq_true hbig
    clear hin hpin
    go_wp2_with fail
    go_ret
    exact ⟨rfl, hb04⟩
  have t1 : decide ((67108864 : Int) < (H : Int)) = false := decide_eq_false (by omega)
  have t2 : decide (67108864 < H) = false := decide_eq_false hbig
  have hfd := fields_any l a c lo n₀ 0 w4 (by decide) hll hf (by omega) (hin.keep hb04 hn₀)
  have c1 : w4.cell? ⟨w.heap.size, 1, none⟩ = some (.slice a l.length c) := hA4.cell 1
  obtain ⟨D, hD⟩ : ∃ D, wd l 0 0 = D := ⟨_, rfl⟩
  rw [hD] at hfd
  have HMK := "A"
  go_wp2_with fail
  refine hfd.mono ?_
  rintro _ w6 ⟨rfl, hb6⟩
  have hb06 := hb04.trans (hb6.mono hb04.size)
  have hA6 := hA4.old hb6
  have hP6 := hP4.old hb6
  have hz6 := hb06.size
  clear hfd hA4 hP4 hb6 hb04 hz4 c1 HMK t1 t2
  by_cases hbig2 : 67108864 < D
  · have t1 : decide ((67108864 : Int) < (D : Int)) = true := decide_eq_true (by omega)
    have t2 : decide (67108864 < D) = true := decide_eq_true hbig2
    clear hin hpin
    go_wp2_with fail
    go_ret
    exact ⟨rfl, hb06⟩
  have t1 : decide ((67108864 : Int) < (D : Int)) = false := decide_eq_false (by omega)
  have t2 : decide (67108864 < D) = false := decide_eq_false hbig2
  obtain ⟨hl1, hf1⟩ := wd_fits (l := l) (n := 0) hf (by rw [hD]; have e : wdB = 67108864 := rfl; omega)
  obtain ⟨hl2, hf2⟩ := wd_fitsS (l := l) (n := 0) hf (by rw [hD]; have e : wdB = 67108864 := rfl; omega)
  have hrm := rmake_any p hp pa pc lo n₀ w6 (by omega) (hpin.keep hb06 hn₀)
  unfold pV at hrm
  obtain ⟨q0, q1, q2, q3, q4, q5⟩ := hP6.c6
  obtain ⟨M, hM⟩ : ∃ M : Int, (if deeper 16 p = true then 91 else if may p = true then 0 else 90) = M := ⟨_, rfl⟩
  have hrm' : Calls Tryz.prog 12 #[.agg #[.int .u8 p.kind, .bool p.yes, .bool p.neg, .string p.mag, .string p.raw, .slice pa p.items.length pc]] w6 fun e w' => e = .returned (.int .i64 M) ∧ Below w6.heap.size w6 w' := by
    rw [← hM]; exact hrm
  clear hrm
  have HMK := "B"
  go_wp2_with fail
  refine hrm'.mono ?_
  rintro _ w7 ⟨rfl, hb7⟩
  have hb07 := hb06.trans (hb7.mono hb06.size)
  have hA7 := hA6.old hb7
  have hP7 := hP6.old hb7
  have hz7 := hb07.size
  clear hrm' hA6 hP6 hb7 hb06 hz6 q0 q1 q2 q3 q4 q5 t1 t2
  by_cases hMz : M = 0
  case neg =>
    have t1 : (M != 0) = true := bne_iff_ne.2 hMz
    have t2 : (M == 0) = false := by simpa using hMz
    have t3 : decide (M = 0) = false := decide_eq_false hMz
    clear hin hpin
    go_wp2_with fail
    go_ret
    exact ⟨rfl, hb07⟩
  obtain ⟨q0, q1, q2, q3, q4, q5⟩ := hP7.c6
  subst hMz
  have hdeep : deeper 16 p = false := by
    cases h : deeper 16 p with
    | false => rfl
    | true => rw [h, if_pos rfl] at hM; cases hM
  have hmay : may p = true := by
    cases h : may p with
    | true => rfl
    | false => rw [hdeep, h, if_neg (by decide), if_neg (by decide)] at hM; cases hM
  have hdep : dep p ≤ 16 := by
    rw [deeper_dep] at hdeep
    have := of_decide_eq_false hdeep
    omega
  have hmk : Calls Tryz.prog 13 #[.agg #[.int .u8 p.kind, .bool p.yes, .bool p.neg, .string p.mag, .string p.raw, .slice pa p.items.length pc]] w7 fun e w' => Below w7.heap.size w7 w' ∧ ∃ v, e = .returned (.tuple #[v, .int .i64 0]) ∧ VIn w' w7.heap.size w'.heap.size v p := by
    refine (make_any p hp pa pc lo n₀ w7 (by omega) (hpin.keep hb07 hn₀)).mono ?_
    rintro e w' ⟨hb, ⟨h4, _⟩ | ⟨_, h4, _⟩ | ⟨_, _, h5⟩⟩
    · rw [hdeep] at h4; cases h4
    · rw [hmay] at h4; cases h4
    · exact ⟨hb, h5⟩
  clear hM
  have HMK2 := "C"
  go_wp2_with fail
  refine hmk.mono ?_
  rintro _ w8 ⟨hb8, v, rfl, hv⟩
  have hb08 := hb07.trans (hb8.mono hb07.size)
  have hA8 := hA7.old hb8
  have hP8 := hP7.old hb8
  have hz8 := hb08.size
  have hz78 := hb8.size
  have HV8 : Hid (VIn w8 w7.heap.size w8.heap.size v p) := hv
  have hlt8 := hP8.lt
  clear hmk hA7 hP7 hb8 hb07 q0 q1 q2 q3 q4 q5 HMK HMK2 hv
  have c0 : w8.cell? ⟨w.heap.size, 0, none⟩ = some (.int .i64 limit) := hA8.cell 0
  have c1 : w8.cell? ⟨w.heap.size, 1, none⟩ = some (.slice a l.length c) := hA8.cell 1
  have hq9 := (Below.refl w8.heap.size w8).alloc (Nat.le_refl _) (.cells #[.int .i64 limit, .slice a l.length c] 24)
  have hX9 := Blk.new w8 24 #[.int .i64 limit, .slice a l.length c]
  have hs9 := alloc_size w8 (.cells #[.int .i64 limit, .slice a l.length c] 24)
  have HMK := "D"
  go_upto_region 9 with fail
  generalize w8.alloc (.cells #[.int .i64 limit, .slice a l.length c] 24) = w9 at *
  have hb09 := hb08.trans (hq9.mono hb08.size)
  have hA9 := hA8.old hq9
  have hP9 := hP8.old hq9
  have HV9 : Hid (VIn w9 w7.heap.size w8.heap.size v p) := HV8.out.old hq9 (Nat.le_refl _)
  have hz9 := hb09.size
  clear c0 c1 HV8 hA8 hP8 hb08 hq9 HMK
  have c1 : w9.cell? ⟨w.heap.size, 1, none⟩ = some (.slice a l.length c) := hA9.cell 1
  have hle := lentF_list (l := l) hl2 hf2 a c n₀ w9 (by omega) ((hin.keep hb09 hn₀).mono (Nat.le_refl _) (Nat.zero_le _))
  have HMK := "E"
  go_wp2_with fail
  refine hle.mono ?_
  rintro _ w10 ⟨g, rfl, hlif, hb10⟩
  have hb010 := hb09.trans (hb10.mono hb09.size)
  have hA10 := hA9.old hb10
  have hP10 := hP9.old hb10
  have hX10 := hX9.old hb10
  have HV10 : Hid (VIn w10 w7.heap.size w8.heap.size v p) := HV9.out.old hb10 (by omega)
  have hz10 := hb010.size
  have hz910 := hb10.size
  clear hle hA9 hP9 hX9 hb09 hb10 HV9 c1 HMK
  have x1 : w10.cell? ⟨w8.heap.size, 1, none⟩ = some (.slice a l.length c) := hX10.cell 1
  have xf := hX10.frozen 1
  have hX11 := hX10.set 1 (.slice (some ⟨g, 0, none⟩) l.length (l.length + 2))
  have hA11 := hA10.other (p := ⟨w8.heap.size, 1, none⟩) (by show w.heap.size ≠ w8.heap.size; omega) (.slice (some ⟨g, 0, none⟩) l.length (l.length + 2))
  have hP11 := hP10.other (p := ⟨w8.heap.size, 1, none⟩) (by show w.heap.size + 1 ≠ w8.heap.size; omega) (.slice (some ⟨g, 0, none⟩) l.length (l.length + 2))
  have hb011 := hb010.setCell (p := ⟨w8.heap.size, 1, none⟩) (by show w.heap.size ≤ w8.heap.size; omega) (.slice (some ⟨g, 0, none⟩) l.length (l.length + 2))
  have HV11 : Hid (VIn (w10.setCell ⟨w8.heap.size, 1, none⟩ (.slice (some ⟨g, 0, none⟩) l.length (l.length + 2))) w7.heap.size w8.heap.size v p) := HV10.out.keep fun b _ h2 => Below.heap_setCell w10 ⟨w8.heap.size, 1, none⟩ _ b (by show b ≠ w8.heap.size; omega)
  have HL11 : Hid (LIf (w10.setCell ⟨w8.heap.size, 1, none⟩ (.slice (some ⟨g, 0, none⟩) l.length (l.length + 2))) w9.heap.size w10.heap.size l g) := hlif.keep fun b h1 _ => Below.heap_setCell w10 ⟨w8.heap.size, 1, none⟩ _ b (by show b ≠ w8.heap.size; omega)
  have hz11 : (w10.setCell ⟨w8.heap.size, 1, none⟩ (.slice (some ⟨g, 0, none⟩) l.length (l.length + 2))).heap.size = w10.heap.size := by simp [World.setCell]
  have HMK := "F"
  go_upto_region 10 with fail
  generalize w10.setCell ⟨w8.heap.size, 1, none⟩ (.slice (some ⟨g, 0, none⟩) l.length (l.length + 2)) = w11 at *
  have HXB : Hid (Blk w11 w8.heap.size 24 #[.int .i64 limit, .slice (some ⟨g, 0, none⟩) l.length (l.length + 2)]) := by
    have := hX11
    show Blk _ _ _ _
    simpa using this
  clear x1 xf hX11 hX10 hA10 hP10 hb010 HV10 hlif HMK

  have x0 : w11.cell? ⟨w8.heap.size, 0, none⟩ = some (.int .i64 limit) := HXB.out.cell 0
  have x1 : w11.cell? ⟨w8.heap.size, 1, none⟩ = some (.slice (some ⟨g, 0, none⟩) l.length (l.length + 2)) := HXB.out.cell 1
  have hT11 := hT.own hb011
  have hE11 := hE.old hz0 hb011
  obtain ⟨R, hR⟩ : ∃ R, argE (chkS bndQ limit l).1 (unf utfAt (.mk tupO l) p) = R := ⟨_, rfl⟩
  have hRc := arg_code _ _ p hdep hR
  have HFC : Hid (∀ W, Below w11.heap.size w11 W → Calls Tryz.prog 15 #[.agg #[.int .i64 limit, .slice (some ⟨g, 0, none⟩) l.length (l.length + 2)], v] W (ErrPost R W)) := fun W hW => by
    have h := fitCheck_any limit l hf1 hl1 (some ⟨g, 0, none⟩) (l.length + 2) w9.heap.size w10.heap.size (by omega) v p hmay (by omega) w7.heap.size w8.heap.size W (by have := hW.size; omega) (by have := hW.size; omega) (HL11.out.old hW (by omega)).fin (HV11.out.old hW (by omega)) (hT11.own hW) (hE11.old (by omega) hW)
    rw [hR] at h
    exact h
  have hch := HFC.out w11 (Below.refl _ _)
  have HMK := "G"
  go_wp2_with fail
  refine hch.mono ?_
  intro e w12 hEP
  obtain ⟨ev, rfl, hEP⟩ := hEP.val
  have hb12 := hEP.1
  have hz12 := hb12.size
  have HE1 : Hid (ErrPost R w11 (.returned ev) w12) := hEP
  clear hch hEP x0 x1 HMK
  have x0 : w12.cell? ⟨w8.heap.size, 0, none⟩ = some (.int .i64 limit) := (HXB.out.old hb12).cell 0
  have x1 : w12.cell? ⟨w8.heap.size, 1, none⟩ = some (.slice (some ⟨g, 0, none⟩) l.length (l.length + 2)) := (HXB.out.old hb12).cell 1
  have hch := HFC.out w12 hb12
  have HMK := "H"
  go_wp2_with fail
  refine hch.mono ?_
  intro e w13 hEP
  obtain ⟨ev2, rfl, hEP⟩ := hEP.val
  have hb13 := hEP.1
  have hz13 := hb13.size
  have hb1113 := hb12.trans (hb13.mono hb12.size)
  have HE2 : Hid (ErrPost R w12 (.returned ev2) w13) := hEP
  clear hch hEP x0 x1 HMK HFC
  have x1 : w13.cell? ⟨w8.heap.size, 1, none⟩ = some (.slice (some ⟨g, 0, none⟩) l.length (l.length + 2)) := (HXB.out.old hb1113).cell 1
  have c1 : w13.cell? ⟨w.heap.size, 1, none⟩ = some (.slice a l.length c) := (hA11.old hb1113).cell 1
  have HKF : Hid (∀ W, Below w11.heap.size w11 W → Calls Tryz.prog 16 #[.slice (some ⟨g, 0, none⟩) l.length (l.length + 2), .slice a l.length c] W fun e w' => e = .returned (.bool true) ∧ Below W.heap.size W w') := fun W hW => by
    have hz := hW.size
    exact keptF_list (l := l) hl2 hf2 g a c w9.heap.size w10.heap.size n₀ W (by omega) (by omega) (HL11.out.old hW (by omega)) ((hin.keep (hb011.trans (hW.mono (by omega))) hn₀).mono (Nat.le_refl _) (Nat.zero_le _))
  have hkp := HKF.out w13 hb1113
  have HMK := "I"
  go_wp2_with fail
  refine hkp.mono ?_
  rintro _ w14 ⟨rfl, hb14⟩
  have hb1114 := hb1113.trans (hb14.mono hb1113.size)
  have hz14 := hb14.size
  have hb014 := hb011.trans (hb1114.mono (by omega))
  clear hkp x1 c1 HMK
  have c0 : w14.cell? ⟨w.heap.size, 0, none⟩ = some (.int .i64 limit) := (hA11.old hb1114).cell 0
  have c1 : w14.cell? ⟨w.heap.size, 1, none⟩ = some (.slice a l.length c) := (hA11.old hb1114).cell 1
  obtain ⟨q0, q1, q2, q3, q4, q5⟩ := (hP11.old hb1114).c6
  have hwy := checkWhy_any limit l hf1 hl1 p hmay (by omega) a pa c pc lo n₀ hc w14 (by omega) (hin.keep hb014 hn₀) (hpin.keep hb014 hn₀)
  rw [hR] at hwy
  have HMK := "J"
  go_wp2_with fail
  refine hwy.mono ?_
  intro e w15 hIP
  obtain ⟨cc, aa, ix, ixn, ixc, yy, rfl, hb15, hI⟩ := inn_own hIP
  have HI0 : Hid (InnAt R w15 w14.heap.size (.agg #[.int .i64 cc, .int .i64 aa, .slice ix ixn ixc]) yy) := hI
  have hz15 := hb15.size
  clear hwy hIP hI c0 c1 q0 q1 q2 q3 q4 q5 HMK
  have hq16 := (Below.refl w15.heap.size w15).alloc (Nat.le_refl _) (.cells #[.int .i64 cc, .int .i64 aa, .slice ix ixn ixc] 47)
  have hW16 := Blk.new w15 47 #[.int .i64 cc, .int .i64 aa, .slice ix ixn ixc]
  have hs16 := alloc_size w15 (.cells #[.int .i64 cc, .int .i64 aa, .slice ix ixn ixc] 47)
  have HMK := "K"
  go_upto_region 14 with fail
  generalize w15.alloc (.cells #[.int .i64 cc, .int .i64 aa, .slice ix ixn ixc] 47) = w16 at *
  have hb1416 := hb15.trans (hq16.mono hb15.size)
  have hb1116 := hb1114.trans (hb1416.mono (by omega))
  have hb1316 := hb14.trans (hb1416.mono (by omega))
  have HI1 : Hid (InnAt R w16 w14.heap.size (.agg #[.int .i64 cc, .int .i64 aa, .slice ix ixn ixc]) yy) := HI0.out.keep fun b _ q => hq16.block b q
  have hb016 := hb011.trans (hb1116.mono (by omega))
  clear HI0 hq16 hb1416 hb15 hb14 hb1114 hb1113 hb014 hb13 HMK
  have d0 : w16.cell? ⟨w15.heap.size, 0, none⟩ = some (.int .i64 cc) := hW16.cell 0
  have d1 : w16.cell? ⟨w15.heap.size, 1, none⟩ = some (.int .i64 aa) := hW16.cell 1
  have d2 : w16.cell? ⟨w15.heap.size, 2, none⟩ = some (.slice ix ixn ixc) := hW16.cell 2
  have hb1216 : Below w12.heap.size w12 w16 := (HE2.out.1).trans (hb1316.mono hz13)
  have htd := told_any R w11 w16 ev (HE1.out.keep hb1216) hRc (.agg #[.int .i64 cc, .int .i64 aa, .slice ix ixn ixc]) yy HI1.out.told (hE.old hz0 hb016) (by omega)
  have HMK := "L"
  go_wp2_with fail
  refine htd.mono ?_
  rintro _ w17 ⟨rfl, hb17⟩
  have hz17 := hb17.size
  have hb1117 := hb1116.trans (hb17.mono (by omega))
  have hb1217 := hb1216.trans (hb17.mono (by omega))
  have hb1317 := hb1316.trans (hb17.mono (by omega))
  have hW17 := hW16.old hb17
  have HI2 : Hid (InnAt R w17 w14.heap.size (.agg #[.int .i64 cc, .int .i64 aa, .slice ix ixn ixc]) yy) := HI1.out.keep fun b _ q => hb17.block b q
  have hb017 := hb016.trans (hb17.mono (by omega))
  clear htd d0 d1 d2 HI1 hb1116 hb1216 hb1316 hb016 hb17 HMK hW16
  have hsp := spoil_any R w11 w12 w17 ev HE1.out hRc hb1217 (hE.old hz0 hb017) (by omega)
  have HMK := "M"
  go_wp2_with fail
  refine hsp.mono ?_
  rintro _ w18 ⟨rfl, hSp⟩
  have hb18 := hSp.below
  have hz18 := hb18.size
  have hb1118 := hb1117.trans hb18
  have hW18 : Blk w18 w15.heap.size 47 #[.int .i64 cc, .int .i64 aa, .slice ix ixn ixc] := (hSp.above w15.heap.size (by omega) hW17.lt).trans hW17
  have HI3 : Hid (InnAt R w18 w14.heap.size (.agg #[.int .i64 cc, .int .i64 aa, .slice ix ixn ixc]) yy) := HI2.out.keep fun b q1 q2 => hSp.above b (by omega) q2
  have hb018 := hb011.trans (hb1118.mono (by omega))
  have htd := told_behind R w11.heap.size w12 w13 w17 w18 ev2 HE2.out hb1317 hSp hRc (.agg #[.int .i64 cc, .int .i64 aa, .slice ix ixn ixc]) yy HI3.out.told (hE.old hz0 hb018) (by omega)
  clear hsp hb18 hSp hW17 HI2 hb017 hb1117 hb1217 hb1317 HMK HE1 HE2
  have d0 : w18.cell? ⟨w15.heap.size, 0, none⟩ = some (.int .i64 cc) := hW18.cell 0
  have d1 : w18.cell? ⟨w15.heap.size, 1, none⟩ = some (.int .i64 aa) := hW18.cell 1
  have d2 : w18.cell? ⟨w15.heap.size, 2, none⟩ = some (.slice ix ixn ixc) := hW18.cell 2
  have HMK := "N"
  go_wp2_with fail
  refine htd.mono ?_
  rintro _ w19 ⟨rfl, hb19⟩
  have hz19 := hb19.size
  have hb1119 := hb1118.trans (hb19.mono (by omega))
  have hW19 := hW18.old hb19
  clear htd d0 d1 d2 HI3 hb018 hb19 HMK hW18 hb1118 hRc hR

  have HMK := "O"
  go_wp2_with fail
  go_loopw [17] (fun iv wr => ∃ (j : Nat) (z0 z1 : Int) (zx : Option Addr) (zn zc : Nat), j ≤ l.length ∧ j ≤ 70 ∧ iv = .int .i64 (j : Int) ∧ Hid (Blk wr w15.heap.size 47 #[.int .i64 z0, .int .i64 z1, .slice zx zn zc]) ∧ Below w11.heap.size w11 wr) (fun iv _ => l.length - (intOf iv).toNat)
  case atStart => exact ⟨0, cc, aa, ix, ixn, ixc, Nat.zero_le _, Nat.zero_le _, rfl, hW19, hb1119⟩
  case round =>
    clear hW19 hb1119 HMK
    obtain ⟨j, z0, z1, zx, zn, zc, hj, hj70, rfl, HWB, hb⟩ := hrel
    have hsz := hb.size
    have c1 : wr.cell? ⟨w.heap.size, 1, none⟩ = some (.slice a l.length c) := (hA11.old hb).cell 1
    by_cases hlt : j < l.length ∧ j < 70
    · obtain ⟨hlt, hlt70⟩ := hlt
      have tl : decide ((j : Int) < (l.length : Int)) = true := decide_eq_true (by omega)
      have tl2 : decide (j < l.length) = true := decide_eq_true hlt
      have tl3 : decide ((j : Int) < 70) = true := decide_eq_true (by omega)
      have tl4 : decide (j < 70) = true := decide_eq_true hlt70
      have hji : (j : Int) < (l.length : Int) := by omega
      have hb0r := hb011.trans (hb.mono (by omega))
      have hq1 := (Below.refl wr.heap.size wr).alloc (Nat.le_refl _) (.cells #[.int .u8 0, .bool false, .bool false, .string ⟨#[]⟩, .string ⟨#[]⟩, .slice none 0 0] 30)
      have hQ1 := Blk.new wr 30 #[.int .u8 0, .bool false, .bool false, .string ⟨#[]⟩, .string ⟨#[]⟩, .slice none 0 0]
      have hs1 := alloc_size wr (.cells #[.int .u8 0, .bool false, .bool false, .string ⟨#[]⟩, .string ⟨#[]⟩, .slice none 0 0] 30)
      go_upto_region 23 with fail
      generalize wr.alloc (.cells #[.int .u8 0, .bool false, .bool false, .string ⟨#[]⟩, .string ⟨#[]⟩, .slice none 0 0] 30) = w20 at *
      have hb20 := hb.trans (hq1.mono (by omega))
      have hb020 := hb0r.trans (hq1.mono (by omega))
      have HW20 : Hid (Blk w20 w15.heap.size 47 #[.int .i64 z0, .int .i64 z1, .slice zx zn zc]) := HWB.out.old hq1
      have HQX : Hid (w15.heap.size < wr.heap.size) := HWB.out.lt
      clear c1
      have p5 : w20.cell? ⟨w.heap.size + 1, 5, none⟩ = some (.slice pa p.items.length pc) := (hP11.old hb20).cell 5
      obtain ⟨bt, tb2⟩ : ∃ bt, decide (j < p.items.length) = bt := ⟨_, rfl⟩
      have tb : decide ((j : Int) < (p.items.length : Int)) = bt := by rw [← tb2]; simp
      go_upto_if 111 with fail
      have HBT : Hid (decide (j < p.items.length) = bt) := tb2
      clear tb tb2
      go_cut [18] from 107 to 116 (fun u wx => u = .pointer (some ⟨wr.heap.size, 0, none⟩) ∧ ∃ (q : Prt) (qa : Option Addr) (qc : Nat), Hid (Blk wx wr.heap.size 30 #[.int .u8 q.kind, .bool q.yes, .bool q.neg, .string q.mag, .string q.raw, .slice qa q.items.length qc]) ∧ Hid (PIn wx lo n₀ q qa ∧ Fits q ∧ may q = true ∧ dep q ≤ 16) ∧ Hid ((q = p.items[j]?.getD (Prt.mk 0 false false ⟨#[]⟩ ⟨#[]⟩ []))) ∧ Hid (Below wr.heap.size wr wx))
      case first =>
        cases bt with
        | true =>
          have hi : j < p.items.length := of_decide_eq_true HBT.out
          have ti : decide ((j : Int) < (p.items.length : Int)) = true := decide_eq_true (by omega)
          have ti2 : decide (j < p.items.length) = true := decide_eq_true hi
          have hii : (j : Int) < (p.items.length : Int) := by omega
          obtain ⟨bp, po, ap, cp, ha, _, hbp, hrow0, hpj⟩ := (hpin.keep hb0r hn₀).at hi
          have hrow := hrow0.below hq1 (by omega)
          have hit := item_ok hp hmay hdep (List.getElem_mem hi)
          have hge : p.items[j]?.getD (Prt.mk 0 false false ⟨#[]⟩ ⟨#[]⟩ []) = p.items[j] := by simp [hi]
          obtain ⟨x, hx⟩ : ∃ x, p.items[j] = x := ⟨_, rfl⟩
          rw [hx] at hrow hpj hit hge
          subst ha
          obtain ⟨r0, r1, r2, r3, r4, r5⟩ := hrow
          obtain ⟨k0, k1, k2, k3, k4, k5⟩ := hQ1.c6
          have f0 := hQ1.frozen 0
          have f1 := hQ1.frozen 1
          have f2 := hQ1.frozen 2
          have f3 := hQ1.frozen 3
          have f4 := hQ1.frozen 4
          have f5 := hQ1.frozen 5
          have HQ1 : Hid (Blk w20 wr.heap.size 30 #[.int .u8 0, .bool false, .bool false, .string ⟨#[]⟩, .string ⟨#[]⟩, .slice none 0 0]) := hQ1
          have HQ2 : Hid (Below wr.heap.size wr w20) := hq1
          have HPJ : Hid (PIn wr lo n₀ x ap ∧ Fits x ∧ may x = true ∧ dep x ≤ 16) := ⟨hpj, hit⟩
          have HGE : Hid (p.items[j]?.getD (Prt.mk 0 false false ⟨#[]⟩ ⟨#[]⟩ []) = x) := hge
          clear hx hQ1 hq1 hpj hit hge hrow0 hi hin hpin
          go_wp2_with fail
          go_meet
          case rel =>
            have hq1 := HQ2.out
            have hQ1 := HQ1.out
            have hfin := (((((hQ1.set 0 (.int .u8 x.kind)).set 1 (.bool x.yes)).set 2 (.bool x.neg)).set 3 (.string x.mag)).set 4 (.string x.raw)).set 5 (.slice ap x.items.length cp)
            have hbw := (((((hq1.setCell (p := ⟨wr.heap.size, 0, none⟩) (Nat.le_refl _) (.int .u8 x.kind)).setCell (p := ⟨wr.heap.size, 1, none⟩) (Nat.le_refl _) (.bool x.yes)).setCell (p := ⟨wr.heap.size, 2, none⟩) (Nat.le_refl _) (.bool x.neg)).setCell (p := ⟨wr.heap.size, 3, none⟩) (Nat.le_refl _) (.string x.mag)).setCell (p := ⟨wr.heap.size, 4, none⟩) (Nat.le_refl _) (.string x.raw)).setCell (p := ⟨wr.heap.size, 5, none⟩) (Nat.le_refl _) (.slice ap x.items.length cp)
            exact ⟨rfl, x, ap, cp, by have := hfin; show Blk _ _ _ _; simpa using this, ⟨HPJ.out.1.keep hbw (by omega), HPJ.out.2⟩, HGE.out.symm, hbw⟩
        | false =>
          have hi : ¬ j < p.items.length := of_decide_eq_false HBT.out
          have hge : p.items[j]?.getD (Prt.mk 0 false false ⟨#[]⟩ ⟨#[]⟩ []) = Prt.mk 0 false false ⟨#[]⟩ ⟨#[]⟩ [] := by simp [Nat.le_of_not_lt hi]
          have hit : Fits (Prt.mk 0 false false ⟨#[]⟩ ⟨#[]⟩ []) ∧ may (Prt.mk 0 false false ⟨#[]⟩ ⟨#[]⟩ []) = true ∧ dep (Prt.mk 0 false false ⟨#[]⟩ ⟨#[]⟩ []) ≤ 16 := null_ok
          clear hi hin hpin
          go_wp2_with fail
          go_meet
          case rel => exact ⟨rfl, Prt.mk 0 false false ⟨#[]⟩ ⟨#[]⟩ [], none, 0, hQ1, ⟨.nil rfl, hit⟩, hge.symm, hq1⟩
      case rest =>
        obtain ⟨rfl, q, qa, qc, HQB, HQP, HQE, HQW⟩ := hcut
        clear hq1 hQ1 hs1 hb20 hb020 HW20
        have HWC : Hid (Blk wc w15.heap.size 47 #[.int .i64 z0, .int .i64 z1, .slice zx zn zc]) := HWB.out.old HQW.out
        have hzc := HQW.out.size
        have hqlt := HQB.out.lt
        have hb1c := hb.trans (HQW.out.mono (by omega))
        have hb0c := hb0r.trans (HQW.out.mono (by omega))
        obtain ⟨hqin, hqf, hqm, hqd⟩ := HQP.out
        have hqdp : deeper 16 q = false := by rw [deeper_dep]; exact decide_eq_false (by omega)
        have hmk : Calls Tryz.prog 13 #[.agg #[.int .u8 q.kind, .bool q.yes, .bool q.neg, .string q.mag, .string q.raw, .slice qa q.items.length qc]] wc fun e w' => Below wc.heap.size wc w' ∧ ∃ v, e = .returned (.tuple #[v, .int .i64 0]) ∧ VIn w' wc.heap.size w'.heap.size v q := by
          have h0 := make_any q hqf qa qc lo n₀ wc (by omega) hqin
          unfold pV at h0
          refine h0.mono ?_
          rintro e w' ⟨hb, ⟨h4, _⟩ | ⟨_, h4, _⟩ | ⟨_, _, h5⟩⟩
          · rw [hqdp] at h4; cases h4
          · rw [hqm] at h4; cases h4
          · exact ⟨hb, h5⟩
        obtain ⟨k0, k1, k2, k3, k4, k5⟩ := HQB.out.c6
        have HMK := "P"
        go_wp2_with fail
        refine hmk.mono ?_
        rintro _ w21 ⟨hb21, u, rfl, hu⟩
        have hz21 := hb21.size
        have hb1_21 := hb1c.trans (hb21.mono (by omega))
        have hb0_21 := hb0c.trans (hb21.mono (by omega))
        have HU : Hid (VIn w21 wc.heap.size w21.heap.size u q) := hu
        have HQ21 : Hid (Blk w21 wr.heap.size 30 #[.int .u8 q.kind, .bool q.yes, .bool q.neg, .string q.mag, .string q.raw, .slice qa q.items.length qc]) := HQB.out.old hb21
        have HW21 : Hid (Blk w21 w15.heap.size 47 #[.int .i64 z0, .int .i64 z1, .slice zx zn zc]) := HWC.out.old hb21
        have HQI : Hid (PIn w21 lo n₀ q qa) := hqin.keep hb21 (by omega)
        clear hmk k0 k1 k2 k3 k4 k5 HQB HWC hu hb21 HMK hb1c hb0c hqin hqdp
        obtain ⟨hg21, gj, hrow, hlj⟩ := (HL11.out.old hb1_21 (by omega)).item hlt
        obtain ⟨x, hx⟩ : ∃ x, l[j] = x := ⟨_, rfl⟩
        have hfx := hf1 l[j] (List.getElem_mem hlt)
        rw [hx] at hrow hlj hfx
        obtain ⟨r0, r1, r2, r3, r4, r5, r6, r7, r8, r9, r10, r11, r12, r13⟩ := hrow
        have x1 : w21.cell? ⟨w8.heap.size, 1, none⟩ = some (.slice (some ⟨g, 0, none⟩) l.length (l.length + 2)) := (HXB.out.old hb1_21).cell 1
        obtain ⟨R1, hR1⟩ : ∃ R1, argE (chkS bndQ 65536 [x]).1 (unf utfAt x q) = R1 := ⟨_, rfl⟩
        have hRc1 := arg_code _ x q hqd hR1
        have hff := fitField_any x hfx (some ⟨gj, 0, none⟩) (x.fields.length + 2) w9.heap.size w10.heap.size (by omega) u q hqm (by omega) wc.heap.size w21.heap.size w21 (by omega) (Nat.le_refl _) hlj.fin HU.out (hT.own hb0_21) (hE.old hz0 hb0_21)
        unfold fV at hff
        rw [hR1] at hff
        have HX1 : Hid (l[j] = x) := hx
        have HR1 : Hid (argE (chkS bndQ 65536 [x]).1 (unf utfAt x q) = R1) := hR1
        have HRC1 : Hid (∀ c a P y, R1 = some (c, a, P, y) → c ≠ 0 ∧ P.length ≤ 1000) := hRc1
        clear hx hlj HU hR1 hRc1
        have HMK := "Q"
        go_wp2_with fail
        refine hff.mono ?_
        intro e w22 hEP
        obtain ⟨ev3, rfl, hEP⟩ := hEP.val
        have hb22 := hEP.1
        have hz22 := hb22.size
        have hb1_22 := hb1_21.trans (hb22.mono (by omega))
        have hb0_22 := hb0_21.trans (hb22.mono (by omega))
        have HQ22 : Hid (Blk w22 wr.heap.size 30 #[.int .u8 q.kind, .bool q.yes, .bool q.neg, .string q.mag, .string q.raw, .slice qa q.items.length qc]) := HQ21.out.old hb22
        have HW22 : Hid (Blk w22 w15.heap.size 47 #[.int .i64 z0, .int .i64 z1, .slice zx zn zc]) := HW21.out.old hb22
        have HE3 : Hid (ErrPost R1 w21 (.returned ev3) w22) := hEP
        clear hff hEP r0 r1 r2 r3 r4 r5 r6 r7 r8 r9 r10 r11 r12 r13 x1 HQ21 HW21 HMK hb1_21 hb0_21
        obtain ⟨bb, off, aj, cj, ha, _, hbb, hrow2, hinj, hcj⟩ := (hin.keep hb011 hn₀).atC hlt
        rw [HX1.out] at hrow2 hinj hcj
        subst ha
        have HQI2 : Hid (PIn w22 lo n₀ q qa) := HQI.out.keep hb22 (by omega)
        have HWY : Hid (∀ W, Below w22.heap.size w22 W → Calls Tryz.prog 21 #[.agg #[.string x.own.name, .int .u8 x.own.kind, .bool x.own.down, .int .u8 x.own.nulls, .bool x.own.bnd, .bool x.own.ln, .string x.own.lm, .bool x.own.hn, .string x.own.hm, .int .i64 x.own.most, .int .i64 x.own.str, .bool x.own.shf, .bool x.own.bck, .slice aj x.fields.length cj], .agg #[.int .u8 q.kind, .bool q.yes, .bool q.neg, .string q.mag, .string q.raw, .slice qa q.items.length qc]] W (InnPost R1 W)) := fun W hW => by
          have hz := hW.size
          have h := fieldWhy_any x.own x.fields (by cases x; exact hfx) q hqm (by omega) aj qa cj qc lo n₀ hcj W (by omega) (hinj.keep (hb1_22.trans (hW.mono (by omega))) (by omega)) (HQI2.out.keep hW (by omega))
          have e : (Fld.mk x.own x.fields) = x := by cases x; rfl
          rw [e, HR1.out] at h
          exact h
        have HG1 : Hid (∀ zz, Below w11.heap.size w11 zz → zz.cell? ⟨w.heap.size, 1, none⟩ = some (.slice (some ⟨bb, off, none⟩) l.length c)) := fun zz h => (hA11.old h).cell 1
        have HG4 : Hid (∀ zz, Below w11.heap.size w11 zz → RowF zz bb (off + j * 14) x.own aj x.fields.length cj) := fun zz h => hrow2.below h (by omega)
        have HB22 : Hid (Below w11.heap.size w11 w22) := hb1_22
        clear hrow2 hinj hb22 HQI HQI2 hb1_22 hb0_22
        go_upto_region 27 with fail
        refine wp_region_held_drew (S := fun zz => Below w11.heap.size w11 zz ∧ Blk zz wr.heap.size 30 #[.int .u8 q.kind, .bool q.yes, .bool q.neg, .string q.mag, .string q.raw, .slice qa q.items.length qc]) (by kernel_rfl) ⟨HB22.out.drew, HQ22.out⟩ (fun hHeld => ?_)
        refine wpAnyH_takeD (i := 0) (some 130) (v := .pointer (some ⟨w.heap.size, 1, none⟩)) rfl rfl (by kernel_rfl) (by kernel_rfl) (by kernel_rfl) (fun _ _ _ h => h) (Or.inl ⟨by kernel_rfl, ?hya0⟩) (by assumption) ?resta0
        case hya0 => (intro zz hSx; (try dsimp only at hSx); go_simp; first | done | with_reducible rfl)
        try simp only [Act.put, List.setIfInBounds_toArray, List.set_cons_zero, List.set_cons_succ]
        refine wpAnyH_takeD (i := 1) (some 131) (v := .slice (some ⟨bb, off, none⟩) l.length c) rfl rfl (by kernel_rfl) (by kernel_rfl) (by kernel_rfl) (fun _ _ _ h => h) (Or.inl ⟨by kernel_rfl, ?hya1⟩) (by assumption) ?resta1
        case hya1 => (intro zz hSx; have q1 := HG1.out zz hSx.1; (try dsimp only at hSx); go_simp; first | done | with_reducible rfl)
        try simp only [Act.put, List.setIfInBounds_toArray, List.set_cons_zero, List.set_cons_succ]
        refine wpAnyH_takeD (i := 2) (some 132) (v := .int .i64 (j : Int)) rfl rfl (by kernel_rfl) (by kernel_rfl) (by kernel_rfl) (fun _ _ _ h => h) (Or.inl ⟨by kernel_rfl, ?hya2⟩) (by assumption) ?resta2
        case hya2 => (intro zz hSx; (try dsimp only at hSx); go_simp; first | done | with_reducible rfl)
        try simp only [Act.put, List.setIfInBounds_toArray, List.set_cons_zero, List.set_cons_succ]
        refine wpAnyH_takeD (i := 3) (some 133) (v := .pointer (some ⟨bb, off + j * 14, none⟩)) rfl rfl (by kernel_rfl) (by kernel_rfl) (by kernel_rfl) (fun _ _ _ h => h) (Or.inl ⟨by kernel_rfl, ?hya3⟩) (by assumption) ?resta3
        case hya3 => (intro zz hSx; (try dsimp only at hSx); go_simp; first | done | with_reducible rfl)
        try simp only [Act.put, List.setIfInBounds_toArray, List.set_cons_zero, List.set_cons_succ]
        refine wpAnyH_takeD (i := 4) (some 134) (v := .agg #[.string x.own.name, .int .u8 x.own.kind, .bool x.own.down, .int .u8 x.own.nulls, .bool x.own.bnd, .bool x.own.ln, .string x.own.lm, .bool x.own.hn, .string x.own.hm, .int .i64 x.own.most, .int .i64 x.own.str, .bool x.own.shf, .bool x.own.bck, .slice aj x.fields.length cj]) rfl rfl (by kernel_rfl) (by kernel_rfl) (by kernel_rfl) (fun _ _ _ h => h) (Or.inl ⟨by kernel_rfl, ?hya4⟩) (by assumption) ?resta4
        case hya4 => (intro zz hSx; obtain ⟨r0, r1, r2, r3, r4, r5, r6, r7, r8, r9, r10, r11, r12, r13⟩ := HG4.out zz hSx.1; (try dsimp only at hSx); go_simp; first | done | with_reducible rfl)
        try simp only [Act.put, List.setIfInBounds_toArray, List.set_cons_zero, List.set_cons_succ]
        refine wpAnyH_takeD (i := 5) (some 135) (v := .agg #[.int .u8 q.kind, .bool q.yes, .bool q.neg, .string q.mag, .string q.raw, .slice qa q.items.length qc]) rfl rfl (by kernel_rfl) (by kernel_rfl) (by kernel_rfl) (fun _ _ _ h => h) (Or.inl ⟨by kernel_rfl, ?hya5⟩) (by assumption) ?resta5
        case hya5 => (intro zz hSx; obtain ⟨k0, k1, k2, k3, k4, k5⟩ := hSx.2.c6; (try dsimp only at hSx); go_simp; first | done | with_reducible rfl)
        try simp only [Act.put, List.setIfInBounds_toArray, List.set_cons_zero, List.set_cons_succ]
        refine wpAnyH_ready (rs := [6]) (by kernel_rfl) (by simp) ?_
        refine AllReadyH.cons rfl (fun K hK => ?_) AllReadyH.nil
        go_simp
        go_wp2_with (go_at_call 21; refine (HWY.out _ ((Below.refl _ w22).drew)).mono ?_; intro e w23 hIP; obtain ⟨cd, ad, jx, jxn, jxc, yd, rfl, hb23, hI⟩ := inn_own hIP)
        have hb2223 : Below w22.heap.size w22 w23 := ((Below.refl _ w22).drew).trans hb23
        have HI4 : Hid (InnAt R1 w23 w22.heap.size (.agg #[.int .i64 cd, .int .i64 ad, .slice jx jxn jxc]) yd) := hI
        have hz23 : w22.heap.size ≤ w23.heap.size := hb2223.size
        have HB23 : Hid (Below w11.heap.size w11 w23) := HB22.out.trans (hb2223.mono (by omega))
        have HW23 : Hid (Blk w23 w15.heap.size 47 #[.int .i64 z0, .int .i64 z1, .slice zx zn zc]) := HW22.out.old hb2223
        have HQ23 : Hid (Blk w23 wr.heap.size 30 #[.int .u8 q.kind, .bool q.yes, .bool q.neg, .string q.mag, .string q.raw, .slice qa q.items.length qc]) := HQ22.out.old hb2223
        have HB2223 : Hid (Below w22.heap.size w22 w23) := hb2223
        refine hK.out _ _ ⟨HB23.out, HQ23.out⟩ (fun hHeld2 => ?_)
        clear hK K hIP hI hb23 hb2223
        try simp only [Act.put, List.setIfInBounds_toArray, List.set_cons_zero, List.set_cons_succ]
        refine wpAnyH_takeD (i := 7) (some 129) (v := .tuple #[.agg #[.int .i64 cd, .int .i64 ad, .slice jx jxn jxc], .int .i64 yd]) rfl rfl (by kernel_rfl) (by kernel_rfl) (by kernel_rfl) (fun _ _ _ h => h) (Or.inl ⟨by kernel_rfl, ?hyb7⟩) (by assumption) ?restb7
        case hyb7 => (intro zz hSx; (try dsimp only at hSx); go_simp; first | done | with_reducible rfl)
        try simp only [Act.put, List.setIfInBounds_toArray, List.set_cons_zero, List.set_cons_succ]
        refine wpAnyH_takeD (i := 8) (some 137) (v := .agg #[.int .i64 cd, .int .i64 ad, .slice jx jxn jxc]) rfl rfl (by kernel_rfl) (by kernel_rfl) (by kernel_rfl) (fun _ _ _ h => h) (Or.inl ⟨by kernel_rfl, ?hyb8⟩) (by assumption) ?restb8
        case hyb8 => (intro zz hSx; (try dsimp only at hSx); go_simp; first | done | with_reducible rfl)
        try simp only [Act.put, List.setIfInBounds_toArray, List.set_cons_zero, List.set_cons_succ]
        refine wpAnyH_takeD (i := 9) (some 138) (v := .int .i64 yd) rfl rfl (by kernel_rfl) (by kernel_rfl) (by kernel_rfl) (fun _ _ _ h => h) (Or.inl ⟨by kernel_rfl, ?hyb9⟩) (by assumption) ?restb9
        case hyb9 => (intro zz hSx; (try dsimp only at hSx); go_simp; first | done | with_reducible rfl)
        try simp only [Act.put, List.setIfInBounds_toArray, List.set_cons_zero, List.set_cons_succ]
        have d0 : w23.cell? ⟨w15.heap.size, 0, none⟩ = some (.int .i64 z0) := HW23.out.cell 0
        have d1 : w23.cell? ⟨w15.heap.size, 1, none⟩ = some (.int .i64 z1) := HW23.out.cell 1
        have d2 : w23.cell? ⟨w15.heap.size, 2, none⟩ = some (.slice zx zn zc) := HW23.out.cell 2
        have f0 := HW23.out.frozen 0
        have f1 := HW23.out.frozen 1
        have f2 := HW23.out.frozen 2
        refine wpAnyH_ready (rs := [10]) (by kernel_rfl) (by simp) ?_
        refine AllReadyH.cons rfl (fun K hK => ?_) AllReadyH.nil
        go_simp
        have hne : wr.heap.size ≠ w15.heap.size := by have := HQX.out; omega
        refine hK.out _ _ ⟨((HB23.out.setCell (p := ⟨w15.heap.size, 0, none⟩) (by show w11.heap.size ≤ w15.heap.size; omega) (.int .i64 cd)).setCell (p := ⟨w15.heap.size, 1, none⟩) (by show w11.heap.size ≤ w15.heap.size; omega) (.int .i64 ad)).setCell (p := ⟨w15.heap.size, 2, none⟩) (by show w11.heap.size ≤ w15.heap.size; omega) (.slice jx jxn jxc), ((HQ23.out.other (p := ⟨w15.heap.size, 0, none⟩) hne _).other (p := ⟨w15.heap.size, 1, none⟩) hne _).other (p := ⟨w15.heap.size, 2, none⟩) hne _⟩ (fun hHeld3 => ?_)
        clear hK K d0 d1 d2 f0 f1 f2 hne
        try simp only [Act.put, List.setIfInBounds_toArray, List.set_cons_zero, List.set_cons_succ]
        refine wpAnyH_takeD (i := 11) (some 14) (v := .int .i64 yd) rfl rfl (by kernel_rfl) (by kernel_rfl) (by kernel_rfl) (fun _ _ _ h => h) (Or.inl ⟨by kernel_rfl, ?hyb11⟩) (by assumption) ?restb11
        case hyb11 => (intro zz hSx; (try dsimp only at hSx); go_simp; first | done | with_reducible rfl)
        try simp only [Act.put, List.setIfInBounds_toArray, List.set_cons_zero, List.set_cons_succ]
        refine wpAnyH_done (by kernel_rfl) ?_ _
        have HSP : Hid (Spo w11.heap.size w21.heap.size w23 (((w23.setCell ⟨w15.heap.size, 0, none⟩ (.int .i64 cd)).setCell ⟨w15.heap.size, 1, none⟩ (.int .i64 ad)).setCell ⟨w15.heap.size, 2, none⟩ (.slice jx jxn jxc))) := by
          have hn : ∀ cs, ¬ Blk w23 w15.heap.size 100 cs := fun cs h => by have := (show w23.heap[w15.heap.size]? = _ from h).symm.trans HW23.out; cases this
          have hl := HQX.out
          exact (((Spo.of (Below.refl _ _) (by omega)).set (by omega) (by omega) (.inl hn) _).set (by omega) (by omega) (.inl hn) _).set (by omega) (by omega) (.inl hn) _
        have HI5 : Hid (InnAt R1 (((w23.setCell ⟨w15.heap.size, 0, none⟩ (.int .i64 cd)).setCell ⟨w15.heap.size, 1, none⟩ (.int .i64 ad)).setCell ⟨w15.heap.size, 2, none⟩ (.slice jx jxn jxc)) w22.heap.size (.agg #[.int .i64 cd, .int .i64 ad, .slice jx jxn jxc]) yd) := HI4.out.keep fun b q1 q2 => HSP.out.above b (by omega) q2
        have HW24 : Hid (Blk (((w23.setCell ⟨w15.heap.size, 0, none⟩ (.int .i64 cd)).setCell ⟨w15.heap.size, 1, none⟩ (.int .i64 ad)).setCell ⟨w15.heap.size, 2, none⟩ (.slice jx jxn jxc)) w15.heap.size 47 #[.int .i64 cd, .int .i64 ad, .slice jx jxn jxc]) := HW23.out.set3 _ _ _
        have HB24 : Hid (Below w11.heap.size w11 (((w23.setCell ⟨w15.heap.size, 0, none⟩ (.int .i64 cd)).setCell ⟨w15.heap.size, 1, none⟩ (.int .i64 ad)).setCell ⟨w15.heap.size, 2, none⟩ (.slice jx jxn jxc))) := hHeld3.1
        clear hHeld hHeld2 hHeld3 HQ22 HQ23 HB22 HB23 HW22 HW23 HI4 HWY HG1 HG4
        generalize ((w23.setCell ⟨w15.heap.size, 0, none⟩ (.int .i64 cd)).setCell ⟨w15.heap.size, 1, none⟩ (.int .i64 ad)).setCell ⟨w15.heap.size, 2, none⟩ (.slice jx jxn jxc) = w24 at *
        have hz24 := HSP.out.below.size
        have hb0_24 := hb011.trans (HB24.out.mono (by omega))
        have htd := told_behind R1 w11.heap.size w21 w22 w23 w24 ev3 HE3.out HB2223.out HSP.out HRC1.out (.agg #[.int .i64 cd, .int .i64 ad, .slice jx jxn jxc]) yd HI5.out.told (hE.old hz0 hb0_24) (by omega)
        have d0 : w24.cell? ⟨w15.heap.size, 0, none⟩ = some (.int .i64 cd) := HW24.out.cell 0
        have d1 : w24.cell? ⟨w15.heap.size, 1, none⟩ = some (.int .i64 ad) := HW24.out.cell 1
        have d2 : w24.cell? ⟨w15.heap.size, 2, none⟩ = some (.slice jx jxn jxc) := HW24.out.cell 2
        clear HE3 HB2223 HSP HRC1 HR1 HX1 HI5 hb0_24 HQP HQE HQW
        have HMK := "R"
        go_wp2_with fail
        refine htd.mono ?_
        rintro _ w25 ⟨rfl, hb25⟩
        have hz25 := hb25.size
        have hfin := HB24.out.trans (hb25.mono (by omega))
        have HW25 : Hid (Blk w25 w15.heap.size 47 #[.int .i64 cd, .int .i64 ad, .slice jx jxn jxc]) := HW24.out.old hb25
        clear htd d0 d1 d2 HW24 HB24 hb25 HMK
        go_wp2_with fail
        exact ⟨⟨j + 1, cd, ad, jx, jxn, jxc, by omega, by omega, by simp, HW25, hfin⟩, by simp only [intOf]; omega⟩
    · have hb0r := hb011.trans (hb.mono (by omega))
      have x1 : wr.cell? ⟨w8.heap.size, 1, none⟩ = some (.slice (some ⟨g, 0, none⟩) l.length (l.length + 2)) := (HXB.out.old hb).cell 1
      have hkp := HKF.out wr hb
      clear HWB hin
      by_cases hlt2 : j < l.length
      · have tl : decide ((j : Int) < (l.length : Int)) = true := decide_eq_true (by omega)
        have tl2 : decide (j < l.length) = true := decide_eq_true hlt2
        have tl3 : decide ((j : Int) < 70) = false := decide_eq_false (by omega)
        have tl4 : decide (j < 70) = false := decide_eq_false (by omega)
        have hn70 : ¬ (j : Int) < 70 := by omega
        have HMK := "S"
        go_wp2_with fail
        refine hkp.mono ?_
        rintro _ w31 ⟨rfl, hb31⟩
        have hz31 := hb31.size
        have hb1_31 := hb.trans (hb31.mono (by omega))
        have hb0_31 := hb0r.trans (hb31.mono (by omega))
        have htl := tell_any p hmay v w7.heap.size w8.heap.size w31 (by omega) (HV11.out.old hb1_31 (by omega))
        unfold pV at htl
        clear hkp x1 c1 HMK hb hb0r hb31
        have HMK := "T"
        go_wp2_with fail
        refine htl.mono ?_
        rintro _ w32 ⟨ta, tc, rfl, hta, hb32⟩
        have hz32 := hb32.size
        have hq33 := (Below.refl w32.heap.size w32).alloc (Nat.le_refl _) (.cells #[.int .u8 p.kind, .bool p.yes, .bool p.neg, .string p.mag, .string p.raw, .slice ta p.items.length tc] 30)
        have hT33 := Blk.new w32 30 #[.int .u8 p.kind, .bool p.yes, .bool p.neg, .string p.mag, .string p.raw, .slice ta p.items.length tc]
        have hb1_32 := hb1_31.trans (hb32.mono (by omega))
        have hb0_32 := hb0_31.trans (hb32.mono (by omega))
        have hb1_33 := hb1_32.trans (hq33.mono (by omega))
        have hb0_33 := hb0_32.trans (hq33.mono (by omega))
        have ht33 := hta.keep hq33 (Nat.le_refl _)
        have hz33 := hq33.size
        go_upto_region 33 with fail
        generalize w32.alloc (.cells #[.int .u8 p.kind, .bool p.yes, .bool p.neg, .string p.mag, .string p.raw, .slice ta p.items.length tc] 30) = w33 at *
        have hrs := rsame_any p hp p hp ta pa tc pc w31.heap.size w32.heap.size lo n₀ w33 (by omega) (by omega) ht33 (hpin.keep hb0_33 hn₀)
        rw [eqP_self] at hrs
        unfold pV at hrs
        obtain ⟨q0, q1, q2, q3, q4, q5⟩ := (hP11.old hb1_33).c6
        obtain ⟨e0, e1, e2, e3, e4, e5⟩ := hT33.c6
        clear htl hta hb32 hq33 hb1_32 hb0_32 ht33 hb1_31 hb0_31 HMK hpin
        have HMK := "U"
        go_wp2_with fail
        refine hrs.mono ?_
        rintro _ w34 ⟨rfl, hb34⟩
        have hb034 := hb0_33.trans (hb34.mono (by omega))
        clear hrs q0 q1 q2 q3 q4 q5 e0 e1 e2 e3 e4 e5 HMK
        go_wp2_with fail
        go_ret
        exact ⟨rfl, hb034⟩
      · have tl : decide ((j : Int) < (l.length : Int)) = false := decide_eq_false (by omega)
        have tl2 : decide (j < l.length) = false := decide_eq_false hlt2
        have HMK := "S"
        go_wp2_with fail
        refine hkp.mono ?_
        rintro _ w31 ⟨rfl, hb31⟩
        have hz31 := hb31.size
        have hb1_31 := hb.trans (hb31.mono (by omega))
        have hb0_31 := hb0r.trans (hb31.mono (by omega))
        have htl := tell_any p hmay v w7.heap.size w8.heap.size w31 (by omega) (HV11.out.old hb1_31 (by omega))
        unfold pV at htl
        clear hkp x1 c1 HMK hb hb0r hb31
        have HMK := "T"
        go_wp2_with fail
        refine htl.mono ?_
        rintro _ w32 ⟨ta, tc, rfl, hta, hb32⟩
        have hz32 := hb32.size
        have hq33 := (Below.refl w32.heap.size w32).alloc (Nat.le_refl _) (.cells #[.int .u8 p.kind, .bool p.yes, .bool p.neg, .string p.mag, .string p.raw, .slice ta p.items.length tc] 30)
        have hT33 := Blk.new w32 30 #[.int .u8 p.kind, .bool p.yes, .bool p.neg, .string p.mag, .string p.raw, .slice ta p.items.length tc]
        have hb1_32 := hb1_31.trans (hb32.mono (by omega))
        have hb0_32 := hb0_31.trans (hb32.mono (by omega))
        have hb1_33 := hb1_32.trans (hq33.mono (by omega))
        have hb0_33 := hb0_32.trans (hq33.mono (by omega))
        have ht33 := hta.keep hq33 (Nat.le_refl _)
        have hz33 := hq33.size
        go_upto_region 33 with fail
        generalize w32.alloc (.cells #[.int .u8 p.kind, .bool p.yes, .bool p.neg, .string p.mag, .string p.raw, .slice ta p.items.length tc] 30) = w33 at *
        have hrs := rsame_any p hp p hp ta pa tc pc w31.heap.size w32.heap.size lo n₀ w33 (by omega) (by omega) ht33 (hpin.keep hb0_33 hn₀)
        rw [eqP_self] at hrs
        unfold pV at hrs
        obtain ⟨q0, q1, q2, q3, q4, q5⟩ := (hP11.old hb1_33).c6
        obtain ⟨e0, e1, e2, e3, e4, e5⟩ := hT33.c6
        clear htl hta hb32 hq33 hb1_32 hb0_32 ht33 hb1_31 hb0_31 HMK hpin
        have HMK := "U"
        go_wp2_with fail
        refine hrs.mono ?_
        rintro _ w34 ⟨rfl, hb34⟩
        have hb034 := hb0_33.trans (hb34.mono (by omega))
        clear hrs q0 q1 q2 q3 q4 q5 e0 e1 e2 e3 e4 e5 HMK
        go_wp2_with fail
        go_ret
        exact ⟨rfl, hb034⟩

end Go.Proofs.YtkjoomdglealmaaGreatDoor
