/- What the statement FitFields does (a contract; nothing is claimed here). -/
import Derived.Test.YtkjoomdglealmaaGreatDoorJ24
import Derived.Test.YtkjoomdglealmaaGreatDoorJ26
import Derived.Test.YtkjoomdglealmaaGreatDoorJ29
import Derived.Test.YtkjoomdglealmaaGreatDoorJ28
import Derived.Test.YtkjoomdglealmaaGreatDoorJ30
namespace Go.Proofs.YtkjoomdglealmaaGreatDoor
open Go.RowKit Go.Vf
theorem ErrPost.keep {r : Bad} {w w1 w2 : World} {v : Value} (h : ErrPost r w (.returned v) w1) (hb : Below w1.heap.size w1 w2) : ErrPost r w (.returned v) w2 := by
  refine ⟨h.1.trans (hb.mono h.1.size), ?_⟩
  cases r with
  | none => exact h.2
  | some q =>
    obtain ⟨cc, aa, P, y⟩ := q
    obtain ⟨_, v, why, h2, ⟨F, x, z, h3, h4, h5, h6, h8⟩, h7⟩ := h
    exact ⟨v, why, h2, ⟨F, x, z, h3, h4, h5.old hb, own_blocks h6 (fun i hi => by obtain ⟨_, cs', f, hh⟩ := own_ge h6 hi; exact hb.block i (Array.getElem?_eq_some_iff.1 hh).1), h8⟩, h7.old hb⟩
theorem wdL_fitsS : ∀ (N : Nat) (l : List Fld), SizeOf.sizeOf l ≤ N → (∀ x ∈ l, FitsF 281474976710656 x) → ∀ (d n : Nat), wdL d n l ≤ wdB → n + 64 * l.length ≤ wdL d n l ∧ ∀ x ∈ l, FitsF 67108864 x := by
  intro N
  induction N with
  | zero => intro l h; cases l <;> simp at h
  | succ N ih =>
    intro l hl hf d n hle
    have hW : wdB = 67108864 := rfl
    cases l with
    | nil => rw [wdL_nil]; exact ⟨by simp, fun x hx => by simp at hx⟩
    | cons f r =>
      by_cases h : n ≤ wdB
      · have hff := hf f (by simp)
        have hs1 : SizeOf.sizeOf f.fields ≤ N := by obtain ⟨o, fl⟩ := f; simp [Fld.fields] at hl ⊢; omega
        have hs2 : SizeOf.sizeOf r ≤ N := by simp at hl; omega
        rw [wdL_cons h] at hle ⊢
        obtain ⟨g1, g2⟩ := ih r hs2 (fun x hx => hf x (by simp [hx])) d _ hle
        have hq : wd f.fields (n + 64 + f.own.name.size + f.own.lm.size + f.own.hm.size) (d + 1) ≤ wdB := by omega
        have h3 : ¬ 300 < d + 1 := fun h3 => by rw [wd, if_pos h3] at hq; omega
        rw [wd, if_neg h3] at hq g1 ⊢
        obtain ⟨g3, g4⟩ := ih f.fields hs1 (fun x hx => hff.mem hx) _ _ hq
        refine ⟨by rw [List.length_cons]; omega, fun x hx => ?_⟩
        rcases List.mem_cons.1 hx with rfl | hx
        · have o := hff.own
          exact .mk ⟨o.k0, o.k1, o.n0, o.n1, by omega, by omega, by omega, o.m0, o.m1, o.s0, o.s1⟩ (by omega) g4
        · exact g2 x hx
      · rw [wdL_above h] at hle; exact absurd hle h
theorem wd_fitsS {l : List Fld} {n : Nat} (hf : ∀ x ∈ l, FitsF 281474976710656 x) (h : wd l n 0 ≤ wdB) : l.length ≤ 67108864 ∧ ∀ x ∈ l, FitsF 67108864 x := by
  have hW : wdB = 67108864 := rfl
  rw [wd, if_neg (by omega)] at h
  obtain ⟨h1, h2⟩ := wdL_fitsS _ l (Nat.le_refl _) hf 0 n h
  exact ⟨by omega, h2⟩

theorem arg_code (q : Int) (f : Fld) (p : Prt) (hd : dep p ≤ 16) {R : Bad} (hR : argE q (unf utfAt f p) = R) : ∀ c a P y, R = some (c, a, P, y) → c ≠ 0 ∧ P.length ≤ 1000 := by
  intro c a P y h
  subst h
  unfold argE at hR
  split at hR
  · exact ⟨unf_code p f c a P y hR, Nat.le_trans (unf_len p f c a P y hR) (by omega)⟩
  · cases hR; exact ⟨by decide, by simp⟩
theorem inn_val {r : Bad} {w w' : World} {e : Ending} (h : InnPost r w e w') : ∃ (cc aa : Int) (x : Option Addr) (n cp : Nat) (y : Int), e = .returned (.tuple #[.agg #[.int .i64 cc, .int .i64 aa, .slice x n cp], .int .i64 y]) ∧ Below w.heap.size w w' ∧
    ((r = none ∧ Value.agg #[.int .i64 cc, .int .i64 aa, .slice x n cp] = .agg #[.int .i64 0, .int .i64 0, .slice none 0 0] ∧ y = 0) ∨ ∃ c a P v, r = some (c, a, P, y) ∧ Value.agg #[.int .i64 cc, .int .i64 aa, .slice x n cp] = .agg #[.int .i64 c, .int .i64 a, v] ∧ Ints w'.heap.size w' v P) := by
  cases r with
  | none => exact ⟨0, 0, none, 0, 0, 0, h.2, h.1, .inl ⟨rfl, rfl, rfl⟩⟩
  | some q =>
    obtain ⟨cc, aa, P, y⟩ := q
    obtain ⟨h1, v, h2, h3⟩ := h
    obtain ⟨x, cp, rfl⟩ := h3.val
    exact ⟨cc, aa, x, P.length, cp, y, h2, h1, .inr ⟨cc, aa, P, _, rfl, rfl, h3.ints⟩⟩
set_option maxHeartbeats 16000000 in
set_option maxRecDepth 40000 in
theorem fitFields_any (o : Go.Vf.Own) (l : List Fld) (p : Prt) (a pa : Option Addr) (c pc lo n₀ : Nat) (w : World) (hf : FitsF 281474976710656 (.mk o l)) (hp : Fits p) (hc : l.length ≤ c) (hn₀ : n₀ ≤ w.heap.size) (hin : FIn w lo n₀ l a) (hpin : PIn w lo n₀ p pa) (hT : Tabs w) (hE : ErrT w) :
    Calls Tryz.prog 4 #[fV o a l.length c, pV p pa pc] w fun e w' => e = .returned (.bool true) ∧ Below w.heap.size w w' := by
  have h3z := hT.size
  have hb1 := (Below.refl w.heap.size w).alloc (Nat.le_refl _) (.cells #[.string o.name, .int .u8 o.kind, .bool o.down, .int .u8 o.nulls, .bool o.bnd, .bool o.ln, .string o.lm, .bool o.hn, .string o.hm, .int .i64 o.most, .int .i64 o.str, .bool o.shf, .bool o.bck, .slice a l.length c] 57)
  have hs1 := alloc_size w (.cells #[.string o.name, .int .u8 o.kind, .bool o.down, .int .u8 o.nulls, .bool o.bnd, .bool o.ln, .string o.lm, .bool o.hn, .string o.hm, .int .i64 o.most, .int .i64 o.str, .bool o.shf, .bool o.bck, .slice a l.length c] 57)
  have hA1 := Blk.new w 57 #[.string o.name, .int .u8 o.kind, .bool o.down, .int .u8 o.nulls, .bool o.bnd, .bool o.ln, .string o.lm, .bool o.hn, .string o.hm, .int .i64 o.most, .int .i64 o.str, .bool o.shf, .bool o.bck, .slice a l.length c]
  have hb12 := (Below.refl _ (w.alloc (.cells #[.string o.name, .int .u8 o.kind, .bool o.down, .int .u8 o.nulls, .bool o.bnd, .bool o.ln, .string o.lm, .bool o.hn, .string o.hm, .int .i64 o.most, .int .i64 o.str, .bool o.shf, .bool o.bck, .slice a l.length c] 57))).alloc (Nat.le_refl _) (.cells #[.int .u8 p.kind, .bool p.yes, .bool p.neg, .string p.mag, .string p.raw, .slice pa p.items.length pc] 30)
  have hb2 := hb1.trans (hb12.mono hb1.size)
  have hP2 := Blk.new (w.alloc (.cells #[.string o.name, .int .u8 o.kind, .bool o.down, .int .u8 o.nulls, .bool o.bnd, .bool o.ln, .string o.lm, .bool o.hn, .string o.hm, .int .i64 o.most, .int .i64 o.str, .bool o.shf, .bool o.bck, .slice a l.length c] 57)) 30 #[.int .u8 p.kind, .bool p.yes, .bool p.neg, .string p.mag, .string p.raw, .slice pa p.items.length pc]
  have hA2 := hA1.old hb12
  rw [hs1] at hP2
  unfold fV pV
  go_enter Tryz.func4, Tryz.ntmps4
  go_upto_region 1 with fail
  generalize ((w.alloc (.cells #[.string o.name, .int .u8 o.kind, .bool o.down, .int .u8 o.nulls, .bool o.bnd, .bool o.ln, .string o.lm, .bool o.hn, .string o.hm, .int .i64 o.most, .int .i64 o.str, .bool o.shf, .bool o.bck, .slice a l.length c] 57)).alloc (.cells #[.int .u8 p.kind, .bool p.yes, .bool p.neg, .string p.mag, .string p.raw, .slice pa p.items.length pc] 30)) = w2 at *
  have hz2 := hb2.size
  have hz0 : 0 < w.heap.size := by omega
  clear hb1 hs1 hA1 hb12
  have hup := awake_any w2 (hT.own hb2) (hE.old hz0 hb2)
  go_wp2_with fail
  refine hup.mono ?_
  rintro _ w3 ⟨rfl, hb3⟩
  have hb03 := hb2.trans (hb3.mono hb2.size)
  have hA3 := hA2.old hb3
  have hP3 := hP2.old hb3
  have hz3 := hb03.size
  clear hup hA2 hP2 hb3 hb2 hz2
  have hwt := weight_any p hp pa pc 0 lo n₀ w3 (by omega) (hpin.keep hb03 hn₀) (by decide)
  unfold pV at hwt
  obtain ⟨q0, q1, q2, q3, q4, q5⟩ := hP3.c6
  obtain ⟨H, hH⟩ : ∃ H, hvy p 0 0 = H := ⟨_, rfl⟩
  rw [hH] at hwt
  go_wp2_with fail
  refine hwt.mono ?_
  rintro _ w4 ⟨rfl, hb4⟩
  have hb04 := hb03.trans (hb4.mono hb03.size)
  have hA4 := hA3.old hb4
  have hP4 := hP3.old hb4
  have hz4 := hb04.size
  clear hwt hA3 hP3 hb4 hb03 hz3 q0 q1 q2 q3 q4 q5
  by_cases hbig : 67108864 < H
  · have t1 : decide ((67108864 : Int) < (H : Int)) = true := decide_eq_true (by omega)
    have t2 : decide (67108864 < H) = true := decide_eq_true hbig
    clear hin hpin
    go_wp2_with fail
    go_ret
    exact ⟨rfl, hb04⟩
  have t1 : decide ((67108864 : Int) < (H : Int)) = false := decide_eq_false (by omega)
  have t2 : decide (67108864 < H) = false := decide_eq_false hbig
  have hb5 := (Below.refl w4.heap.size w4).alloc (Nat.le_refl _) (.cells #[.string o.name, .int .u8 o.kind, .bool o.down, .int .u8 o.nulls, .bool o.bnd, .bool o.ln, .string o.lm, .bool o.hn, .string o.hm, .int .i64 o.most, .int .i64 o.str, .bool o.shf, .bool o.bck, .slice a l.length c] 57)
  have hfd := fields_any [.mk o l] (some ⟨w4.heap.size, 0, none⟩) 1 0 (w4.alloc (.cells #[.string o.name, .int .u8 o.kind, .bool o.down, .int .u8 o.nulls, .bool o.bnd, .bool o.ln, .string o.lm, .bool o.hn, .string o.hm, .int .i64 o.most, .int .i64 o.str, .bool o.shf, .bool o.bck, .slice a l.length c] 57)).heap.size 0 (w4.alloc (.cells #[.string o.name, .int .u8 o.kind, .bool o.down, .int .u8 o.nulls, .bool o.bnd, .bool o.ln, .string o.lm, .bool o.hn, .string o.hm, .int .i64 o.most, .int .i64 o.str, .bool o.shf, .bool o.bck, .slice a l.length c] 57)) (by decide) (by simp) (fun x hx => by rw [List.mem_singleton.1 hx]; exact hf) (Nat.le_refl _) (one_field o l a c lo n₀ w4 hc (by omega) (hin.keep hb04 hn₀))
  have hb05 := hb04.trans (hb5.mono hb04.size)
  have hA5 := hA4.old hb5
  have hP5 := hP4.old hb5
  obtain ⟨c0, c1, c2, c3, c4, c5, c6, c7, c8, c9, c10, c11, c12, c13⟩ := hA4.c14
  obtain ⟨D, hD⟩ : ∃ D, wd [.mk o l] 0 0 = D := ⟨_, rfl⟩
  rw [hD] at hfd
  simp only [List.length_cons, List.length_nil, Nat.zero_add] at hfd
  have HMK := "A"
  go_wp2_with fail
  refine hfd.mono ?_
  rintro _ w6 ⟨rfl, hb6⟩
  have hb06 := hb05.trans (hb6.mono hb05.size)
  have hA6 := hA5.old hb6
  have hP6 := hP5.old hb6
  have hz6 := hb06.size
  clear hfd hA4 hP4 hA5 hP5 hb6 hb5 hb05 hb04 hz4 c0 c1 c2 c3 c4 c5 c6 c7 c8 c9 c10 c11 c12 c13 HMK t1 t2
  by_cases hbig2 : 67108864 < D
  · have t1 : decide ((67108864 : Int) < (D : Int)) = true := decide_eq_true (by omega)
    have t2 : decide (67108864 < D) = true := decide_eq_true hbig2
    clear hin hpin
    go_wp2_with fail
    go_ret
    exact ⟨rfl, hb06⟩
  have t1 : decide ((67108864 : Int) < (D : Int)) = false := decide_eq_false (by omega)
  have t2 : decide (67108864 < D) = false := decide_eq_false hbig2
  have hfs := wd_fits (l := [.mk o l]) (n := 0) (fun x hx => by rw [List.mem_singleton.1 hx]; exact hf) (by rw [hD]; have e : wdB = 67108864 := rfl; omega)
  have hf1 : FitsF 17179869184 (.mk o l) := hfs.2 _ (by simp)
  have hrm := rmake_any p hp pa pc lo n₀ w6 (by omega) (hpin.keep hb06 hn₀)
  unfold pV at hrm
  obtain ⟨q0, q1, q2, q3, q4, q5⟩ := hP6.c6
  obtain ⟨M, hM⟩ : ∃ M : Int, (if deeper 16 p = true then 91 else if may p = true then 0 else 90) = M := ⟨_, rfl⟩
  have hrm' : Calls Tryz.prog 12 #[.agg #[.int .u8 p.kind, .bool p.yes, .bool p.neg, .string p.mag, .string p.raw, .slice pa p.items.length pc]] w6 fun e w' => e = .returned (.int .i64 M) ∧ Below w6.heap.size w6 w' := by
    rw [← hM]; exact hrm
  clear hrm hfs
  have HMK := "B"
  go_wp2_with fail
  refine hrm'.mono ?_
  rintro _ w7 ⟨rfl, hb7⟩
  have hb07 := hb06.trans (hb7.mono hb06.size)
  have hA7 := hA6.old hb7
  have hP7 := hP6.old hb7
  have hz7 := hb07.size
  clear hrm' hA6 hP6 hb7 hb06 hz6 q0 q1 q2 q3 q4 q5 t1 t2
  by_cases hMz : M = 0
  case neg =>
    have t1 : (M != 0) = true := bne_iff_ne.2 hMz
    have t2 : (M == 0) = false := by simpa using hMz
    have t3 : decide (M = 0) = false := decide_eq_false hMz
    clear hin hpin
    go_wp2_with fail
    go_ret
    exact ⟨rfl, hb07⟩
  obtain ⟨c0, c1, c2, c3, c4, c5, c6, c7, c8, c9, c10, c11, c12, c13⟩ := hA7.c14
  subst hMz
  have HMK2 := "C"
  go_wp2_with fail
  have hdeep : deeper 16 p = false := by
    cases h : deeper 16 p with
    | false => rfl
    | true => rw [h, if_pos rfl] at hM; cases hM
  have hmay : may p = true := by
    cases h : may p with
    | true => rfl
    | false => rw [hdeep, h, if_neg (by decide), if_neg (by decide)] at hM; cases hM
  have hdep : dep p ≤ 16 := by
    rw [deeper_dep] at hdeep
    have := of_decide_eq_false hdeep
    omega
  have hfs2 := wd_fitsS (l := [.mk o l]) (n := 0) (fun x hx => by rw [List.mem_singleton.1 hx]; exact hf) (by rw [hD]; have e : wdB = 67108864 := rfl; omega)
  have hq7 := (Below.refl w7.heap.size w7).alloc (Nat.le_refl _) (.cells #[.string o.name, .int .u8 o.kind, .bool o.down, .int .u8 o.nulls, .bool o.bnd, .bool o.ln, .string o.lm, .bool o.hn, .string o.hm, .int .i64 o.most, .int .i64 o.str, .bool o.shf, .bool o.bck, .slice a l.length c] 57)
  have hle := lentF_list (l := [.mk o l]) (by simp) hfs2.2 (some ⟨w7.heap.size, 0, none⟩) 1 (w7.alloc (.cells #[.string o.name, .int .u8 o.kind, .bool o.down, .int .u8 o.nulls, .bool o.bnd, .bool o.ln, .string o.lm, .bool o.hn, .string o.hm, .int .i64 o.most, .int .i64 o.str, .bool o.shf, .bool o.bck, .slice a l.length c] 57)).heap.size (w7.alloc (.cells #[.string o.name, .int .u8 o.kind, .bool o.down, .int .u8 o.nulls, .bool o.bnd, .bool o.ln, .string o.lm, .bool o.hn, .string o.hm, .int .i64 o.most, .int .i64 o.str, .bool o.shf, .bool o.bck, .slice a l.length c] 57)) (Nat.le_refl _) (one_field o l a c lo n₀ w7 hc (by omega) (hin.keep hb07 hn₀))
  simp only [List.length_cons, List.length_nil, Nat.zero_add] at hle
  have hs7 := alloc_size w7 (.cells #[.string o.name, .int .u8 o.kind, .bool o.down, .int .u8 o.nulls, .bool o.bnd, .bool o.ln, .string o.lm, .bool o.hn, .string o.hm, .int .i64 o.most, .int .i64 o.str, .bool o.shf, .bool o.bck, .slice a l.length c] 57)
  refine hle.mono ?_
  rintro _ w8 ⟨g, rfl, hlif, hb8⟩
  have hb78 := hq7.trans (hb8.mono (by omega))
  have hb08 := hb07.trans (hb78.mono hb07.size)
  have hA8 := hA7.old hb78
  have hP8 := hP7.old hb78
  have hz8 := hb08.size
  have HLI : Hid (LIf w8 (w7.alloc (.cells #[.string o.name, .int .u8 o.kind, .bool o.down, .int .u8 o.nulls, .bool o.bnd, .bool o.ln, .string o.lm, .bool o.hn, .string o.hm, .int .i64 o.most, .int .i64 o.str, .bool o.shf, .bool o.bck, .slice a l.length c] 57)).heap.size w8.heap.size [.mk o l] g) := hlif
  clear hle hlif hb8 hq7 hs7 hA7 hP7 hb78 hb07 c0 c1 c2 c3 c4 c5 c6 c7 c8 c9 c10 c11 c12 c13 HMK HMK2 hM
  have hmk : Calls Tryz.prog 13 #[.agg #[.int .u8 p.kind, .bool p.yes, .bool p.neg, .string p.mag, .string p.raw, .slice pa p.items.length pc]] w8 fun e w' => Below w8.heap.size w8 w' ∧ ∃ v, e = .returned (.tuple #[v, .int .i64 0]) ∧ VIn w' w8.heap.size w'.heap.size v p := by
    refine (make_any p hp pa pc lo n₀ w8 (by omega) (hpin.keep hb08 hn₀)).mono ?_
    rintro e w' ⟨hb, ⟨h4, _⟩ | ⟨_, h4, _⟩ | ⟨_, _, h5⟩⟩
    · rw [hdeep] at h4; cases h4
    · rw [hmay] at h4; cases h4
    · exact ⟨hb, h5⟩
  obtain ⟨q0, q1, q2, q3, q4, q5⟩ := hP8.c6
  have HMK := "D"
  go_wp2_with fail
  refine hmk.mono ?_
  rintro _ w9 ⟨hb9, v, rfl, hv⟩
  have hb09 := hb08.trans (hb9.mono hb08.size)
  have hA9 := hA8.old hb9
  have hP9 := hP8.old hb9
  have hz9 := hb09.size
  have hz89 := hb9.size
  have HL9 : Hid (LIf w9 (w7.alloc (.cells #[.string o.name, .int .u8 o.kind, .bool o.down, .int .u8 o.nulls, .bool o.bnd, .bool o.ln, .string o.lm, .bool o.hn, .string o.hm, .int .i64 o.most, .int .i64 o.str, .bool o.shf, .bool o.bck, .slice a l.length c] 57)).heap.size w8.heap.size [.mk o l] g) := HLI.out.old hb9 (Nat.le_refl _)
  obtain ⟨hg9, gj, hrow, hlj⟩ := HL9.out.item (j := 0) (by simp)
  simp only [List.getElem_cons_zero, Fld.own, Fld.fields, Nat.zero_mul] at hrow hlj
  have HLJ : Hid (LIf w9 (w7.alloc (.cells #[.string o.name, .int .u8 o.kind, .bool o.down, .int .u8 o.nulls, .bool o.bnd, .bool o.ln, .string o.lm, .bool o.hn, .string o.hm, .int .i64 o.most, .int .i64 o.str, .bool o.shf, .bool o.bck, .slice a l.length c] 57)).heap.size w8.heap.size l gj) := hlj
  have HRW : Hid (RowF w9 g 0 o (some ⟨gj, 0, none⟩) l.length (l.length + 2)) := hrow
  obtain ⟨r0, r1, r2, r3, r4, r5, r6, r7, r8, r9, r10, r11, r12, r13⟩ := hrow
  have hff := fitField_any (.mk o l) hf1 (some ⟨gj, 0, none⟩) (l.length + 2) (w7.alloc (.cells #[.string o.name, .int .u8 o.kind, .bool o.down, .int .u8 o.nulls, .bool o.bnd, .bool o.ln, .string o.lm, .bool o.hn, .string o.hm, .int .i64 o.most, .int .i64 o.str, .bool o.shf, .bool o.bck, .slice a l.length c] 57)).heap.size w8.heap.size (by simp only [Fld.fields]; omega) v p hmay (by omega) w8.heap.size w9.heap.size w9 (by omega) (Nat.le_refl _) hlj.fin hv (hT.own hb09) (hE.old hz0 hb09)
  unfold fV at hff
  simp only [Fld.own, Fld.fields] at hff
  clear hmk hA8 hP8 hb9 hb08 q0 q1 q2 q3 q4 q5 HMK hlj HLI
  have HMK := "E"
  go_wp2_with fail
  refine hff.mono ?_
  intro e w10 hEP
  obtain ⟨ev, rfl, hEP⟩ := hEP.val
  have hb10 := hEP.1
  have hb010 := hb09.trans (hb10.mono hb09.size)
  have hA10 := hA9.old hb10
  have hP10 := hP9.old hb10
  have hz10 := hb010.size
  have hz910 := hb10.size
  have HLT : Hid (LIf w10 (w7.alloc (.cells #[.string o.name, .int .u8 o.kind, .bool o.down, .int .u8 o.nulls, .bool o.bnd, .bool o.ln, .string o.lm, .bool o.hn, .string o.hm, .int .i64 o.most, .int .i64 o.str, .bool o.shf, .bool o.bck, .slice a l.length c] 57)).heap.size w8.heap.size [.mk o l] g) := HL9.out.old hb10 (by omega)
  clear hff hA9 hP9 hb09 r0 r1 r2 r3 r4 r5 r6 r7 r8 r9 r10 r11 r12 r13 HLJ HRW HL9 hv hb10 hdeep
  have hwy := fieldWhy_any o l hf1 p hmay (by omega) a pa c pc lo n₀ hc w10 (by omega) (hin.keep hb010 hn₀) (hpin.keep hb010 hn₀)
  obtain ⟨R, hR⟩ : ∃ R, argE (chkS bndQ 65536 [.mk o l]).1 (unf utfAt (.mk o l) p) = R := ⟨_, rfl⟩
  rw [hR] at hwy hEP
  obtain ⟨c0, c1, c2, c3, c4, c5, c6, c7, c8, c9, c10, c11, c12, c13⟩ := hA10.c14
  obtain ⟨q0, q1, q2, q3, q4, q5⟩ := hP10.c6
  have HMK2 := "F"
  go_wp2_with fail
  refine hwy.mono ?_
  intro e w11 hIP
  obtain ⟨cc, aa, ix, ixn, ixc, yy, rfl, hb11, hI⟩ := inn_val hIP
  have hb011 := hb010.trans (hb11.mono hb010.size)
  have hA11 := hA10.old hb11
  have hP11 := hP10.old hb11
  have hz11 := hb011.size
  have hz1011 := hb11.size
  have HLT2 : Hid (LIf w11 (w7.alloc (.cells #[.string o.name, .int .u8 o.kind, .bool o.down, .int .u8 o.nulls, .bool o.bnd, .bool o.ln, .string o.lm, .bool o.hn, .string o.hm, .int .i64 o.most, .int .i64 o.str, .bool o.shf, .bool o.bck, .slice a l.length c] 57)).heap.size w8.heap.size [.mk o l] g) := HLT.out.old hb11 (by omega)
  have HEP : Hid (ErrPost R w9 (.returned ev) w11) := hEP.keep hb11
  clear hwy hIP hEP hA10 hP10 hb010 c0 c1 c2 c3 c4 c5 c6 c7 c8 c9 c10 c11 c12 c13 q0 q1 q2 q3 q4 q5 HLT hb11 HMK HMK2
  have HMK := "G"
  go_wp2_with fail
  have hq12 := (Below.refl w11.heap.size w11).alloc (Nat.le_refl _) (.cells #[.int .i64 cc, .int .i64 aa, .slice ix ixn ixc] 47)
  have hb012 := hb011.trans (hq12.mono hb011.size)
  have htd := told_any R w9 (w11.alloc (.cells #[.int .i64 cc, .int .i64 aa, .slice ix ixn ixc] 47)) ev (HEP.out.keep hq12) (arg_code _ _ p hdep hR) (.agg #[.int .i64 cc, .int .i64 aa, .slice ix ixn ixc]) yy (by
    rcases hI with h | ⟨c', a', P', v', h1, h2, h3⟩
    · exact .inl h
    · exact .inr ⟨c', a', P', v', h1, h2, (h3.below hq12 (Nat.le_refl _)).mono hq12.size⟩) (hE.old hz0 hb012) (by have := hb012.size; omega)
  refine htd.mono ?_
  rintro _ w13 ⟨rfl, hb13⟩
  have hb1113 := hq12.trans (hb13.mono hq12.size)
  have hb013 := hb011.trans (hb1113.mono hb011.size)
  have hA13 := hA11.old hb1113
  have hz13 := hb013.size
  have hz1113 := hb1113.size
  have HL13 : Hid (LIf w13 (w7.alloc (.cells #[.string o.name, .int .u8 o.kind, .bool o.down, .int .u8 o.nulls, .bool o.bnd, .bool o.ln, .string o.lm, .bool o.hn, .string o.hm, .int .i64 o.most, .int .i64 o.str, .bool o.shf, .bool o.bck, .slice a l.length c] 57)).heap.size w8.heap.size [.mk o l] g) := HLT2.out.old hb1113 (by omega)
  clear htd hq12 hb012 hA11 hP11 hb011 HLT2 HEP hI hb13 hb1113 HMK hpin hp hmay hT hE
  obtain ⟨hg13, gj, hrow, hlj⟩ := HL13.out.item (j := 0) (by simp)
  simp only [List.getElem_cons_zero, Fld.own, Fld.fields, Nat.zero_mul] at hrow hlj
  obtain ⟨r0, r1, r2, r3, r4, r5, r6, r7, r8, r9, r10, r11, r12, r13⟩ := hrow
  obtain ⟨K, hK⟩ : ∃ K, (chkS bndQ 65536 [.mk o l]).1 = K := ⟨_, rfl⟩
  have hlf := hlj.fin
  clear hR
  by_cases hKz : K = 0
  case neg =>
    have hls := Least_bad (.mk o l) hf1 (some ⟨gj, 0, none⟩) (l.length + 2) _ _ (by simp only [Fld.fields]; omega) w13 (by omega) hlf (by rw [hK]; exact hKz)
    unfold fV at hls
    simp only [Fld.own, Fld.fields] at hls
    have HMK := "H"
    go_wp2_with fail
    refine hls.mono ?_
    rintro _ w14 ⟨hb14, rfl⟩
    have hb014 := hb013.trans (hb14.mono hb013.size)
    have hA14 := hA13.old hb14
    have hz14 := hb014.size
    have hz1314 := hb14.size
    have HL14 : Hid (LIf w14 (w7.alloc (.cells #[.string o.name, .int .u8 o.kind, .bool o.down, .int .u8 o.nulls, .bool o.bnd, .bool o.ln, .string o.lm, .bool o.hn, .string o.hm, .int .i64 o.most, .int .i64 o.str, .bool o.shf, .bool o.bck, .slice a l.length c] 57)).heap.size w8.heap.size [.mk o l] g) := HL13.out.old hb14 (by omega)
    have hrl := rLeast_any o l hf1 a c lo n₀ hc w14 (by omega) (hin.keep hb014 hn₀)
    rw [hK] at hrl
    obtain ⟨c0, c1, c2, c3, c4, c5, c6, c7, c8, c9, c10, c11, c12, c13⟩ := hA14.c14
    clear hls hlj hlf hA13 hb013 hb14 HL13 r0 r1 r2 r3 r4 r5 r6 r7 r8 r9 r10 r11 r12 r13 HMK
    have HMK := "I"
    go_wp2_with fail
    refine hrl.mono ?_
    rintro e w15 ⟨hb15, ⟨_, rfl⟩ | ⟨h0, _⟩⟩
    case inr => exact absurd h0 hKz
    have hq16 := (Below.refl w15.heap.size w15).alloc (Nat.le_refl _) (.cells #[.int .u8 0, .bool false, .bool false, .string ⟨#[]⟩, .string ⟨#[]⟩, .slice none 0 0] 30)
    have hQ16 := Blk.new w15 30 #[.int .u8 0, .bool false, .bool false, .string ⟨#[]⟩, .string ⟨#[]⟩, .slice none 0 0]
    have hb1416 := hb15.trans (hq16.mono hb15.size)
    have hb016 := hb014.trans (hb1416.mono hb014.size)
    have hA16 := hA14.old hb1416
    have hL16 := HL14.out.old hb1416 (by omega)
    have hv16 : VIn (w15.alloc (.cells #[.int .u8 0, .bool false, .bool false, .string ⟨#[]⟩, .string ⟨#[]⟩, .slice none 0 0] 30)) 0 w14.heap.size .nilIface (Prt.mk 0 false false ⟨#[]⟩ ⟨#[]⟩ []) := .null
    have hp16 : PIn (w15.alloc (.cells #[.int .u8 0, .bool false, .bool false, .string ⟨#[]⟩, .string ⟨#[]⟩, .slice none 0 0] 30)) 0 w15.heap.size (Prt.mk 0 false false ⟨#[]⟩ ⟨#[]⟩ []) none := .nil rfl
    have lm1 : may (Prt.mk 0 false false ⟨#[]⟩ ⟨#[]⟩ []) = true := by rw [may]; rfl
    have HFQ : Hid (Fits (Prt.mk 0 false false ⟨#[]⟩ ⟨#[]⟩ [])) := Fits.mk (Int.le_refl 0) (Nat.zero_le _) (Nat.zero_le _) (Nat.zero_le _) (fun x hx => by simp [Prt.items] at hx)
    have hz15 := hb15.size
    have hz16 := hb016.size
    have hz1516 := hq16.size
    clear c0 c1 c2 c3 c4 c5 c6 c7 c8 c9 c10 c11 c12 c13 hA14 hb014 HL14 hrl hq16 hb15 hb1416 HMK
    go_upto_region 14 with fail
    generalize hw16 : w15.alloc (.cells #[.int .u8 0, .bool false, .bool false, .string ⟨#[]⟩, .string ⟨#[]⟩, .slice none 0 0] 30) = w16 at *
    have hq17 := (Below.refl w16.heap.size w16).alloc (Nat.le_refl _) (.cells #[.string o.name, .int .u8 o.kind, .bool o.down, .int .u8 o.nulls, .bool o.bnd, .bool o.ln, .string o.lm, .bool o.hn, .string o.hm, .int .i64 o.most, .int .i64 o.str, .bool o.shf, .bool o.bck, .slice a l.length c] 57)
    have hs17 := alloc_size w16 (.cells #[.string o.name, .int .u8 o.kind, .bool o.down, .int .u8 o.nulls, .bool o.bnd, .bool o.ln, .string o.lm, .bool o.hn, .string o.hm, .int .i64 o.most, .int .i64 o.str, .bool o.shf, .bool o.bck, .slice a l.length c] 57)
    have hkp := keptF_list (l := [.mk o l]) (by simp) hfs2.2 g (some ⟨w16.heap.size, 0, none⟩) 1 _ w8.heap.size (w16.alloc (.cells #[.string o.name, .int .u8 o.kind, .bool o.down, .int .u8 o.nulls, .bool o.bnd, .bool o.ln, .string o.lm, .bool o.hn, .string o.hm, .int .i64 o.most, .int .i64 o.str, .bool o.shf, .bool o.bck, .slice a l.length c] 57)).heap.size (w16.alloc (.cells #[.string o.name, .int .u8 o.kind, .bool o.down, .int .u8 o.nulls, .bool o.bnd, .bool o.ln, .string o.lm, .bool o.hn, .string o.hm, .int .i64 o.most, .int .i64 o.str, .bool o.shf, .bool o.bck, .slice a l.length c] 57)) (by omega) (Nat.le_refl _) (hL16.old hq17 (by omega)) (one_field o l a c lo n₀ w16 hc (by omega) (hin.keep hb016 hn₀))
    simp only [List.length_cons, List.length_nil, Nat.zero_add] at hkp
    obtain ⟨d0, d1, d2, d3, d4, d5, d6, d7, d8, d9, d10, d11, d12, d13⟩ := hA16.c14
    have HMK := "J"
    go_wp2_with fail
    refine hkp.mono ?_
    rintro _ w18 ⟨rfl, hb18⟩
    have hb1618 := hq17.trans (hb18.mono hq17.size)
    have hb018 := hb016.trans (hb1618.mono hb016.size)
    have hv18 := hv16.old hb1618 (by omega)
    have hp18 := hp16.keep hb1618 (by omega)
    have hQ18 := hQ16.old hb1618
    have hz1618 := hb1618.size
    have hz18 := hb018.size
    clear hkp hq17 hs17 hb18 hb1618 d0 d1 d2 d3 d4 d5 d6 d7 d8 d9 d10 d11 d12 d13 hA16 hL16 hv16 hp16 hQ16 hin HMK
    have htl := tell_any (Prt.mk 0 false false ⟨#[]⟩ ⟨#[]⟩ []) lm1 _ _ _ w18 (by omega) hv18
    have HMK := "K"
    go_wp2_with fail
    refine htl.mono ?_
    rintro _ w19 ⟨ta, tc, rfl, hta, hb19⟩
    unfold pV
    simp only [Prt.kind, Prt.yes, Prt.neg, Prt.mag, Prt.raw, Prt.items, List.length_nil]
    have hq20 := (Below.refl w19.heap.size w19).alloc (Nat.le_refl _) (.cells #[.int .u8 0, .bool false, .bool false, .string ⟨#[]⟩, .string ⟨#[]⟩, .slice ta 0 tc] 30)
    have hT20 := Blk.new w19 30 #[.int .u8 0, .bool false, .bool false, .string ⟨#[]⟩, .string ⟨#[]⟩, .slice ta 0 tc]
    have hb1820 := hb19.trans (hq20.mono hb19.size)
    have hb020 := hb018.trans (hb1820.mono hb018.size)
    have hQ20 := hQ18.old hb1820
    have hp20 := hp18.keep hb1820 (by omega)
    have ht20 := hta.keep hq20 (Nat.le_refl _)
    have hz1820 := hb1820.size
    have hz1920 := hq20.size
    have hfq : Fits (Prt.mk 0 false false ⟨#[]⟩ ⟨#[]⟩ []) := HFQ.out
    have hrs := rsame_any (Prt.mk 0 false false ⟨#[]⟩ ⟨#[]⟩ []) hfq (Prt.mk 0 false false ⟨#[]⟩ ⟨#[]⟩ []) hfq ta none tc 0 _ w19.heap.size _ w15.heap.size (w19.alloc (.cells #[.int .u8 0, .bool false, .bool false, .string ⟨#[]⟩, .string ⟨#[]⟩, .slice ta 0 tc] 30)) (by omega) (by omega) ht20 hp20
    rw [eqP_self] at hrs
    unfold pV at hrs
    simp only [Prt.kind, Prt.yes, Prt.neg, Prt.mag, Prt.raw, Prt.items, List.length_nil] at hrs
    obtain ⟨q0, q1, q2, q3, q4, q5⟩ := hQ20.c6
    obtain ⟨e0, e1, e2, e3, e4, e5⟩ := hT20.c6
    clear htl hv18 hp18 hQ18 hta hb19 hq20 hb1820 HMK
    have HMK := "L"
    go_wp2_with fail
    refine hrs.mono ?_
    rintro _ w21 ⟨rfl, hb21⟩
    have hb021 := hb020.trans (hb21.mono hb020.size)
    clear hrs q0 q1 q2 q3 q4 q5 e0 e1 e2 e3 e4 e5 HMK
    go_wp2_with fail
    go_ret
    exact ⟨rfl, hb021⟩
  rw [hKz] at hK
  have hls := Least_good (.mk o l) hf1 (some ⟨gj, 0, none⟩) (l.length + 2) _ _ (by simp only [Fld.fields]; omega) w13 (by omega) hlf hK
  unfold fV at hls
  simp only [Fld.own, Fld.fields] at hls
  have HMK := "H"
  go_wp2_with fail
  refine hls.mono ?_
  rintro _ w14 ⟨hb14, lv, rfl, hlv⟩
  have hb014 := hb013.trans (hb14.mono hb013.size)
  have hA14 := hA13.old hb14
  have hz14 := hb014.size
  have hz1314 := hb14.size
  have HL14 : Hid (LIf w14 (w7.alloc (.cells #[.string o.name, .int .u8 o.kind, .bool o.down, .int .u8 o.nulls, .bool o.bnd, .bool o.ln, .string o.lm, .bool o.hn, .string o.hm, .int .i64 o.most, .int .i64 o.str, .bool o.shf, .bool o.bck, .slice a l.length c] 57)).heap.size w8.heap.size [.mk o l] g) := HL13.out.old hb14 (by omega)
  have hseen := chkS_seen hK (.mk o l) (by simp)
  have hfew := (chkS_few hK).2 (.mk o l) (by simp)
  obtain ⟨lm1, lm2, lm3⟩ := Fits_lst (.mk o l) 1 hseen hfew hf1
  have hk1 : 1 ≤ o.kind := by cases hseen with | mk a b c d e => exact (maySay_good c).1
  obtain ⟨lt, lx, rfl⟩ := hlv.someI (by rw [lst_kind]; omega)
  have hrl := rLeast_any o l hf1 a c lo n₀ hc w14 (by omega) (hin.keep hb014 hn₀)
  rw [hK] at hrl
  obtain ⟨q, hq⟩ : ∃ q, lst (.mk o l) = q := ⟨_, rfl⟩
  rw [hq] at hrl hlv lm1
  obtain ⟨c0, c1, c2, c3, c4, c5, c6, c7, c8, c9, c10, c11, c12, c13⟩ := hA14.c14
  clear hls hlj hlf hA13 hb013 hb14 HL13 r0 r1 r2 r3 r4 r5 r6 r7 r8 r9 r10 r11 r12 r13 hseen hfew lm2 lm3 HMK
  have HMK := "I"
  go_wp2_with fail
  refine hrl.mono ?_
  rintro e w15 ⟨hb15, ⟨hne, _⟩ | ⟨_, ap, cp, rfl, hpp⟩⟩
  · exact absurd rfl hne
  have hq16 := (Below.refl w15.heap.size w15).alloc (Nat.le_refl _) (.cells #[.int .u8 q.kind, .bool q.yes, .bool q.neg, .string q.mag, .string q.raw, .slice ap q.items.length cp] 30)
  have hQ16 := Blk.new w15 30 #[.int .u8 q.kind, .bool q.yes, .bool q.neg, .string q.mag, .string q.raw, .slice ap q.items.length cp]
  have hb1416 := hb15.trans (hq16.mono hb15.size)
  have hb016 := hb014.trans (hb1416.mono hb014.size)
  have hA16 := hA14.old hb1416
  have hL16 := HL14.out.old hb1416 (by omega)
  have hv16 := hlv.old hb1416 (Nat.le_refl _)
  have hp16 := (hpp.keep hq16 (Nat.le_refl _))
  have hz15 := hb15.size
  have hz16 := hb016.size
  have hz1516 := hq16.size
  clear c0 c1 c2 c3 c4 c5 c6 c7 c8 c9 c10 c11 c12 c13 hA14 hb014 HL14 hlv hpp hrl hq16 hb15 hb1416 HMK
  have HFQ : Hid (Fits q) := by rw [← hq]; exact fits_lst _ hf1
  clear hq
  unfold pV
  go_upto_region 14 with fail
  generalize hw16 : w15.alloc (.cells #[.int .u8 q.kind, .bool q.yes, .bool q.neg, .string q.mag, .string q.raw, .slice ap q.items.length cp] 30) = w16 at *
  have hq17 := (Below.refl w16.heap.size w16).alloc (Nat.le_refl _) (.cells #[.string o.name, .int .u8 o.kind, .bool o.down, .int .u8 o.nulls, .bool o.bnd, .bool o.ln, .string o.lm, .bool o.hn, .string o.hm, .int .i64 o.most, .int .i64 o.str, .bool o.shf, .bool o.bck, .slice a l.length c] 57)
  have hs17 := alloc_size w16 (.cells #[.string o.name, .int .u8 o.kind, .bool o.down, .int .u8 o.nulls, .bool o.bnd, .bool o.ln, .string o.lm, .bool o.hn, .string o.hm, .int .i64 o.most, .int .i64 o.str, .bool o.shf, .bool o.bck, .slice a l.length c] 57)
  have hkp := keptF_list (l := [.mk o l]) (by simp) hfs2.2 g (some ⟨w16.heap.size, 0, none⟩) 1 _ w8.heap.size (w16.alloc (.cells #[.string o.name, .int .u8 o.kind, .bool o.down, .int .u8 o.nulls, .bool o.bnd, .bool o.ln, .string o.lm, .bool o.hn, .string o.hm, .int .i64 o.most, .int .i64 o.str, .bool o.shf, .bool o.bck, .slice a l.length c] 57)).heap.size (w16.alloc (.cells #[.string o.name, .int .u8 o.kind, .bool o.down, .int .u8 o.nulls, .bool o.bnd, .bool o.ln, .string o.lm, .bool o.hn, .string o.hm, .int .i64 o.most, .int .i64 o.str, .bool o.shf, .bool o.bck, .slice a l.length c] 57)) (by omega) (Nat.le_refl _) (hL16.old hq17 (by omega)) (one_field o l a c lo n₀ w16 hc (by omega) (hin.keep hb016 hn₀))
  simp only [List.length_cons, List.length_nil, Nat.zero_add] at hkp
  obtain ⟨d0, d1, d2, d3, d4, d5, d6, d7, d8, d9, d10, d11, d12, d13⟩ := hA16.c14
  have HMK := "J"
  go_wp2_with fail
  refine hkp.mono ?_
  rintro _ w18 ⟨rfl, hb18⟩
  have hb1618 := hq17.trans (hb18.mono hq17.size)
  have hb018 := hb016.trans (hb1618.mono hb016.size)
  have hv18 := hv16.old hb1618 (by omega)
  have hp18 := hp16.keep hb1618 (by omega)
  have hQ18 := hQ16.old hb1618
  have hz1618 := hb1618.size
  have hz18 := hb018.size
  clear hkp hq17 hs17 hb18 hb1618 d0 d1 d2 d3 d4 d5 d6 d7 d8 d9 d10 d11 d12 d13 hA16 hL16 hv16 hp16 hQ16 hin HMK
  have htl := tell_any q lm1 _ _ _ w18 (by omega) hv18
  have HMK := "K"
  go_wp2_with fail
  refine htl.mono ?_
  rintro _ w19 ⟨ta, tc, rfl, hta, hb19⟩
  unfold pV
  have hq20 := (Below.refl w19.heap.size w19).alloc (Nat.le_refl _) (.cells #[.int .u8 q.kind, .bool q.yes, .bool q.neg, .string q.mag, .string q.raw, .slice ta q.items.length tc] 30)
  have hT20 := Blk.new w19 30 #[.int .u8 q.kind, .bool q.yes, .bool q.neg, .string q.mag, .string q.raw, .slice ta q.items.length tc]
  have hb1820 := hb19.trans (hq20.mono hb19.size)
  have hb020 := hb018.trans (hb1820.mono hb018.size)
  have hQ20 := hQ18.old hb1820
  have hp20 := hp18.keep hb1820 (by omega)
  have ht20 := hta.keep hq20 (Nat.le_refl _)
  have hz1820 := hb1820.size
  have hz1920 := hq20.size
  have hfq : Fits q := HFQ.out
  have hrs := rsame_any q hfq q hfq ta ap tc cp _ w19.heap.size _ w15.heap.size (w19.alloc (.cells #[.int .u8 q.kind, .bool q.yes, .bool q.neg, .string q.mag, .string q.raw, .slice ta q.items.length tc] 30)) (by omega) (by omega) ht20 hp20
  rw [eqP_self] at hrs
  unfold pV at hrs
  obtain ⟨q0, q1, q2, q3, q4, q5⟩ := hQ20.c6
  obtain ⟨e0, e1, e2, e3, e4, e5⟩ := hT20.c6
  clear htl hv18 hp18 hQ18 hta hb19 hq20 hb1820 HMK
  have HMK := "L"
  go_wp2_with fail
  refine hrs.mono ?_
  rintro _ w21 ⟨rfl, hb21⟩
  have hb021 := hb020.trans (hb21.mono hb020.size)
  clear hrs q0 q1 q2 q3 q4 q5 e0 e1 e2 e3 e4 e5 HMK
  go_wp2_with fail
  go_ret
  exact ⟨rfl, hb021⟩
end Go.Proofs.YtkjoomdglealmaaGreatDoor
