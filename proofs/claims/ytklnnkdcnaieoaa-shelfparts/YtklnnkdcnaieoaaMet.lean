/- What the document's Meet of two spans comes to (contracts; nothing is claimed here). -/
import Derived.Test.YtklnnkdcnaieoaaCmp
namespace Go.Proofs.Ytklnnkdcnaieoaa
open Go.RowKit Go.Vf

/-- Where both spans begin, where they end, whether they have an end. -/
def metF (f1 f2 : ByteArray) : ByteArray := if 0 < sd f2 f1 then f2 else f1
def metT (t1 t2 : ByteArray) (o1 o2 : Bool) : ByteArray := if (o1 && o2) = true then ⟨#[]⟩ else if o1 = true then t2 else if o2 = true then t1 else if sd t1 t2 ≤ 0 then t1 else t2
theorem met_in (f1 t1 f2 t2 k : ByteArray) (o1 o2 : Bool) : inSp (metF f1 f2) (metT t1 t2 o1 o2) (o1 && o2) k = (inSp f1 t1 o1 k && inSp f2 t2 o2 k) := by
  have hF : lt k (metF f1 f2) = (lt k f1 || lt k f2) := by
    unfold metF
    by_cases h : 0 < sd f2 f1
    · rw [if_pos h]
      have h' := sd_gt.1 h
      cases q : lt k f2 with
      | true => simp
      | false =>
        cases q1 : lt k f1 with
        | false => rfl
        | true => rw [lt_trans q1 h'] at q; cases q
    · rw [if_neg h]
      cases q : lt k f1 with
      | true => simp
      | false =>
        cases q1 : lt k f2 with
        | false => rfl
        | true =>
          rcases lt_total f2 f1 with z | z | z
          · rw [lt_trans q1 z] at q; cases q
          · rw [z, q] at q1; cases q1
          · exact (h (sd_gt.2 z)).elim
  have hT : o1 = false → o2 = false → lt k (metT t1 t2 o1 o2) = (lt k t1 && lt k t2) := by
    intro e1 e2
    subst e1 e2
    unfold metT
    simp only [Bool.and_self, Bool.false_eq_true, if_false]
    by_cases h : sd t1 t2 ≤ 0
    · rw [if_pos h]
      cases q : lt k t1 with
      | false => simp
      | true =>
        have : lt k t2 = true := by
          rcases lt_total t1 t2 with z | z | z
          · exact lt_trans q z
          · rw [← z]; exact q
          · have := sd_gt.2 z; omega
        rw [this]; rfl
    · rw [if_neg h]
      have z := sd_gt.1 (show 0 < sd t1 t2 by omega)
      cases q : lt k t2 with
      | false => simp
      | true => rw [lt_trans q z]; rfl
  unfold inSp
  rw [hF]
  cases o1 with
  | true =>
    cases o2 with
    | true => cases lt k f1 <;> cases lt k f2 <;> rfl
    | false =>
      have : metT t1 t2 true false = t2 := rfl
      rw [this]
      cases lt k f1 <;> cases lt k f2 <;> cases lt k t2 <;> rfl
  | false =>
    cases o2 with
    | true =>
      have : metT t1 t2 false true = t1 := rfl
      rw [this]
      cases lt k f1 <;> cases lt k f2 <;> cases lt k t1 <;> rfl
    | false =>
      rw [hT rfl rfl]
      cases lt k f1 <;> cases lt k f2 <;> cases lt k t1 <;> cases lt k t2 <;> rfl
theorem res22 {tmps : Array Value} {w : World} {C : Nat} {a0 a1 a2 : Value} (hC : Blk w C 29 #[a0, a1, a2]) (t4 : tmps[4]?.getD undef = .pointer (some ⟨C, 0, none⟩)) :
    (results Try.f22 tmps).run Try.prog w = .ok (.agg #[a0, a1, a2]) w := by
  obtain ⟨c0, c1, c2⟩ := hC.c3
  simp [results, Try.results22, go_sem, t4, c0, c1, c2]
theorem set3 {w : World} {b : Nat} {a0 a1 a2 : Value} (x0 x1 x2 : Value) (h : Blk w b 29 #[a0, a1, a2]) : Blk (((w.setCell ⟨b, 0, none⟩ x0).setCell ⟨b, 1, none⟩ x1).setCell ⟨b, 2, none⟩ x2) b 29 #[x0, x1, x2] := by
  have h1 : Blk (w.setCell ⟨b, 0, none⟩ x0) b 29 #[x0, a1, a2] := h.set 0 x0
  have h2 : Blk ((w.setCell ⟨b, 0, none⟩ x0).setCell ⟨b, 1, none⟩ x1) b 29 #[x0, x1, a2] := h1.set 1 x1
  exact h2.set 2 x2
def MetPost (V : Value) (w : World) (e : Ending) (w' : World) : Prop := e = .returned V ∧ Below w.heap.size w w'
set_option maxHeartbeats 8000000 in
set_option maxRecDepth 20000 in
theorem meet_any (f1 t1 f2 t2 : ByteArray) (o1 o2 : Bool) (w : World) (s1 : f1.size ≤ 17179869184) (s2 : t1.size ≤ 17179869184) (s3 : f2.size ≤ 17179869184) (s4 : t2.size ≤ 17179869184) :
    Calls Try.prog 22 #[.agg #[.string f1, .string t1, .bool o1], .agg #[.string f2, .string t2, .bool o2]] w (MetPost (.agg #[.string (metF f1 f2), .string (metT t1 t2 o1 o2), .bool (o1 && o2)]) w) := by
  obtain ⟨F, HF⟩ : ∃ F, Hid (F = metF f1 f2) := ⟨_, rfl⟩
  obtain ⟨T, HT⟩ : ∃ T, Hid (T = metT t1 t2 o1 o2) := ⟨_, rfl⟩
  rw [← HF.out, ← HT.out]
  have HC1 : ∀ W, Calls Try.prog 35 #[.string f2, .string f1] W fun e w' => e = .returned (.int .i64 (sd f2 f1)) ∧ Below W.heap.size W w' := fun W => rcompare_any f2 f1 W s3 s1
  have HC2 : ∀ W, Calls Try.prog 35 #[.string t1, .string t2] W fun e w' => e = .returned (.int .i64 (sd t1 t2)) ∧ Below W.heap.size W w' := fun W => rcompare_any t1 t2 W s2 s4
  clear s1 s2 s3 s4
  have b1 := (Below.refl w.heap.size w).alloc (Nat.le_refl _) (.cells #[.string f1, .string t1, .bool o1] 29)
  have B1 := Blk.new w 29 #[.string f1, .string t1, .bool o1]
  obtain ⟨w1, hw1⟩ : ∃ w1, w.alloc (.cells #[.string f1, .string t1, .bool o1] 29) = w1 := ⟨_, rfl⟩
  rw [hw1] at b1 B1
  have b2 := (Below.refl w1.heap.size w1).alloc (Nat.le_refl _) (.cells #[.string f2, .string t2, .bool o2] 29)
  have B2 := Blk.new w1 29 #[.string f2, .string t2, .bool o2]
  obtain ⟨w2, hw2⟩ : ∃ w2, w1.alloc (.cells #[.string f2, .string t2, .bool o2] 29) = w2 := ⟨_, rfl⟩
  rw [hw2] at b2 B2
  have b3 := (Below.refl w2.heap.size w2).alloc (Nat.le_refl _) (.cells #[.string ⟨#[]⟩, .string ⟨#[]⟩, .bool false] 29)
  have B3 := Blk.new w2 29 #[.string ⟨#[]⟩, .string ⟨#[]⟩, .bool false]
  obtain ⟨w3, hw3⟩ : ∃ w3, w2.alloc (.cells #[.string ⟨#[]⟩, .string ⟨#[]⟩, .bool false] 29) = w3 := ⟨_, rfl⟩
  rw [hw3] at b3 B3
  have A3 := (B1.old b2).old b3
  have Q3 := B2.old b3
  have hb3 : Below w.heap.size w w3 := (b1.trans (b2.mono b1.size)).trans (b3.mono (Nat.le_trans b1.size b2.size))
  have n1 : w.heap.size < w1.heap.size := B1.lt
  have n2 : w1.heap.size < w2.heap.size := B2.lt
  have n3 : w2.heap.size < w3.heap.size := B3.lt
  obtain ⟨x0, x1, x2⟩ := A3.c3
  obtain ⟨y0, y1, y2⟩ := Q3.c3
  clear b1 b2 b3 B1 B2
  go_enter Try.func22, Try.ntmps22
  go_upto_region 1 with fail
  clear hw1 hw2 hw3
  generalize w1.heap.size = PB at *
  generalize w2.heap.size = PC at *
  cases o1 with
  | true =>
    cases o2 with
    | true =>
      have b4 := (Below.refl w3.heap.size w3).alloc (Nat.le_refl _) (.cells #[.string f1, .string ⟨#[]⟩, .bool true] 29)
      have B4 := Blk.new w3 29 #[.string f1, .string ⟨#[]⟩, .bool true]
      have hA4 := A3.old b4
      have hQ4 := Q3.old b4
      have hC4 := B3.old b4
      have hb4 := hb3.trans (b4.mono hb3.size)
      go_upto_region 2 with fail
      generalize w3.alloc (.cells #[.string f1, .string ⟨#[]⟩, .bool true] 29) = w4 at *
      generalize w3.heap.size = PD at *
      clear x0 x1 x2 y0 y1 y2 A3 Q3 B3 hb3 b4
      obtain ⟨x0, x1, x2⟩ := hA4.c3
      obtain ⟨y0, y1, y2⟩ := hQ4.c3
      go_wp2_with fail
      refine (HC1 w4).mono ?_
      clear HC1
      rintro e w5 ⟨rfl, hb5⟩
      have hA := hA4.old hb5
      have hQ := hQ4.old hb5
      have hC := hC4.old hb5
      have hD := B4.old hb5
      have hb := hb4.trans (hb5.mono hb4.size)
      clear x0 x1 x2 y0 y1 y2 hA4 hQ4 hC4 B4 hb4 hb5
      obtain ⟨s, Hs⟩ : ∃ s, Hid (sd f2 f1 = s) := ⟨_, rfl⟩
      rw [Hs.out]
      have HTv : Hid (T = ⟨#[]⟩) := HT
      clear HT HC2
      by_cases hc : 0 < s
      · skip
        have hs : decide (0 < s) = true := by simpa using hc
        have HFv : Hid (F = f2) := by show _ = _; rw [HF.out, metF, Hs.out]; exact if_pos hc
        clear hc HF
        obtain ⟨x0, x1, x2⟩ := hA.c3
        obtain ⟨y0, y1, y2⟩ := hQ.c3
        obtain ⟨d0, d1, d2⟩ := hD.c3
        have f0 := hD.frozen 0
        have f1' := hD.frozen 1
        obtain ⟨r0, r1, r2⟩ := hC.c3
        have g0 := hC.frozen 0
        have g1 := hC.frozen 1
        have g2 := hC.frozen 2
        go_upto_region 5 with fail
        have hD' : Blk (w5.setCell ⟨PD, 0, none⟩ (.string f2)) PD 29 #[.string f2, .string ⟨#[]⟩, .bool true] := hD.set 0 _
        have hA' : Blk (w5.setCell ⟨PD, 0, none⟩ (.string f2)) w.heap.size 29 #[.string f1, .string t1, .bool true] := hA.other (p := ⟨PD, 0, none⟩) (show w.heap.size ≠ PD by omega) _
        have hQ' : Blk (w5.setCell ⟨PD, 0, none⟩ (.string f2)) PB 29 #[.string f2, .string t2, .bool true] := hQ.other (p := ⟨PD, 0, none⟩) (show PB ≠ PD by omega) _
        have hC' : Blk (w5.setCell ⟨PD, 0, none⟩ (.string f2)) PC 29 #[.string ⟨#[]⟩, .string ⟨#[]⟩, .bool false] := hC.other (p := ⟨PD, 0, none⟩) (show PC ≠ PD by omega) _
        have hb' : Below w.heap.size w (w5.setCell ⟨PD, 0, none⟩ (.string f2)) := hb.setCell (p := ⟨PD, 0, none⟩) (show w.heap.size ≤ PD by omega) _
        clear x0 x1 x2 y0 y1 y2 d0 d1 d2 f0 f1' r0 r1 r2 g0 g1 g2 hA hQ hD hC hb
        generalize w5.setCell ⟨PD, 0, none⟩ (.string f2) = w6 at *
        have hA := hA'
        have hQ := hQ'
        have hD := hD'
        have hC := hC'
        have hb := hb'
        clear hA' hQ' hD' hC' hb' 
        obtain ⟨x0, x1, x2⟩ := hA.c3
        obtain ⟨y0, y1, y2⟩ := hQ.c3
        obtain ⟨d0, d1, d2⟩ := hD.c3
        have f0 := hD.frozen 0
        have f1' := hD.frozen 1
        obtain ⟨r0, r1, r2⟩ := hC.c3
        have g0 := hC.frozen 0
        have g1 := hC.frozen 1
        have g2 := hC.frozen 2
        have hR := set3 (.string f2) (.string ⟨#[]⟩) (.bool true) hC
        have hbR : Below w.heap.size w (((w6.setCell ⟨PC, 0, none⟩ (.string f2)).setCell ⟨PC, 1, none⟩ (.string ⟨#[]⟩)).setCell ⟨PC, 2, none⟩ (.bool true)) := ((hb.setCell (p := ⟨PC, 0, none⟩) (show w.heap.size ≤ PC by omega) _).setCell (p := ⟨PC, 1, none⟩) (show w.heap.size ≤ PC by omega) _).setCell (p := ⟨PC, 2, none⟩) (show w.heap.size ≤ PC by omega) _
        go_wp2
        refine bodyPost_ret (res22 hR rfl) rfl ?_
        refine ⟨?_, hbR⟩
        rw [HFv.out, HTv.out]
        rfl
      · skip
        have hs : decide (0 < s) = false := by simpa using hc
        have HFv : Hid (F = f1) := by show _ = _; rw [HF.out, metF, Hs.out]; exact if_neg hc
        clear hc HF
        obtain ⟨x0, x1, x2⟩ := hA.c3
        obtain ⟨y0, y1, y2⟩ := hQ.c3
        obtain ⟨d0, d1, d2⟩ := hD.c3
        have f0 := hD.frozen 0
        have f1' := hD.frozen 1
        obtain ⟨r0, r1, r2⟩ := hC.c3
        have g0 := hC.frozen 0
        have g1 := hC.frozen 1
        have g2 := hC.frozen 2
        go_upto_region 5 with fail
        have hR := set3 (.string f1) (.string ⟨#[]⟩) (.bool true) hC
        have hbR : Below w.heap.size w (((w5.setCell ⟨PC, 0, none⟩ (.string f1)).setCell ⟨PC, 1, none⟩ (.string ⟨#[]⟩)).setCell ⟨PC, 2, none⟩ (.bool true)) := ((hb.setCell (p := ⟨PC, 0, none⟩) (show w.heap.size ≤ PC by omega) _).setCell (p := ⟨PC, 1, none⟩) (show w.heap.size ≤ PC by omega) _).setCell (p := ⟨PC, 2, none⟩) (show w.heap.size ≤ PC by omega) _
        go_wp2
        refine bodyPost_ret (res22 hR rfl) rfl ?_
        refine ⟨?_, hbR⟩
        rw [HFv.out, HTv.out]
        rfl
    | false =>
      have b4 := (Below.refl w3.heap.size w3).alloc (Nat.le_refl _) (.cells #[.string f1, .string ⟨#[]⟩, .bool false] 29)
      have B4 := Blk.new w3 29 #[.string f1, .string ⟨#[]⟩, .bool false]
      have hA4 := A3.old b4
      have hQ4 := Q3.old b4
      have hC4 := B3.old b4
      have hb4 := hb3.trans (b4.mono hb3.size)
      go_upto_region 2 with fail
      generalize w3.alloc (.cells #[.string f1, .string ⟨#[]⟩, .bool false] 29) = w4 at *
      generalize w3.heap.size = PD at *
      clear x0 x1 x2 y0 y1 y2 A3 Q3 B3 hb3 b4
      obtain ⟨x0, x1, x2⟩ := hA4.c3
      obtain ⟨y0, y1, y2⟩ := hQ4.c3
      go_wp2_with fail
      refine (HC1 w4).mono ?_
      clear HC1
      rintro e w5 ⟨rfl, hb5⟩
      have hA := hA4.old hb5
      have hQ := hQ4.old hb5
      have hC := hC4.old hb5
      have hD := B4.old hb5
      have hb := hb4.trans (hb5.mono hb4.size)
      clear x0 x1 x2 y0 y1 y2 hA4 hQ4 hC4 B4 hb4 hb5
      obtain ⟨s, Hs⟩ : ∃ s, Hid (sd f2 f1 = s) := ⟨_, rfl⟩
      rw [Hs.out]
      have HTv : Hid (T = t2) := HT
      clear HT HC2
      by_cases hc : 0 < s
      · skip
        have hs : decide (0 < s) = true := by simpa using hc
        have HFv : Hid (F = f2) := by show _ = _; rw [HF.out, metF, Hs.out]; exact if_pos hc
        clear hc HF
        obtain ⟨x0, x1, x2⟩ := hA.c3
        obtain ⟨y0, y1, y2⟩ := hQ.c3
        obtain ⟨d0, d1, d2⟩ := hD.c3
        have f0 := hD.frozen 0
        have f1' := hD.frozen 1
        obtain ⟨r0, r1, r2⟩ := hC.c3
        have g0 := hC.frozen 0
        have g1 := hC.frozen 1
        have g2 := hC.frozen 2
        go_upto_region 5 with fail
        have hD' : Blk (w5.setCell ⟨PD, 0, none⟩ (.string f2)) PD 29 #[.string f2, .string ⟨#[]⟩, .bool false] := hD.set 0 _
        have hA' : Blk (w5.setCell ⟨PD, 0, none⟩ (.string f2)) w.heap.size 29 #[.string f1, .string t1, .bool true] := hA.other (p := ⟨PD, 0, none⟩) (show w.heap.size ≠ PD by omega) _
        have hQ' : Blk (w5.setCell ⟨PD, 0, none⟩ (.string f2)) PB 29 #[.string f2, .string t2, .bool false] := hQ.other (p := ⟨PD, 0, none⟩) (show PB ≠ PD by omega) _
        have hC' : Blk (w5.setCell ⟨PD, 0, none⟩ (.string f2)) PC 29 #[.string ⟨#[]⟩, .string ⟨#[]⟩, .bool false] := hC.other (p := ⟨PD, 0, none⟩) (show PC ≠ PD by omega) _
        have hb' : Below w.heap.size w (w5.setCell ⟨PD, 0, none⟩ (.string f2)) := hb.setCell (p := ⟨PD, 0, none⟩) (show w.heap.size ≤ PD by omega) _
        clear x0 x1 x2 y0 y1 y2 d0 d1 d2 f0 f1' r0 r1 r2 g0 g1 g2 hA hQ hD hC hb
        generalize w5.setCell ⟨PD, 0, none⟩ (.string f2) = w6 at *
        have hA := hA'
        have hQ := hQ'
        have hD := hD'
        have hC := hC'
        have hb := hb'
        clear hA' hQ' hD' hC' hb' 
        obtain ⟨x0, x1, x2⟩ := hA.c3
        obtain ⟨y0, y1, y2⟩ := hQ.c3
        obtain ⟨d0, d1, d2⟩ := hD.c3
        have f0 := hD.frozen 0
        have f1' := hD.frozen 1
        obtain ⟨r0, r1, r2⟩ := hC.c3
        have g0 := hC.frozen 0
        have g1 := hC.frozen 1
        have g2 := hC.frozen 2
        go_upto_region 10 with fail
        have hD' : Blk (w6.setCell ⟨PD, 1, none⟩ (.string t2)) PD 29 #[.string f2, .string t2, .bool false] := hD.set 1 _
        have hC' : Blk (w6.setCell ⟨PD, 1, none⟩ (.string t2)) PC 29 #[.string ⟨#[]⟩, .string ⟨#[]⟩, .bool false] := hC.other (p := ⟨PD, 1, none⟩) (show PC ≠ PD by omega) _
        have hb' : Below w.heap.size w (w6.setCell ⟨PD, 1, none⟩ (.string t2)) := hb.setCell (p := ⟨PD, 1, none⟩) (show w.heap.size ≤ PD by omega) _
        clear x0 x1 x2 y0 y1 y2 d0 d1 d2 f0 f1' r0 r1 r2 g0 g1 g2 hA hQ hD hC hb
        generalize w6.setCell ⟨PD, 1, none⟩ (.string t2) = w8 at *
        have hD := hD'
        have hC := hC'
        have hb := hb'
        clear hD' hC' hb'
        obtain ⟨d0, d1, d2⟩ := hD.c3
        obtain ⟨r0, r1, r2⟩ := hC.c3
        have g0 := hC.frozen 0
        have g1 := hC.frozen 1
        have g2 := hC.frozen 2
        have hR := set3 (.string f2) (.string t2) (.bool false) hC
        have hbR : Below w.heap.size w (((w8.setCell ⟨PC, 0, none⟩ (.string f2)).setCell ⟨PC, 1, none⟩ (.string t2)).setCell ⟨PC, 2, none⟩ (.bool false)) := ((hb.setCell (p := ⟨PC, 0, none⟩) (show w.heap.size ≤ PC by omega) _).setCell (p := ⟨PC, 1, none⟩) (show w.heap.size ≤ PC by omega) _).setCell (p := ⟨PC, 2, none⟩) (show w.heap.size ≤ PC by omega) _
        go_wp2
        refine bodyPost_ret (res22 hR rfl) rfl ?_
        refine ⟨?_, hbR⟩
        rw [HFv.out, HTv.out]
        rfl
      · skip
        have hs : decide (0 < s) = false := by simpa using hc
        have HFv : Hid (F = f1) := by show _ = _; rw [HF.out, metF, Hs.out]; exact if_neg hc
        clear hc HF
        obtain ⟨x0, x1, x2⟩ := hA.c3
        obtain ⟨y0, y1, y2⟩ := hQ.c3
        obtain ⟨d0, d1, d2⟩ := hD.c3
        have f0 := hD.frozen 0
        have f1' := hD.frozen 1
        obtain ⟨r0, r1, r2⟩ := hC.c3
        have g0 := hC.frozen 0
        have g1 := hC.frozen 1
        have g2 := hC.frozen 2
        go_upto_region 5 with fail
        go_upto_region 10 with fail
        have hD' : Blk (w5.setCell ⟨PD, 1, none⟩ (.string t2)) PD 29 #[.string f1, .string t2, .bool false] := hD.set 1 _
        have hC' : Blk (w5.setCell ⟨PD, 1, none⟩ (.string t2)) PC 29 #[.string ⟨#[]⟩, .string ⟨#[]⟩, .bool false] := hC.other (p := ⟨PD, 1, none⟩) (show PC ≠ PD by omega) _
        have hb' : Below w.heap.size w (w5.setCell ⟨PD, 1, none⟩ (.string t2)) := hb.setCell (p := ⟨PD, 1, none⟩) (show w.heap.size ≤ PD by omega) _
        clear x0 x1 x2 y0 y1 y2 d0 d1 d2 f0 f1' r0 r1 r2 g0 g1 g2 hA hQ hD hC hb
        generalize w5.setCell ⟨PD, 1, none⟩ (.string t2) = w8 at *
        have hD := hD'
        have hC := hC'
        have hb := hb'
        clear hD' hC' hb'
        obtain ⟨d0, d1, d2⟩ := hD.c3
        obtain ⟨r0, r1, r2⟩ := hC.c3
        have g0 := hC.frozen 0
        have g1 := hC.frozen 1
        have g2 := hC.frozen 2
        have hR := set3 (.string f1) (.string t2) (.bool false) hC
        have hbR : Below w.heap.size w (((w8.setCell ⟨PC, 0, none⟩ (.string f1)).setCell ⟨PC, 1, none⟩ (.string t2)).setCell ⟨PC, 2, none⟩ (.bool false)) := ((hb.setCell (p := ⟨PC, 0, none⟩) (show w.heap.size ≤ PC by omega) _).setCell (p := ⟨PC, 1, none⟩) (show w.heap.size ≤ PC by omega) _).setCell (p := ⟨PC, 2, none⟩) (show w.heap.size ≤ PC by omega) _
        go_wp2
        refine bodyPost_ret (res22 hR rfl) rfl ?_
        refine ⟨?_, hbR⟩
        rw [HFv.out, HTv.out]
        rfl
  | false =>
    cases o2 with
    | true =>
      have b4 := (Below.refl w3.heap.size w3).alloc (Nat.le_refl _) (.cells #[.string f1, .string ⟨#[]⟩, .bool false] 29)
      have B4 := Blk.new w3 29 #[.string f1, .string ⟨#[]⟩, .bool false]
      have hA4 := A3.old b4
      have hQ4 := Q3.old b4
      have hC4 := B3.old b4
      have hb4 := hb3.trans (b4.mono hb3.size)
      go_upto_region 2 with fail
      generalize w3.alloc (.cells #[.string f1, .string ⟨#[]⟩, .bool false] 29) = w4 at *
      generalize w3.heap.size = PD at *
      clear x0 x1 x2 y0 y1 y2 A3 Q3 B3 hb3 b4
      obtain ⟨x0, x1, x2⟩ := hA4.c3
      obtain ⟨y0, y1, y2⟩ := hQ4.c3
      go_wp2_with fail
      refine (HC1 w4).mono ?_
      clear HC1
      rintro e w5 ⟨rfl, hb5⟩
      have hA := hA4.old hb5
      have hQ := hQ4.old hb5
      have hC := hC4.old hb5
      have hD := B4.old hb5
      have hb := hb4.trans (hb5.mono hb4.size)
      clear x0 x1 x2 y0 y1 y2 hA4 hQ4 hC4 B4 hb4 hb5
      obtain ⟨s, Hs⟩ : ∃ s, Hid (sd f2 f1 = s) := ⟨_, rfl⟩
      rw [Hs.out]
      have HTv : Hid (T = t1) := HT
      clear HT HC2
      by_cases hc : 0 < s
      · skip
        have hs : decide (0 < s) = true := by simpa using hc
        have HFv : Hid (F = f2) := by show _ = _; rw [HF.out, metF, Hs.out]; exact if_pos hc
        clear hc HF
        obtain ⟨x0, x1, x2⟩ := hA.c3
        obtain ⟨y0, y1, y2⟩ := hQ.c3
        obtain ⟨d0, d1, d2⟩ := hD.c3
        have f0 := hD.frozen 0
        have f1' := hD.frozen 1
        obtain ⟨r0, r1, r2⟩ := hC.c3
        have g0 := hC.frozen 0
        have g1 := hC.frozen 1
        have g2 := hC.frozen 2
        go_upto_region 5 with fail
        have hD' : Blk (w5.setCell ⟨PD, 0, none⟩ (.string f2)) PD 29 #[.string f2, .string ⟨#[]⟩, .bool false] := hD.set 0 _
        have hA' : Blk (w5.setCell ⟨PD, 0, none⟩ (.string f2)) w.heap.size 29 #[.string f1, .string t1, .bool false] := hA.other (p := ⟨PD, 0, none⟩) (show w.heap.size ≠ PD by omega) _
        have hQ' : Blk (w5.setCell ⟨PD, 0, none⟩ (.string f2)) PB 29 #[.string f2, .string t2, .bool true] := hQ.other (p := ⟨PD, 0, none⟩) (show PB ≠ PD by omega) _
        have hC' : Blk (w5.setCell ⟨PD, 0, none⟩ (.string f2)) PC 29 #[.string ⟨#[]⟩, .string ⟨#[]⟩, .bool false] := hC.other (p := ⟨PD, 0, none⟩) (show PC ≠ PD by omega) _
        have hb' : Below w.heap.size w (w5.setCell ⟨PD, 0, none⟩ (.string f2)) := hb.setCell (p := ⟨PD, 0, none⟩) (show w.heap.size ≤ PD by omega) _
        clear x0 x1 x2 y0 y1 y2 d0 d1 d2 f0 f1' r0 r1 r2 g0 g1 g2 hA hQ hD hC hb
        generalize w5.setCell ⟨PD, 0, none⟩ (.string f2) = w6 at *
        have hA := hA'
        have hQ := hQ'
        have hD := hD'
        have hC := hC'
        have hb := hb'
        clear hA' hQ' hD' hC' hb' 
        obtain ⟨x0, x1, x2⟩ := hA.c3
        obtain ⟨y0, y1, y2⟩ := hQ.c3
        obtain ⟨d0, d1, d2⟩ := hD.c3
        have f0 := hD.frozen 0
        have f1' := hD.frozen 1
        obtain ⟨r0, r1, r2⟩ := hC.c3
        have g0 := hC.frozen 0
        have g1 := hC.frozen 1
        have g2 := hC.frozen 2
        go_upto_region 10 with fail
        have hD' : Blk (w6.setCell ⟨PD, 1, none⟩ (.string t1)) PD 29 #[.string f2, .string t1, .bool false] := hD.set 1 _
        have hC' : Blk (w6.setCell ⟨PD, 1, none⟩ (.string t1)) PC 29 #[.string ⟨#[]⟩, .string ⟨#[]⟩, .bool false] := hC.other (p := ⟨PD, 1, none⟩) (show PC ≠ PD by omega) _
        have hb' : Below w.heap.size w (w6.setCell ⟨PD, 1, none⟩ (.string t1)) := hb.setCell (p := ⟨PD, 1, none⟩) (show w.heap.size ≤ PD by omega) _
        clear x0 x1 x2 y0 y1 y2 d0 d1 d2 f0 f1' r0 r1 r2 g0 g1 g2 hA hQ hD hC hb
        generalize w6.setCell ⟨PD, 1, none⟩ (.string t1) = w8 at *
        have hD := hD'
        have hC := hC'
        have hb := hb'
        clear hD' hC' hb'
        obtain ⟨d0, d1, d2⟩ := hD.c3
        obtain ⟨r0, r1, r2⟩ := hC.c3
        have g0 := hC.frozen 0
        have g1 := hC.frozen 1
        have g2 := hC.frozen 2
        have hR := set3 (.string f2) (.string t1) (.bool false) hC
        have hbR : Below w.heap.size w (((w8.setCell ⟨PC, 0, none⟩ (.string f2)).setCell ⟨PC, 1, none⟩ (.string t1)).setCell ⟨PC, 2, none⟩ (.bool false)) := ((hb.setCell (p := ⟨PC, 0, none⟩) (show w.heap.size ≤ PC by omega) _).setCell (p := ⟨PC, 1, none⟩) (show w.heap.size ≤ PC by omega) _).setCell (p := ⟨PC, 2, none⟩) (show w.heap.size ≤ PC by omega) _
        go_wp2
        refine bodyPost_ret (res22 hR rfl) rfl ?_
        refine ⟨?_, hbR⟩
        rw [HFv.out, HTv.out]
        rfl
      · skip
        have hs : decide (0 < s) = false := by simpa using hc
        have HFv : Hid (F = f1) := by show _ = _; rw [HF.out, metF, Hs.out]; exact if_neg hc
        clear hc HF
        obtain ⟨x0, x1, x2⟩ := hA.c3
        obtain ⟨y0, y1, y2⟩ := hQ.c3
        obtain ⟨d0, d1, d2⟩ := hD.c3
        have f0 := hD.frozen 0
        have f1' := hD.frozen 1
        obtain ⟨r0, r1, r2⟩ := hC.c3
        have g0 := hC.frozen 0
        have g1 := hC.frozen 1
        have g2 := hC.frozen 2
        go_upto_region 5 with fail
        go_upto_region 10 with fail
        have hD' : Blk (w5.setCell ⟨PD, 1, none⟩ (.string t1)) PD 29 #[.string f1, .string t1, .bool false] := hD.set 1 _
        have hC' : Blk (w5.setCell ⟨PD, 1, none⟩ (.string t1)) PC 29 #[.string ⟨#[]⟩, .string ⟨#[]⟩, .bool false] := hC.other (p := ⟨PD, 1, none⟩) (show PC ≠ PD by omega) _
        have hb' : Below w.heap.size w (w5.setCell ⟨PD, 1, none⟩ (.string t1)) := hb.setCell (p := ⟨PD, 1, none⟩) (show w.heap.size ≤ PD by omega) _
        clear x0 x1 x2 y0 y1 y2 d0 d1 d2 f0 f1' r0 r1 r2 g0 g1 g2 hA hQ hD hC hb
        generalize w5.setCell ⟨PD, 1, none⟩ (.string t1) = w8 at *
        have hD := hD'
        have hC := hC'
        have hb := hb'
        clear hD' hC' hb'
        obtain ⟨d0, d1, d2⟩ := hD.c3
        obtain ⟨r0, r1, r2⟩ := hC.c3
        have g0 := hC.frozen 0
        have g1 := hC.frozen 1
        have g2 := hC.frozen 2
        have hR := set3 (.string f1) (.string t1) (.bool false) hC
        have hbR : Below w.heap.size w (((w8.setCell ⟨PC, 0, none⟩ (.string f1)).setCell ⟨PC, 1, none⟩ (.string t1)).setCell ⟨PC, 2, none⟩ (.bool false)) := ((hb.setCell (p := ⟨PC, 0, none⟩) (show w.heap.size ≤ PC by omega) _).setCell (p := ⟨PC, 1, none⟩) (show w.heap.size ≤ PC by omega) _).setCell (p := ⟨PC, 2, none⟩) (show w.heap.size ≤ PC by omega) _
        go_wp2
        refine bodyPost_ret (res22 hR rfl) rfl ?_
        refine ⟨?_, hbR⟩
        rw [HFv.out, HTv.out]
        rfl
    | false =>
      have b4 := (Below.refl w3.heap.size w3).alloc (Nat.le_refl _) (.cells #[.string f1, .string ⟨#[]⟩, .bool false] 29)
      have B4 := Blk.new w3 29 #[.string f1, .string ⟨#[]⟩, .bool false]
      have hA4 := A3.old b4
      have hQ4 := Q3.old b4
      have hC4 := B3.old b4
      have hb4 := hb3.trans (b4.mono hb3.size)
      go_upto_region 2 with fail
      generalize w3.alloc (.cells #[.string f1, .string ⟨#[]⟩, .bool false] 29) = w4 at *
      generalize w3.heap.size = PD at *
      clear x0 x1 x2 y0 y1 y2 A3 Q3 B3 hb3 b4
      obtain ⟨x0, x1, x2⟩ := hA4.c3
      obtain ⟨y0, y1, y2⟩ := hQ4.c3
      go_wp2_with fail
      refine (HC1 w4).mono ?_
      clear HC1
      rintro e w5 ⟨rfl, hb5⟩
      have hA := hA4.old hb5
      have hQ := hQ4.old hb5
      have hC := hC4.old hb5
      have hD := B4.old hb5
      have hb := hb4.trans (hb5.mono hb4.size)
      clear x0 x1 x2 y0 y1 y2 hA4 hQ4 hC4 B4 hb4 hb5
      obtain ⟨s, Hs⟩ : ∃ s, Hid (sd f2 f1 = s) := ⟨_, rfl⟩
      rw [Hs.out]
      obtain ⟨s2, Hs2⟩ : ∃ s2, Hid (sd t1 t2 = s2) := ⟨_, rfl⟩
      by_cases hd : s2 ≤ 0
      · have HTv : Hid (T = t1) := by show _ = _; rw [HT.out, metT]; simp only [Bool.and_self, Bool.false_eq_true, if_false]; rw [Hs2.out]; exact if_pos hd
        have hdb : decide (s2 ≤ 0) = true := by simpa using hd
        clear HT hd
        by_cases hc : 0 < s
        · skip
          have hs : decide (0 < s) = true := by simpa using hc
          have HFv : Hid (F = f2) := by show _ = _; rw [HF.out, metF, Hs.out]; exact if_pos hc
          clear hc HF
          obtain ⟨x0, x1, x2⟩ := hA.c3
          obtain ⟨y0, y1, y2⟩ := hQ.c3
          obtain ⟨d0, d1, d2⟩ := hD.c3
          have f0 := hD.frozen 0
          have f1' := hD.frozen 1
          obtain ⟨r0, r1, r2⟩ := hC.c3
          have g0 := hC.frozen 0
          have g1 := hC.frozen 1
          have g2 := hC.frozen 2
          go_upto_region 5 with fail
          have hD' : Blk (w5.setCell ⟨PD, 0, none⟩ (.string f2)) PD 29 #[.string f2, .string ⟨#[]⟩, .bool false] := hD.set 0 _
          have hA' : Blk (w5.setCell ⟨PD, 0, none⟩ (.string f2)) w.heap.size 29 #[.string f1, .string t1, .bool false] := hA.other (p := ⟨PD, 0, none⟩) (show w.heap.size ≠ PD by omega) _
          have hQ' : Blk (w5.setCell ⟨PD, 0, none⟩ (.string f2)) PB 29 #[.string f2, .string t2, .bool false] := hQ.other (p := ⟨PD, 0, none⟩) (show PB ≠ PD by omega) _
          have hC' : Blk (w5.setCell ⟨PD, 0, none⟩ (.string f2)) PC 29 #[.string ⟨#[]⟩, .string ⟨#[]⟩, .bool false] := hC.other (p := ⟨PD, 0, none⟩) (show PC ≠ PD by omega) _
          have hb' : Below w.heap.size w (w5.setCell ⟨PD, 0, none⟩ (.string f2)) := hb.setCell (p := ⟨PD, 0, none⟩) (show w.heap.size ≤ PD by omega) _
          clear x0 x1 x2 y0 y1 y2 d0 d1 d2 f0 f1' r0 r1 r2 g0 g1 g2 hA hQ hD hC hb
          generalize w5.setCell ⟨PD, 0, none⟩ (.string f2) = w6 at *
          have hA := hA'
          have hQ := hQ'
          have hD := hD'
          have hC := hC'
          have hb := hb'
          clear hA' hQ' hD' hC' hb' 
          obtain ⟨x0, x1, x2⟩ := hA.c3
          obtain ⟨y0, y1, y2⟩ := hQ.c3
          obtain ⟨d0, d1, d2⟩ := hD.c3
          have f0 := hD.frozen 0
          have f1' := hD.frozen 1
          obtain ⟨r0, r1, r2⟩ := hC.c3
          have g0 := hC.frozen 0
          have g1 := hC.frozen 1
          have g2 := hC.frozen 2
          go_wp2_with fail
          refine (HC2 w6).mono ?_
          rintro e w7 ⟨rfl, hb7⟩
          rw [Hs2.out]
          have hA' := hA.old hb7
          have hQ' := hQ.old hb7
          have hD' := hD.old hb7
          have hC' := hC.old hb7
          have hb' := hb.trans (hb7.mono hb.size)
          clear x0 x1 x2 y0 y1 y2 d0 d1 d2 f0 f1' r0 r1 r2 g0 g1 g2 hA hQ hD hC hb hb7
          have hA := hA'
          have hQ := hQ'
          have hD := hD'
          have hC := hC'
          have hb := hb'
          clear hA' hQ' hD' hC' hb' 
          obtain ⟨x0, x1, x2⟩ := hA.c3
          obtain ⟨y0, y1, y2⟩ := hQ.c3
          obtain ⟨d0, d1, d2⟩ := hD.c3
          have f0 := hD.frozen 0
          have f1' := hD.frozen 1
          obtain ⟨r0, r1, r2⟩ := hC.c3
          have g0 := hC.frozen 0
          have g1 := hC.frozen 1
          have g2 := hC.frozen 2
          go_upto_region 10 with fail
          have hD' : Blk (w7.setCell ⟨PD, 1, none⟩ (.string t1)) PD 29 #[.string f2, .string t1, .bool false] := hD.set 1 _
          have hC' : Blk (w7.setCell ⟨PD, 1, none⟩ (.string t1)) PC 29 #[.string ⟨#[]⟩, .string ⟨#[]⟩, .bool false] := hC.other (p := ⟨PD, 1, none⟩) (show PC ≠ PD by omega) _
          have hb' : Below w.heap.size w (w7.setCell ⟨PD, 1, none⟩ (.string t1)) := hb.setCell (p := ⟨PD, 1, none⟩) (show w.heap.size ≤ PD by omega) _
          clear x0 x1 x2 y0 y1 y2 d0 d1 d2 f0 f1' r0 r1 r2 g0 g1 g2 hA hQ hD hC hb
          generalize w7.setCell ⟨PD, 1, none⟩ (.string t1) = w8 at *
          have hD := hD'
          have hC := hC'
          have hb := hb'
          clear hD' hC' hb'
          obtain ⟨d0, d1, d2⟩ := hD.c3
          obtain ⟨r0, r1, r2⟩ := hC.c3
          have g0 := hC.frozen 0
          have g1 := hC.frozen 1
          have g2 := hC.frozen 2
          have hR := set3 (.string f2) (.string t1) (.bool false) hC
          have hbR : Below w.heap.size w (((w8.setCell ⟨PC, 0, none⟩ (.string f2)).setCell ⟨PC, 1, none⟩ (.string t1)).setCell ⟨PC, 2, none⟩ (.bool false)) := ((hb.setCell (p := ⟨PC, 0, none⟩) (show w.heap.size ≤ PC by omega) _).setCell (p := ⟨PC, 1, none⟩) (show w.heap.size ≤ PC by omega) _).setCell (p := ⟨PC, 2, none⟩) (show w.heap.size ≤ PC by omega) _
          go_wp2
          refine bodyPost_ret (res22 hR rfl) rfl ?_
          refine ⟨?_, hbR⟩
          rw [HFv.out, HTv.out]
          rfl
        · skip
          have hs : decide (0 < s) = false := by simpa using hc
          have HFv : Hid (F = f1) := by show _ = _; rw [HF.out, metF, Hs.out]; exact if_neg hc
          clear hc HF
          obtain ⟨x0, x1, x2⟩ := hA.c3
          obtain ⟨y0, y1, y2⟩ := hQ.c3
          obtain ⟨d0, d1, d2⟩ := hD.c3
          have f0 := hD.frozen 0
          have f1' := hD.frozen 1
          obtain ⟨r0, r1, r2⟩ := hC.c3
          have g0 := hC.frozen 0
          have g1 := hC.frozen 1
          have g2 := hC.frozen 2
          go_upto_region 5 with fail
          go_wp2_with fail
          refine (HC2 w5).mono ?_
          rintro e w7 ⟨rfl, hb7⟩
          rw [Hs2.out]
          have hA' := hA.old hb7
          have hQ' := hQ.old hb7
          have hD' := hD.old hb7
          have hC' := hC.old hb7
          have hb' := hb.trans (hb7.mono hb.size)
          clear x0 x1 x2 y0 y1 y2 d0 d1 d2 f0 f1' r0 r1 r2 g0 g1 g2 hA hQ hD hC hb hb7
          have hA := hA'
          have hQ := hQ'
          have hD := hD'
          have hC := hC'
          have hb := hb'
          clear hA' hQ' hD' hC' hb' 
          obtain ⟨x0, x1, x2⟩ := hA.c3
          obtain ⟨y0, y1, y2⟩ := hQ.c3
          obtain ⟨d0, d1, d2⟩ := hD.c3
          have f0 := hD.frozen 0
          have f1' := hD.frozen 1
          obtain ⟨r0, r1, r2⟩ := hC.c3
          have g0 := hC.frozen 0
          have g1 := hC.frozen 1
          have g2 := hC.frozen 2
          go_upto_region 10 with fail
          have hD' : Blk (w7.setCell ⟨PD, 1, none⟩ (.string t1)) PD 29 #[.string f1, .string t1, .bool false] := hD.set 1 _
          have hC' : Blk (w7.setCell ⟨PD, 1, none⟩ (.string t1)) PC 29 #[.string ⟨#[]⟩, .string ⟨#[]⟩, .bool false] := hC.other (p := ⟨PD, 1, none⟩) (show PC ≠ PD by omega) _
          have hb' : Below w.heap.size w (w7.setCell ⟨PD, 1, none⟩ (.string t1)) := hb.setCell (p := ⟨PD, 1, none⟩) (show w.heap.size ≤ PD by omega) _
          clear x0 x1 x2 y0 y1 y2 d0 d1 d2 f0 f1' r0 r1 r2 g0 g1 g2 hA hQ hD hC hb
          generalize w7.setCell ⟨PD, 1, none⟩ (.string t1) = w8 at *
          have hD := hD'
          have hC := hC'
          have hb := hb'
          clear hD' hC' hb'
          obtain ⟨d0, d1, d2⟩ := hD.c3
          obtain ⟨r0, r1, r2⟩ := hC.c3
          have g0 := hC.frozen 0
          have g1 := hC.frozen 1
          have g2 := hC.frozen 2
          have hR := set3 (.string f1) (.string t1) (.bool false) hC
          have hbR : Below w.heap.size w (((w8.setCell ⟨PC, 0, none⟩ (.string f1)).setCell ⟨PC, 1, none⟩ (.string t1)).setCell ⟨PC, 2, none⟩ (.bool false)) := ((hb.setCell (p := ⟨PC, 0, none⟩) (show w.heap.size ≤ PC by omega) _).setCell (p := ⟨PC, 1, none⟩) (show w.heap.size ≤ PC by omega) _).setCell (p := ⟨PC, 2, none⟩) (show w.heap.size ≤ PC by omega) _
          go_wp2
          refine bodyPost_ret (res22 hR rfl) rfl ?_
          refine ⟨?_, hbR⟩
          rw [HFv.out, HTv.out]
          rfl
      · have HTv : Hid (T = t2) := by show _ = _; rw [HT.out, metT]; simp only [Bool.and_self, Bool.false_eq_true, if_false]; rw [Hs2.out]; exact if_neg hd
        have hdb : decide (s2 ≤ 0) = false := by simpa using hd
        clear HT hd
        by_cases hc : 0 < s
        · skip
          have hs : decide (0 < s) = true := by simpa using hc
          have HFv : Hid (F = f2) := by show _ = _; rw [HF.out, metF, Hs.out]; exact if_pos hc
          clear hc HF
          obtain ⟨x0, x1, x2⟩ := hA.c3
          obtain ⟨y0, y1, y2⟩ := hQ.c3
          obtain ⟨d0, d1, d2⟩ := hD.c3
          have f0 := hD.frozen 0
          have f1' := hD.frozen 1
          obtain ⟨r0, r1, r2⟩ := hC.c3
          have g0 := hC.frozen 0
          have g1 := hC.frozen 1
          have g2 := hC.frozen 2
          go_upto_region 5 with fail
          have hD' : Blk (w5.setCell ⟨PD, 0, none⟩ (.string f2)) PD 29 #[.string f2, .string ⟨#[]⟩, .bool false] := hD.set 0 _
          have hA' : Blk (w5.setCell ⟨PD, 0, none⟩ (.string f2)) w.heap.size 29 #[.string f1, .string t1, .bool false] := hA.other (p := ⟨PD, 0, none⟩) (show w.heap.size ≠ PD by omega) _
          have hQ' : Blk (w5.setCell ⟨PD, 0, none⟩ (.string f2)) PB 29 #[.string f2, .string t2, .bool false] := hQ.other (p := ⟨PD, 0, none⟩) (show PB ≠ PD by omega) _
          have hC' : Blk (w5.setCell ⟨PD, 0, none⟩ (.string f2)) PC 29 #[.string ⟨#[]⟩, .string ⟨#[]⟩, .bool false] := hC.other (p := ⟨PD, 0, none⟩) (show PC ≠ PD by omega) _
          have hb' : Below w.heap.size w (w5.setCell ⟨PD, 0, none⟩ (.string f2)) := hb.setCell (p := ⟨PD, 0, none⟩) (show w.heap.size ≤ PD by omega) _
          clear x0 x1 x2 y0 y1 y2 d0 d1 d2 f0 f1' r0 r1 r2 g0 g1 g2 hA hQ hD hC hb
          generalize w5.setCell ⟨PD, 0, none⟩ (.string f2) = w6 at *
          have hA := hA'
          have hQ := hQ'
          have hD := hD'
          have hC := hC'
          have hb := hb'
          clear hA' hQ' hD' hC' hb' 
          obtain ⟨x0, x1, x2⟩ := hA.c3
          obtain ⟨y0, y1, y2⟩ := hQ.c3
          obtain ⟨d0, d1, d2⟩ := hD.c3
          have f0 := hD.frozen 0
          have f1' := hD.frozen 1
          obtain ⟨r0, r1, r2⟩ := hC.c3
          have g0 := hC.frozen 0
          have g1 := hC.frozen 1
          have g2 := hC.frozen 2
          go_wp2_with fail
          refine (HC2 w6).mono ?_
          rintro e w7 ⟨rfl, hb7⟩
          rw [Hs2.out]
          have hA' := hA.old hb7
          have hQ' := hQ.old hb7
          have hD' := hD.old hb7
          have hC' := hC.old hb7
          have hb' := hb.trans (hb7.mono hb.size)
          clear x0 x1 x2 y0 y1 y2 d0 d1 d2 f0 f1' r0 r1 r2 g0 g1 g2 hA hQ hD hC hb hb7
          have hA := hA'
          have hQ := hQ'
          have hD := hD'
          have hC := hC'
          have hb := hb'
          clear hA' hQ' hD' hC' hb' 
          obtain ⟨x0, x1, x2⟩ := hA.c3
          obtain ⟨y0, y1, y2⟩ := hQ.c3
          obtain ⟨d0, d1, d2⟩ := hD.c3
          have f0 := hD.frozen 0
          have f1' := hD.frozen 1
          obtain ⟨r0, r1, r2⟩ := hC.c3
          have g0 := hC.frozen 0
          have g1 := hC.frozen 1
          have g2 := hC.frozen 2
          go_upto_region 10 with fail
          have hD' : Blk (w7.setCell ⟨PD, 1, none⟩ (.string t2)) PD 29 #[.string f2, .string t2, .bool false] := hD.set 1 _
          have hC' : Blk (w7.setCell ⟨PD, 1, none⟩ (.string t2)) PC 29 #[.string ⟨#[]⟩, .string ⟨#[]⟩, .bool false] := hC.other (p := ⟨PD, 1, none⟩) (show PC ≠ PD by omega) _
          have hb' : Below w.heap.size w (w7.setCell ⟨PD, 1, none⟩ (.string t2)) := hb.setCell (p := ⟨PD, 1, none⟩) (show w.heap.size ≤ PD by omega) _
          clear x0 x1 x2 y0 y1 y2 d0 d1 d2 f0 f1' r0 r1 r2 g0 g1 g2 hA hQ hD hC hb
          generalize w7.setCell ⟨PD, 1, none⟩ (.string t2) = w8 at *
          have hD := hD'
          have hC := hC'
          have hb := hb'
          clear hD' hC' hb'
          obtain ⟨d0, d1, d2⟩ := hD.c3
          obtain ⟨r0, r1, r2⟩ := hC.c3
          have g0 := hC.frozen 0
          have g1 := hC.frozen 1
          have g2 := hC.frozen 2
          have hR := set3 (.string f2) (.string t2) (.bool false) hC
          have hbR : Below w.heap.size w (((w8.setCell ⟨PC, 0, none⟩ (.string f2)).setCell ⟨PC, 1, none⟩ (.string t2)).setCell ⟨PC, 2, none⟩ (.bool false)) := ((hb.setCell (p := ⟨PC, 0, none⟩) (show w.heap.size ≤ PC by omega) _).setCell (p := ⟨PC, 1, none⟩) (show w.heap.size ≤ PC by omega) _).setCell (p := ⟨PC, 2, none⟩) (show w.heap.size ≤ PC by omega) _
          go_wp2
          refine bodyPost_ret (res22 hR rfl) rfl ?_
          refine ⟨?_, hbR⟩
          rw [HFv.out, HTv.out]
          rfl
        · skip
          have hs : decide (0 < s) = false := by simpa using hc
          have HFv : Hid (F = f1) := by show _ = _; rw [HF.out, metF, Hs.out]; exact if_neg hc
          clear hc HF
          obtain ⟨x0, x1, x2⟩ := hA.c3
          obtain ⟨y0, y1, y2⟩ := hQ.c3
          obtain ⟨d0, d1, d2⟩ := hD.c3
          have f0 := hD.frozen 0
          have f1' := hD.frozen 1
          obtain ⟨r0, r1, r2⟩ := hC.c3
          have g0 := hC.frozen 0
          have g1 := hC.frozen 1
          have g2 := hC.frozen 2
          go_upto_region 5 with fail
          go_wp2_with fail
          refine (HC2 w5).mono ?_
          rintro e w7 ⟨rfl, hb7⟩
          rw [Hs2.out]
          have hA' := hA.old hb7
          have hQ' := hQ.old hb7
          have hD' := hD.old hb7
          have hC' := hC.old hb7
          have hb' := hb.trans (hb7.mono hb.size)
          clear x0 x1 x2 y0 y1 y2 d0 d1 d2 f0 f1' r0 r1 r2 g0 g1 g2 hA hQ hD hC hb hb7
          have hA := hA'
          have hQ := hQ'
          have hD := hD'
          have hC := hC'
          have hb := hb'
          clear hA' hQ' hD' hC' hb' 
          obtain ⟨x0, x1, x2⟩ := hA.c3
          obtain ⟨y0, y1, y2⟩ := hQ.c3
          obtain ⟨d0, d1, d2⟩ := hD.c3
          have f0 := hD.frozen 0
          have f1' := hD.frozen 1
          obtain ⟨r0, r1, r2⟩ := hC.c3
          have g0 := hC.frozen 0
          have g1 := hC.frozen 1
          have g2 := hC.frozen 2
          go_upto_region 10 with fail
          have hD' : Blk (w7.setCell ⟨PD, 1, none⟩ (.string t2)) PD 29 #[.string f1, .string t2, .bool false] := hD.set 1 _
          have hC' : Blk (w7.setCell ⟨PD, 1, none⟩ (.string t2)) PC 29 #[.string ⟨#[]⟩, .string ⟨#[]⟩, .bool false] := hC.other (p := ⟨PD, 1, none⟩) (show PC ≠ PD by omega) _
          have hb' : Below w.heap.size w (w7.setCell ⟨PD, 1, none⟩ (.string t2)) := hb.setCell (p := ⟨PD, 1, none⟩) (show w.heap.size ≤ PD by omega) _
          clear x0 x1 x2 y0 y1 y2 d0 d1 d2 f0 f1' r0 r1 r2 g0 g1 g2 hA hQ hD hC hb
          generalize w7.setCell ⟨PD, 1, none⟩ (.string t2) = w8 at *
          have hD := hD'
          have hC := hC'
          have hb := hb'
          clear hD' hC' hb'
          obtain ⟨d0, d1, d2⟩ := hD.c3
          obtain ⟨r0, r1, r2⟩ := hC.c3
          have g0 := hC.frozen 0
          have g1 := hC.frozen 1
          have g2 := hC.frozen 2
          have hR := set3 (.string f1) (.string t2) (.bool false) hC
          have hbR : Below w.heap.size w (((w8.setCell ⟨PC, 0, none⟩ (.string f1)).setCell ⟨PC, 1, none⟩ (.string t2)).setCell ⟨PC, 2, none⟩ (.bool false)) := ((hb.setCell (p := ⟨PC, 0, none⟩) (show w.heap.size ≤ PC by omega) _).setCell (p := ⟨PC, 1, none⟩) (show w.heap.size ≤ PC by omega) _).setCell (p := ⟨PC, 2, none⟩) (show w.heap.size ≤ PC by omega) _
          go_wp2
          refine bodyPost_ret (res22 hR rfl) rfl ?_
          refine ⟨?_, hbR⟩
          rw [HFv.out, HTv.out]
          rfl
end Go.Proofs.Ytklnnkdcnaieoaa
