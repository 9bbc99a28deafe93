/- Contracts and lemmas (nothing is claimed here). -/
import Derived.Test.YtkcnjnccdafbfaaGreatDoorMSt
import Derived.Test.YtkcnjnccdafbfaaGreatDoorJ13
import Derived.Test.YtkcnjnccdafbfaaGreatDoorJ28
namespace Go.Proofs.YtkcnjnccdafbfaaGreatDoor
open Go.RowKit Go.Vf Go.Maps
def flatS (vs : List (Value × Value)) : List Value := vs.flatMap fun p => [p.1, p.2]
theorem flatS_snoc (vs : List (Value × Value)) (p e : Value) : flatS (vs ++ [(p, e)]) = flatS vs ++ [p, e] := by simp [flatS]
theorem flatS_at : ∀ (vs : List (Value × Value)) (j : Nat) (hj : j < vs.length), (flatS vs)[j * 2]? = some vs[j].1 ∧ (flatS vs)[j * 2 + 1]? = some vs[j].2 := by
  intro vs
  induction vs with
  | nil => intro j hj; simp at hj
  | cons a r ih =>
    intro j hj
    have e : flatS (a :: r) = a.1 :: a.2 :: flatS r := by simp [flatS]
    cases j with
    | zero => rw [e]; exact ⟨rfl, rfl⟩
    | succ j =>
      have h := ih j (by simpa using hj)
      rw [e, show (j + 1) * 2 = j * 2 + 1 + 1 by omega]
      simpa using h
theorem info47 : (Tryz.prog.info? 47).map (fun i => (i.zero, i.size, i.bytes)) = some (some (.agg #[.slice none 0 0, .slice none 0 0]), 2, 48) := by kernel_rfl
theorem wpList_append_step {w : World} {ops : Array Oper} {rest : List Oper} {o : Oper} {a : Act} {Q : Exit → Act → World → Prop} (hgd : o.guard = none) (s x : Operand)
    (ho : o.op = .call { callee := .builtin .append, args := #[s, x], argTypes := #[44, 44] })
    (base : Nat) (v : Value) (n : Nat) (xs : List Value) (hs : a.eval s = v) (hown : w.ownsRow base 47 2 v n xs) (ad : Addr) (c : Nat) (u1 u2 : Value) (hx : a.eval x = .slice (some ad) 1 c)
    (hc : w.cell? (ad.add 0) = some u1 ∧ w.cell? (ad.add 1) = some u2) (h1 : u1.oneCell' = true ∧ u2.oneCell' = true) (hlen : n ≤ 1048576) (hbase : base ≤ w.heap.size)
    (h : ∀ a' c' w', w'.ownsRow base 47 2 (.slice a' (n + 1) c') (n + 1) (xs ++ [u1, u2]) → w.grownBy w' v.ownBlock → ((Value.slice a' (n + 1) c').ownBlock = v.ownBlock ∨ (Value.slice a' (n + 1) c').ownBlock = some w.heap.size) → wpList Tryz.prog ops Q rest (a.put o.dst (.slice a' (n + 1) c')) w') :
    wpList Tryz.prog ops Q (o :: rest) a w := by
  obtain ⟨i, hi, hz, hsz, hby⟩ := info_parts info47
  refine wpList_append_own_at (P := Tryz.prog) _ hgd s x 44 ho base 47 i _ 2 48 Tryz.underlying44 hi hz hsz hby rfl (by decide) v n xs hs hown ad 1 c [u1, u2] hx rfl ?_ ?_ ?_ ?_ ?_ ?_
  · intro j u hu
    match j, hu with
    | 0, hu => simp at hu; subst hu; exact hc.1
    | 1, hu => simp at hu; subst hu; exact hc.2
  · intro u hu
    simp at hu
    rcases hu with rfl | rfl
    · exact h1.1
    · exact h1.2
  · unfold maxLen; omega
  · omega
  · omega
  · intro v' w' q1 q2 _ q4
    obtain ⟨a', c', rfl⟩ := row_val q1
    exact h a' c' w' q1 q2 q4
structure StepsAt (n₀ : Nat) (W : World) (base : Nat) (v : Value) (rs : List (List Int)) (l : List Ent) (vs : List (Value × Value)) : Prop where
  len : vs.length = rs.length
  row : W.ownsRow base 47 2 v rs.length (flatS vs)
  pts : ∀ j (h1 : j < vs.length) (h2 : j < rs.length), IOwn W base vs[j].1 rs[j]
  els : ∀ j (h1 : j < vs.length) (h2 : j < rs.length), Els n₀ W vs[j].2 (elOf l rs[j]) ∨ EOwn W base vs[j].2 (elOf l rs[j])
  one : ∀ p ∈ vs, (∃ a n c, p.1 = .slice a n c) ∧ ∃ a n c, p.2 = .slice a n c
section
variable {n₀ : Nat} {W W' : World} {base : Nat} {v : Value} {rs : List (List Int)} {l : List Ent} {vs : List (Value × Value)}
theorem StepsAt.nil : StepsAt n₀ W base (.slice none 0 0) [] l [] := ⟨rfl, World.ownsRow_nil _ _ _ _, fun j h => absurd h (by simp), fun j h => absurd h (by simp), fun p h => by simp at h⟩
theorem StepsAt.go (h : StepsAt n₀ W base v rs l vs) (hb : Below W.heap.size W W') (hn : n₀ ≤ W.heap.size) : StepsAt n₀ W' base v rs l vs :=
  ⟨h.len, own_after h.row hb, fun j h1 h2 => own_after (h.pts j h1 h2) hb, fun j h1 h2 => (h.els j h1 h2).imp (fun q => q.below hb hn) (fun q => own_after q hb), h.one⟩
end
theorem StepsAt.low {n₀ base b2 : Nat} {W : World} {v : Value} {rs : List (List Int)} {l : List Ent} {vs : List (Value × Value)} (h : StepsAt n₀ W base v rs l vs) (hb : b2 ≤ base) : StepsAt n₀ W b2 v rs l vs :=
  ⟨h.len, ownsRow_mono h.row hb, fun j h1 h2 => ownsRow_mono (h.pts j h1 h2) hb, fun j h1 h2 => (h.els j h1 h2).imp id (fun q => ownsRow_mono q hb), h.one⟩
theorem StepsAt.snoc {n₀ base : Nat} {W W' : World} {v v' : Value} {rs : List (List Int)} {l : List Ent} {vs : List (Value × Value)} (h : StepsAt n₀ W base v rs l vs) (hg : W.grownBy W' v.ownBlock) (hn : n₀ ≤ base) {a1 a2 : Option Addr} {m1 m2 c1 c2 : Nat} {r : List Int} (hr : IOwn W' base (.slice a1 m1 c1) r) (he : Els n₀ W' (.slice a2 m2 c2) (elOf l r) ∨ EOwn W' base (.slice a2 m2 c2) (elOf l r)) (hrow : W'.ownsRow base 47 2 v' (rs.length + 1) (flatS vs ++ [.slice a1 m1 c1, .slice a2 m2 c2])) : StepsAt n₀ W' base v' (rs ++ [r]) l (vs ++ [(.slice a1 m1 c1, .slice a2 m2 c2)]) := by
  have hb : ∀ k, k < base → k < W.heap.size → W'.heap[k]? = W.heap[k]? := fun k hk hk2 => hg.block k hk2 (fun e => by have := (own_ge h.row e.symm).1; omega)
  have hels : ∀ {u : Value} {x : List El}, Els n₀ W u x → Els n₀ W' u x := fun {u x} q => by
    rcases q with q | ⟨b, off, cap, e, q1, q2⟩
    · exact .inl q
    · refine .inr ⟨b, off, cap, e, q1, fun j hj => ?_⟩
      obtain ⟨z0, z1, z2, z3⟩ := q2 j hj
      have hlt : b < W.heap.size := by
        simp only [World.cell?] at z0
        by_cases hx : b < W.heap.size
        · exact hx
        · rw [Array.getElem?_eq_none (by omega)] at z0; simp at z0
      have hq := fun o => World.cell?_of_block (w := W) (w' := W') (a := ⟨b, o, none⟩) (hb b (by omega) hlt)
      exact ⟨(hq _).trans z0, (hq _).trans z1, (hq _).trans z2, (hq _).trans z3⟩
  refine ⟨by simp [h.len], by rw [flatS_snoc]; simpa using hrow, fun j h1 h2 => ?_, fun j h1 h2 => ?_, fun p hp => ?_⟩
  · rcases Nat.lt_or_ge j vs.length with q | q
    · have q2 : j < rs.length := by have := h.len; omega
      rw [List.getElem_append_left q, List.getElem_append_left q2]
      exact own_grown (h.pts j q q2) hg (apt_types h.row (h.pts j q q2) (by decide))
    · obtain rfl : j = vs.length := by simp at h1; omega
      simp only [List.getElem_append_right (Nat.le_refl _), Nat.sub_self, List.getElem_cons_zero]
      have e2 : (rs ++ [r])[vs.length]'h2 = r := by
        have : (rs ++ [r])[vs.length]? = some r := by rw [h.len]; simp
        exact (List.getElem?_eq_some_iff.1 this).2
      rw [e2]
      exact hr
  · rcases Nat.lt_or_ge j vs.length with q | q
    · have q2 : j < rs.length := by have := h.len; omega
      rw [List.getElem_append_left q, List.getElem_append_left q2]
      exact (h.els j q q2).imp hels (fun z => own_grown z hg (apt_types h.row z (by decide)))
    · obtain rfl : j = vs.length := by simp at h1; omega
      simp only [List.getElem_append_right (Nat.le_refl _), Nat.sub_self, List.getElem_cons_zero]
      have e2 : (rs ++ [r])[vs.length]'h2 = r := by
        have : (rs ++ [r])[vs.length]? = some r := by rw [h.len]; simp
        exact (List.getElem?_eq_some_iff.1 this).2
      rw [e2]
      exact he
  · rcases List.mem_append.1 hp with q | q
    · exact h.one p q
    · obtain rfl : p = _ := by simpa using q
      exact ⟨⟨_, _, _, rfl⟩, _, _, _, rfl⟩
set_option maxHeartbeats 16000000 in
set_option maxRecDepth 20000 in
theorem refAll_any {t : List UInt8} {L : List Mk} {F : Int → List Int} (h : loadR t = .ok (L, F)) {da : Option Addr} {dn dc : Nat} {l : List Ent} {tv : Value} {a : Option Addr} {k c : Nat} {zs X : List Int} {w : World} (hin : MIn w.heap.size w (.slice da dn dc) (marksR L)) (ht : RT w.heap.size w tv l) (hz : Numb w a k c zs) (h57 : ∀ q, (partsR' F q).length ≤ 57 ∧ 0 < (partsR' F q).length) (hzl : zs.length ≤ 2097152) (hX : IsForm L F zs X) (hXl : X.length ≤ 1000000) :
    Calls Tryz.prog 11 #[.agg #[.slice da dn dc], .agg #[tv], .slice a k c] w fun e w' => ∃ v vs, e = .returned v ∧ StepsAt w.heap.size w' w.heap.size v (stepsD (classAt L) (fndT l) X) l vs ∧ Below w.heap.size w w' := by
  obtain ⟨va, vc, rfl⟩ := ht.inn.val
  obtain ⟨ln, hln⟩ : ∃ ln, l.length = ln := ⟨_, rfl⟩
  rw [hln] at ht
  have hbA := (Below.refl w.heap.size w).alloc (Nat.le_refl _) (.cells #[.slice da dn dc] 31)
  have hb0 := hbA.alloc (by simp) (.cells #[.slice va ln vc] 37)
  have hD1 := Blk.new w 31 #[.slice da dn dc]
  have hT1 := Blk.new (w.alloc (.cells #[.slice da dn dc] 31)) 37 #[.slice va ln vc]
  rw [show (w.alloc (.cells #[.slice da dn dc] 31)).heap.size = w.heap.size + 1 by simp] at hT1
  have hD2 : Blk ((w.alloc (.cells #[.slice da dn dc] 31)).alloc (.cells #[.slice va ln vc] 37)) w.heap.size 31 #[.slice da dn dc] := (Below.heap_alloc _ _ _ (by simp)).trans hD1
  have hfo := rform_load h a k c zs ((w.alloc (.cells #[.slice da dn dc] 31)).alloc (.cells #[.slice va ln vc] 37)) (hin.go hb0) (hz.below hb0) h57 hzl
  clear hbA hD1
  obtain ⟨R, hR⟩ : ∃ R, R = stepsD (classAt L) (fndT l) X := ⟨_, rfl⟩
  have HR : Hid (R = stepsD (classAt L) (fndT l) X) := hR
  rw [← hR]
  have hXlen : Hid (X.length ≤ 1000000) := hXl
  have HX : Hid (IsForm L F zs X) := hX
  go_enter Tryz.func11, Tryz.ntmps11
  go_upto_region 1 with fail
  generalize (w.alloc (.cells #[.slice da dn dc] 31)).alloc (.cells #[.slice va ln vc] 37) = W at hb0 hD2 hT1 hfo ⊢
  have hwz := hb0.size
  have HBW : Hid (Below w.heap.size w W) := hb0
  have HC : Hid (∀ x, Below W.heap.size W x → x.cell? ⟨w.heap.size, 0, none⟩ = some (.slice da dn dc) ∧ x.cell? ⟨w.heap.size + 1, 0, none⟩ = some (.slice va ln vc)) := fun x hx => ⟨(hx.cell (p := ⟨w.heap.size, 0, none⟩) hD2.lt).trans (hD2.cell 0), (hx.cell (p := ⟨w.heap.size + 1, 0, none⟩) hT1.lt).trans (hT1.cell 0)⟩
  have HSP : Hid (∀ x, Below w.heap.size w x → ∀ (b off cap : Nat) (zs : List Int), Sl x.heap.size x b off cap zs → zs ≠ [] → zs.length ≤ 1000000 → Calls Tryz.prog 35 #[.agg #[.slice da dn dc], .agg #[.slice va ln vc], .slice (some ⟨b, off, none⟩) zs.length cap] x fun e w' => StepPost w.heap.size l (stepD (classAt L) (fndT l) zs) x e w') := fun x hx b off cap zs h1 h2 h3 => refStep_any h hx.size (hin.go hx) (ht.below hx (Nat.le_refl _)) h1 h2 h3
  have c0 := (HC.out W (Below.refl _ _)).1
  clear hD2 hT1 hb0 hln hin ht hz h57 hX hXl hR
  go_wp2_with fail
  refine hfo.mono ?_
  clear hfo c0
  rintro e w1 ⟨fa, fn, fc, X', rfl, hown, hform, hb1⟩
  obtain rfl : X' = X := FormOf.same hform HX.out
  have HB1 : Hid (Below W.heap.size W w1) := hb1
  have HLF : Hid (LeftIs w1 (.slice fa fn fc) X') := by
    by_cases hx : X' = []
    · subst hx
      rcases hown.form with ⟨e, _⟩ | ⟨g, cap, e, _⟩
      · cases e; exact ⟨_, _, rfl, fun h => absurd rfl h⟩
      · cases e; exact ⟨_, _, rfl, fun h => absurd rfl h⟩
    · exact LeftIs.own hown hx
  have HR0 : Hid ([] ++ stepsD (classAt L) (fndT l) X' = R) := HR.out.symm
  have HRL : Hid (R.length ≤ 1000000) := by
    show _ ≤ _
    rw [HR.out]
    exact Nat.le_trans (stepsD_length X') hXlen.out
  clear hown hform hb1 HX HR
  go_wp2_with fail
  go_loopw [7, 8] (fun rv ov wr => ∃ (ra : Option Addr) (rn rc : Nat) (rest : List Int) (oa : Option Addr) (on oc : Nat) (rs : List (List Int)) (vs : List (Value × Value)), rv = .slice ra rn rc ∧ ov = .slice oa on oc ∧ rn ≤ 1000000 ∧ Hid (rn = rest.length) ∧ Hid (on = rs.length) ∧ Hid (LeftIs wr (.slice ra rn rc) rest) ∧ Hid (StepsAt w.heap.size wr W.heap.size (.slice oa on oc) rs l vs) ∧ Hid (rs ++ stepsD (classAt L) (fndT l) rest = R) ∧ Hid (Below W.heap.size W wr)) (fun rv _ _ => sliceLen rv)
  case atStart => exact ⟨fa, fn, fc, X', none, 0, 0, [], [], rfl, rfl, by
    obtain ⟨a', c', e, _⟩ := HLF.out
    obtain ⟨_, rfl, _⟩ := Value.slice.inj e
    exact hXlen.out, by
    obtain ⟨a', c', e, _⟩ := HLF.out
    exact (Value.slice.inj e).2.1, rfl, HLF.out, StepsAt.nil, HR0.out, HB1.out⟩
  case round =>
    clear HLF HR0 HB1 hXlen
    obtain ⟨ra, rn, rc, rest, oa, on, oc, rs, vs, rfl, rfl, hrn, HRN, HON, HLF, HST, HRR, HBR⟩ := hrel
    have HBw : Hid (Below w.heap.size w wr) := HBW.out.trans (HBR.out.mono HBW.out.size)
    by_cases h0 : rn = 0
    · subst h0
      have hre : rest = [] := List.eq_nil_of_length_eq_zero HRN.out.symm
      have hRR : rs = R := by
        have := HRR.out
        rw [hre, stepsD_nil] at this
        simpa using this
      clear HRR HRN
      go_wp2_with fail
      go_ret
      exact ⟨_, vs, rfl, hRR ▸ HST.out.low hwz, HBw.out⟩
    · have hpos : (0 : Int) < (rn : Int) := by omega
      have hne : rest ≠ [] := fun e => h0 (by rw [HRN.out, e]; rfl)
      obtain ⟨b, off, rfl, hsl⟩ : ∃ b off, ra = some ⟨b, off, none⟩ ∧ Sl wr.heap.size wr b off rc rest := by
        obtain ⟨a', c', e, h⟩ := HLF.out
        obtain ⟨rfl, _, rfl⟩ := Value.slice.inj e
        exact h hne
      have hstp := HSP.out wr HBw.out b off rc rest hsl hne (by rw [← HRN.out]; exact hrn)
      rw [← HRN.out] at hstp
      obtain ⟨c0, c1⟩ := HC.out wr HBR.out
      have hsd := stepsD_cons (cls := classAt L) (fnd := fndT l) hne
      have hsh := stepD_short (cls := classAt L) (fnd := fndT l) hne
      have HR2 : Hid ((rs ++ [(stepD (classAt L) (fndT l) rest).1]) ++ stepsD (classAt L) (fndT l) (stepD (classAt L) (fndT l) rest).2 = R) := by
        show _ = _
        rw [← HRR.out, hsd]
        simp
      have HSH : Hid ((stepD (classAt L) (fndT l) rest).2.length < rn) := by rw [HRN.out]; exact hsh
      clear hsd hsh hsl hne HLF HRR
      generalize stepD (classAt L) (fndT l) rest = G at hstp HR2 HSH
      clear HRN
      go_wp2_with fail
      refine hstp.mono ?_
      clear hstp c0 c1
      rintro e w2 ⟨hb2, rv, ev, lv, rfl, hr2, he2, hl2⟩
      obtain ⟨pa, pc, rfl⟩ := hr2.val
      obtain ⟨ea, ec, rfl⟩ : ∃ a c, ev = .slice a (elOf l G.1).length c := by
        rcases he2 with h | h
        · exact h.val
        · exact h.els.val
      obtain ⟨la, lc, hlv, _⟩ := hl2
      subst hlv
      have HB2 : Hid (Below wr.heap.size wr w2) := hb2
      have HST2 : Hid (StepsAt w.heap.size w2 W.heap.size (.slice oa on oc) rs l vs) := HST.out.go hb2 HBw.out.size
      have HRW2 : Hid (IOwn w2 W.heap.size (.slice pa G.1.length pc) G.1) := ownsRow_mono hr2 HBR.out.size
      have HEL2 : Hid (Els w.heap.size w2 (.slice ea (elOf l G.1).length ec) (elOf l G.1) ∨ EOwn w2 W.heap.size (.slice ea (elOf l G.1).length ec) (elOf l G.1)) := he2.imp id (fun q => ownsRow_mono q HBR.out.size)
      have HLF2 : Hid (LeftIs w2 (.slice la G.2.length lc) G.2) := ⟨_, _, rfl, by assumption⟩
      have HBW2 : Hid (Below W.heap.size W w2) := HBR.out.trans (hb2.mono HBR.out.size)
      have HBw2 : Hid (Below w.heap.size w w2) := HBw.out.trans (hb2.mono HBw.out.size)
      clear hr2 he2 hb2 HST HBR HBw HB2
      generalize hg1 : G.1.length = g1 at *
      generalize hg2 : G.2.length = g2 at *
      generalize hg3 : (elOf l G.1).length = g3 at *
      have hbX := (Below.refl w2.heap.size w2).alloc (Nat.le_refl _) (.cells #[.slice pa g1 pc, .slice ea g3 ec] 47)
      have hX1 := Blk.new w2 47 #[.slice pa g1 pc, .slice ea g3 ec]
      have hbY := hbX.alloc (by simp) (.cells #[.slice pa g1 pc, .slice ea g3 ec] 47)
      have hY1 := Blk.new (w2.alloc (.cells #[.slice pa g1 pc, .slice ea g3 ec] 47)) 47 #[.slice pa g1 pc, .slice ea g3 ec]
      have hzX : (w2.alloc (.cells #[.slice pa g1 pc, .slice ea g3 ec] 47)).heap.size = w2.heap.size + 1 := by simp
      rw [hzX] at hY1
      have x0 := hX1.cell 0
      have x1 := hX1.cell 1
      have y0 := hY1.cell 0
      have y1 := hY1.cell 1
      have HOA : Hid (((w2.alloc (.cells #[.slice pa g1 pc, .slice ea g3 ec] 47)).alloc (.cells #[.slice pa g1 pc, .slice ea g3 ec] 47)).ownsRow W.heap.size 47 2 (.slice oa on oc) on (flatS vs)) := by
        have := own_after HST2.out.row hbY
        show World.ownsRow _ _ _ _ _ _ _
        rw [HON.out] at this ⊢
        exact this
      have HBY : Hid _ := hbY
      have hwY : W.heap.size ≤ ((w2.alloc (.cells #[.slice pa g1 pc, .slice ea g3 ec] 47)).alloc (.cells #[.slice pa g1 pc, .slice ea g3 ec] 47)).heap.size := Nat.le_trans HBW2.out.size HBY.out.size
      have hon : on ≤ 1048576 := by
        have h1 := congrArg List.length HR2.out
        simp only [List.length_append, List.length_cons, List.length_nil] at h1
        have h2 := HRL.out
        have h3 := HON.out
        omega
      have HG2 : Hid (g2 = G.2.length) := hg2.symm
      clear hbX hX1 hbY hY1 hzX hg1 hg2 hg3
      go_wp2_with (at_builtin; refine wpList_append_step rfl _ _ rfl W.heap.size _ on (flatS vs) rfl HOA.out ⟨w2.heap.size + 1, 0, none⟩ _ (.slice pa g1 pc) (.slice ea g3 ec) rfl ⟨y0, y1⟩ ⟨rfl, rfl⟩ hon hwY ?_; intro a7 c7 w7 hrow7 hgr7 hat7; have HR7 : Hid _ := hrow7; have HG7 : Hid _ := hgr7; clear hrow7 hgr7 hat7)
      have hB7 : Below w.heap.size w2 w7 := (HBY.out.mono HBw2.out.size).grown HG7.out (Nat.le_trans hwz hwY) (fun j hj => Nat.le_trans hwz (own_ge HOA.out hj).1)
      have HST7 : Hid (StepsAt w.heap.size w7 W.heap.size (.slice a7 (on + 1) c7) (rs ++ [G.1]) l (vs ++ [(.slice pa g1 pc, .slice ea g3 ec)])) := by
        refine (HST2.out.go HBY.out HBw2.out.size).snoc HG7.out hwz ?_ ?_ ?_
        · exact own_grown (own_after HRW2.out HBY.out) HG7.out (apt_types HOA.out (own_after HRW2.out HBY.out) (by decide))
        · exact HEL2.out.imp (fun q => q.below hB7 (Nat.le_refl _)) (fun q => own_grown (own_after q HBY.out) HG7.out (apt_types HOA.out (own_after q HBY.out) (by decide)))
        · have := HR7.out
          rw [HON.out] at this ⊢
          exact this
      have HLF7 : Hid (LeftIs w7 (.slice la g2 lc) G.2) := by
        obtain ⟨a', c', e, hq⟩ := HLF2.out
        refine ⟨a', c', e, fun hne => ?_⟩
        obtain ⟨b', off', q1, q2⟩ := hq hne
        obtain ⟨cs, f, q3⟩ := q2.ty
        have hlt := q2.lt
        have hsame : w7.heap[b']? = w2.heap[b']? := by
          have hY2 := HBY.out.block b' hlt
          refine (HG7.out.block b' (Nat.lt_of_lt_of_le hlt HBY.out.size) (fun e2 => ?_)).trans hY2
          obtain ⟨_, cs2, f2, q4⟩ := own_ge HOA.out e2.symm
          rw [hY2, q3] at q4
          simp at q4
        exact ⟨b', off', q1, Nat.lt_of_lt_of_le hlt hB7.size, q2.cap, fun j hj => (World.cell?_of_block hsame).trans (q2.cells j hj), cs, f, hsame.trans q3⟩
      have HB7 : Hid (Below W.heap.size W w7) := (HBW2.out.trans (HBY.out.mono HBW2.out.size)).grown HG7.out (Nat.le_trans HBW2.out.size HBY.out.size) (fun j hj => (own_ge HOA.out hj).1)
      clear HR7 HG7 HOA HBY HRW2 HEL2 HST2 HLF2 HBW2 HBw2 x0 x1 y0 y1 hwY hB7
      go_roundw
      case rel => exact ⟨la, g2, lc, G.2, a7, on + 1, c7, rs ++ [G.1], _, rfl, rfl, by have := HSH.out; omega, HG2.out, by show _ = _; rw [List.length_append, HON.out]; rfl, HLF7.out, HST7.out, HR2.out, HB7.out⟩
      case measure => have := HSH.out; simp only [sliceLen]; omega
def RowsUp (W : World) (base : Nat) (v : Value) (rs : List (List Int)) : Prop := ∃ vs : List Value, W.ownsRow base 24 1 v rs.length vs ∧ (∀ i (h : i < rs.length), ∃ u, vs[i]? = some u ∧ IOwn W base u rs[i]) ∧ ∀ (i j : Nat) (u v : Value), i < j → vs[i]? = some u → vs[j]? = some v → Apt u v
theorem RowsUp.nil (W : World) (base : Nat) : RowsUp W base (.slice none 0 0) [] := ⟨[], World.ownsRow_nil _ _ _ _, fun i h => absurd h (by simp), fun i j u v _ h => by simp at h⟩
theorem RowsUp.val {W : World} {base : Nat} {v : Value} {rs : List (List Int)} (h : RowsUp W base v rs) : ∃ a c, v = .slice a rs.length c := by
  obtain ⟨vs, h1, _⟩ := h
  exact row_val h1
theorem RowsUp.at {W : World} {base : Nat} {v : Value} {rs : List (List Int)} (h : RowsUp W base v rs) : RowsAt W base v rs := by
  obtain ⟨vs, h1, h2, _⟩ := h
  exact ⟨vs, h1, h2⟩
theorem RowsUp.snoc {W' : World} {base : Nat} {vs : List Value} {rs : List (List Int)} {v u : Value} {r : List Int} (hvs : ∀ i (h : i < rs.length), ∃ u, vs[i]? = some u ∧ IOwn W' base u rs[i]) (hl : vs.length = rs.length) (hu : IOwn W' base u r) (hap : ∀ (i j : Nat) (u v : Value), i < j → vs[i]? = some u → vs[j]? = some v → Apt u v) (hnew : ∀ (i : Nat) (x : Value), vs[i]? = some x → Apt x u) (hrow : W'.ownsRow base 24 1 v (vs.length + 1) (vs ++ [u])) : RowsUp W' base v (rs ++ [r]) := by
  refine ⟨vs ++ [u], by rw [List.length_append, ← hl]; exact hrow, fun i hi => ?_, fun i j x y hij hx hy => ?_⟩
  · rcases Nat.lt_or_ge i rs.length with h | h
    · obtain ⟨u', q1, q2⟩ := hvs i h
      rw [List.getElem_append_left h]
      exact ⟨u', by rw [List.getElem?_append_left (by omega)]; exact q1, q2⟩
    · have hj' : i = rs.length := by simp at hi; omega
      subst hj'
      simp only [List.getElem_append_right (Nat.le_refl _), Nat.sub_self, List.getElem_cons_zero]
      exact ⟨u, by rw [List.getElem?_append_right (by omega), hl]; simp, hu⟩
  · have hjl : j < (vs ++ [u]).length := (List.getElem?_eq_some_iff.1 hy).1
    rw [List.length_append, List.length_singleton] at hjl
    rw [List.getElem?_append_left (by omega)] at hx
    rcases Nat.lt_or_ge j vs.length with h | h
    · rw [List.getElem?_append_left h] at hy
      exact hap i j x y hij hx hy
    · obtain rfl : j = vs.length := by omega
      rw [List.getElem?_append_right (Nat.le_refl _), Nat.sub_self] at hy
      obtain rfl : u = y := by simpa using hy
      exact hnew i x hx
set_option maxHeartbeats 4000000 in
set_option maxRecDepth 20000 in
theorem steps_up {t : List UInt8} {L : List Mk} {F : Int → List Int} (h : loadR t = .ok (L, F)) {bd T me ml : Nat} {val : List Int → Value} {E : List Ent} {a : Option Addr} {k c : Nat} {zs X : List Int} {w : World} (hd : DataAt w bd L F) (ht : TabAt w T me ml val E) (hn : Numb w a k c zs) (hX : IsForm L F zs X) (hfew : zs.length ≤ 1000000000) :
    Calls Tryz.prog 13 #[.pointer (some ⟨bd, 0, none⟩), .pointer (some ⟨T, 0, none⟩), .slice a k c] w fun e w' => ∃ v, e = .returned v ∧ RowsUp w' w.heap.size v (stepsD (classAt L) (fndT E) X) ∧ Below w.heap.size w w' := by
  have hfo := form_load h hd hn
  have hcls := load_cls h
  generalize hR : stepsD (classAt L) (fndT E) X = R
  have HR : Hid ([] ++ stepsD (classAt L) (fndT E) X = R) := hR
  clear hR
  go_enter Tryz.func13, Tryz.ntmps13
  go_wp2_with fail
  refine hfo.mono ?_
  rintro e w1 hpost
  obtain ⟨gf, kf, cf, X', rfl, hown, hform, hb1⟩ := hpost.formed
  obtain rfl : X' = X := FormOf.same hform.form hX
  have hkf := hown.form1
  subst hkf
  have hXI := formed_in h hn.int hform
  have hXl : X'.length ≤ 57000000000 := by have := form_few hd hform zs.length (Nat.le_refl _); omega
  have hd1 := hd.below hb1
  have ht1 := ht.below hb1
  have hcu := mcut_any hd1 hXI (hown.mono (Nat.zero_le _)) (by omega)
  clear hfo hpost hown
  go_wp2_with fail
  refine hcu.mono ?_
  rintro e w2 ⟨v2, rfl, hpo, hb2⟩
  have hflat : (pcsC (classAt L) X').flatten = X' := byC_flat _ _ (Nat.le_refl _)
  have hrise : Rising (classAt L) 0 (pcsC (classAt L) X') := byC_rising (fun q => (hcls q).1) _ _ _ hX.co (fun y _ => by have := (hcls y).1; omega)
  clear hcu
  obtain ⟨a2, n2, c2, rfl⟩ : ∃ a n c, v2 = .slice a n c := by
    obtain ⟨vs, hrow, _⟩ := hpo.row
    obtain ⟨a, c, e⟩ := row_val hrow
    exact ⟨_, _, _, e⟩
  go_wp2_with fail
  have hbA := (Below.refl w2.heap.size w2).alloc (Nat.le_refl _) (.cells #[.pointer (some ⟨bd, 0, none⟩), .pointer (some ⟨T, 0, none⟩), .slice a2 n2 c2] 90)
  have hnb := Blk.new w2 90 #[.pointer (some ⟨bd, 0, none⟩), .pointer (some ⟨T, 0, none⟩), .slice a2 n2 c2]
  have hsz3 : (w2.alloc (.cells #[.pointer (some ⟨bd, 0, none⟩), .pointer (some ⟨T, 0, none⟩), .slice a2 n2 c2] 90)).heap.size = w2.heap.size + 1 := by simp
  generalize (w2.alloc (.cells #[.pointer (some ⟨bd, 0, none⟩), .pointer (some ⟨T, 0, none⟩), .slice a2 n2 c2] 90)) = W3 at hbA hnb hsz3 ⊢
  have hb13 : Below w1.heap.size w1 W3 := hb2.trans (hbA.mono hb2.size)
  have hb03 : Below w.heap.size w W3 := hb1.trans (hb13.mono hb1.size)
  have hB1 : w1.heap.size ≤ w2.heap.size := hb2.size
  generalize hBe : w2.heap.size = B at hnb hsz3 hB1 ⊢
  cases a2 with
  | none =>
    have hX0 : X' = [] := by
      obtain ⟨vs, hrow, _⟩ := hpo.row
      rcases hrow.2 with ⟨e, h0⟩ | ⟨g', cap', cur, e, _⟩
      · have : pcsC (classAt L) X' = [] := List.eq_nil_of_length_eq_zero h0
        rw [this] at hflat
        exact hflat.symm
      · cases e
    obtain ⟨rfl, rfl⟩ : n2 = 0 ∧ c2 = 0 := by
      obtain ⟨vs, hrow, _⟩ := hpo.row
      rcases hrow.2 with ⟨e, h0⟩ | ⟨g', cap', cur, e, _⟩
      · cases e; exact ⟨rfl, rfl⟩
      · cases e
    have hRR : R = [] := by rw [← HR.out, hX0]; rfl
    have hmo := more_nil B bd T W3 hnb
    clear HR
    go_loopw [8] (fun rv wr => rv = .slice none 0 0 ∧ wr = W3) (fun _ _ => 0)
    case atStart => exact ⟨rfl, rfl⟩
    case round =>
      obtain ⟨rfl, rfl⟩ := hrel
      go_wp2_with fail
      refine hmo.mono ?_
      rintro e w4 ⟨rfl, rfl⟩
      go_wp2_with fail
      go_ret
      rw [hRR]
      exact ⟨_, rfl, RowsUp.nil _ _, hb03⟩
  | some ad =>
    obtain ⟨g, hadd⟩ : ∃ g, ad = ⟨g, 0, none⟩ := by
      obtain ⟨vs, hrow, _⟩ := hpo.row
      rcases hrow.2 with ⟨e, h0⟩ | ⟨g', cap', cur, e, _⟩
      · cases e
      · cases e; exact ⟨_, rfl⟩
    subst hadd
    obtain ⟨hn2, hnc, hbg, ⟨csg, hcg⟩, hpcs⟩ := pcs_of_row hpo
    have hgl : g < w2.heap.size := hcg.lt
    have hpl2 : ∀ p ∈ pcsC (classAt L) X', (∀ q ∈ p, InI q) ∧ p.length ≤ X'.length := fun p hp => ⟨fun q hq => hXI q (by rw [← hflat]; exact List.mem_flatten.2 ⟨p, hp, hq⟩), by
      conv => rhs; rw [← hflat]
      exact (List.sublist_flatten_of_mem hp).length_le⟩
    have hpn : (pcsC (classAt L) X').length ≤ X'.length := byC_len _ _
    have hk3 : MWk w1 bd T B g 0 c2 (pcsC (classAt L) X') W3 := by
      refine ⟨hb13, by rw [← hn2]; exact hnb, by omega, hB1, hbg, ⟨csg, hcg.below hbA hgl⟩, ?_⟩
      exact hpcs.same (hbA.block g hgl) (fun k hk => hbA.block k (Nat.lt_of_lt_of_le hk hb2.size))
    have hok3 : RestOk (classAt L) (pcsC (classAt L) X') := ⟨fun p hp => (hpl2 p hp).1, hrise, by omega, fun p hp => by have := (hpl2 p hp).2; omega⟩
    have hgB : g < B := by omega
    have HR3 : Hid ([] ++ stepsD (classAt L) (fndT E) (pcsC (classAt L) X').flatten = R) := by show _ = _; rw [hflat]; exact HR.out
    have HL3 : Hid (0 + (pcsC (classAt L) X').flatten.length ≤ X'.length) := by show _ ≤ _; rw [hflat]; omega
    clear HR hpo hpcs hpl2 hpn hflat hrise hnb hbA hn2 hnc
    generalize pcsC (classAt L) X' = P at *
    go_loopw [8] (fun rv wr => ∃ (off cap : Nat) (ps dn : List (List Int)), MWk w1 bd T B g off cap ps wr ∧ RestOk (classAt L) ps ∧ Hid (dn ++ stepsD (classAt L) (fndT E) ps.flatten = R) ∧ Aside (RowsUp wr W3.heap.size rv dn) ∧ Hid (dn.length + ps.flatten.length ≤ X'.length) ∧ W3.heap.size ≤ wr.heap.size) (fun rv _ => X'.length - sliceLen rv)
    case atStart => exact ⟨0, c2, P, [], hk3, hok3, HR3, RowsUp.nil _ _, HL3, Nat.le_refl _⟩
    case round =>
      clear hk3 hok3 HR3 HL3
      obtain ⟨off, cap, ps, dn, hk, hok, HR, HRO, HL, hsz⟩ := hrel
      obtain ⟨ra, rc, hrv⟩ := HRO.out.val
      subst hrv
      have hmo := more_any hk (by have := hok.len; omega)
      go_wp2_with fail
      refine hmo.mono ?_
      rintro e W4 ⟨b4, off4, cap4, ps4, rfl, hk4, hmv4, ⟨n4, hn4⟩, hcase⟩
      have hfl : ps.flatten = ps4.flatten := by rw [hn4]; simp
      have hok4 : RestOk (classAt L) ps4 := hok.sub (fun p' hp => ⟨p', by rw [hn4]; exact List.mem_append_right _ hp, 0, by simp⟩) (rising_rep n4 (by rw [← hn4]; exact hok.rise)) (by rw [hn4]; simp)
      have hB3 : B < W3.heap.size := by omega
      have hg3 : g < W3.heap.size := by omega
      obtain ⟨vs, hrow, hvs, hap⟩ := HRO.out
      have hvl : vs.length = dn.length := by have := hrow.1; omega
      rw [hfl] at HR HL
      clear hmo hok hk hn4 hfl HRO
      rcases hcase with ⟨rfl, x, t', r', rfl⟩ | ⟨rfl, rfl⟩
      · have hst := step_any hk4 hd1 ht1 hok4 (fun q => (hcls q).1)
        have hne : ((x :: t') :: r').flatten ≠ [] := by simp
        have hsd := stepsD_cons (cls := classAt L) (fnd := fndT E) hne
        have hlen := stepD_len (cls := classAt L) (fnd := fndT E) ((x :: t') :: r').flatten
        have hpos := stepD_pos (cls := classAt L) (fnd := fndT E) hne
        generalize stepD (classAt L) (fndT E) ((x :: t') :: r').flatten = S at hst hsd hlen hpos
        have HR2 : Hid ((dn ++ [S.1]) ++ stepsD (classAt L) (fndT E) S.2 = R) := by show _ = _; rw [← HR.out, hsd]; simp
        have HL2 : Hid ((dn ++ [S.1]).length + S.2.length ≤ X'.length) := by have h0 := HL.out; show _ ≤ _; rw [← hlen] at h0; rw [List.length_append, List.length_singleton]; omega
        have hdl : dn.length < X'.length := by have := HL2.out; simp at this; omega
        clear HR HL hsd hlen hpos hne
        go_wp2_with fail
        refine hst.mono ?_
        rintro e W5 ⟨v5, qs, rfl, hown5, hq5, hk5, hok5, hmv5⟩
        have hmv := hmv4.trans hmv5
        have hs4 : W3.heap.size ≤ W4.heap.size := Nat.le_trans hsz hmv4.size
        have hs5 : W3.heap.size ≤ W5.heap.size := Nat.le_trans hs4 hmv5.size
        obtain ⟨a5, c5, rfl⟩ := hown5.val
        have hrow5 : W5.ownsRow W3.heap.size 24 1 (.slice ra dn.length rc) vs.length vs := by rw [hvl]; exact own_mv hrow hmv hB3 hg3
        have hbA5 := (Below.refl W5.heap.size W5).alloc (Nat.le_refl _) (.cells #[.slice a5 S.1.length c5] 24)
        have hnb5 := Blk.new W5 24 #[.slice a5 S.1.length c5]
        have hszA : W3.heap.size ≤ (W5.alloc (.cells #[.slice a5 S.1.length c5] 24)).heap.size := Nat.le_trans hs5 hbA5.size
        have HROW : Aside ((W5.alloc (.cells #[.slice a5 S.1.length c5] 24)).ownsRow W3.heap.size 24 1 (.slice ra dn.length rc) vs.length vs) := own_after hrow5 hbA5
        have hvl2 : vs.length ≤ 1000000000000 := by omega
        have hnew : ∀ (i : Nat) (u : Value), vs[i]? = some u → Apt u (.slice a5 S.1.length c5) := fun i u hi => by
          have hil : i < dn.length := by
            rcases Nat.lt_or_ge i dn.length with h | h
            · exact h
            · rw [List.getElem?_eq_none (by omega)] at hi; cases hi
          obtain ⟨u', q1, q2⟩ := hvs i hil
          obtain rfl : u' = u := by rw [hi] at q1; exact (Option.some.inj q1).symm
          exact apt_new (own_mv q2 hmv4 hB3 hg3) hown5 (Nat.le_refl _)
        rw [← hq5] at HR2 HL2
        generalize hs1 : S.1.length = sn at *
        clear hrow hst
        go_wp2_with (first | (at_builtin; refine wpList_append_slice rfl _ _ rfl W3.heap.size _ vs rfl HROW.out a5 sn c5 ⟨W5.heap.size, 0, none⟩ _ rfl (hnb5.cell 0) hvl2 hszA ?_; intro v6 w6 hown6 hgr6 hat6; obtain ⟨a6, c6, rfl⟩ := row_val hown6))
        have hb6 : Below W3.heap.size W5 w6 := ((Below.refl W3.heap.size W5).alloc hs5 _).grown hgr6 hszA (fun j hj => (own_ge HROW.out hj).1)
        have hk6 := hk5.goN hb6 hB3 hg3 hb13.size
        have hs6 : W3.heap.size ≤ w6.heap.size := Nat.le_trans hs5 hb6.size
        have hkeep : ∀ {u : Value} {z : List Int}, IOwn W5 W3.heap.size u z → IOwn w6 W3.heap.size u z := fun hu => own_grown (own_after hu hbA5) hgr6 (apt_types HROW.out (own_after hu hbA5) (by decide))
        have HRO6 : Aside (RowsUp w6 W3.heap.size (.slice a6 (vs.length + 1) c6) (dn ++ [S.1])) := RowsUp.snoc (fun i hi => by
          obtain ⟨u, q1, q2⟩ := hvs i hi
          exact ⟨u, q1, hkeep (own_mv q2 hmv hB3 hg3)⟩) hvl (hkeep (hown5.mono hs4)) hap hnew hown6
        clear hown6 hgr6 hat6 HROW hkeep
        rw [hvl] at HRO6
        go_roundw
        case rel => exact ⟨off4, cap4, qs, dn ++ [S.1], hk6, hok5, HR2, HRO6, HL2, hs6⟩
        case measure => simp only [sliceLen]; omega
      · have hRR : R = dn := by rw [← HR.out]; simp [stepsD_nil]
        have hfin : RowsUp W4 w.heap.size (.slice ra dn.length rc) R := by
          rw [hRR]
          exact ⟨vs, ownsRow_mono (own_mv hrow hmv4 hB3 hg3) hb03.size, fun i hi => by
            obtain ⟨u, q1, q2⟩ := hvs i hi
            exact ⟨u, q1, ownsRow_mono (own_mv q2 hmv4 hB3 hg3) hb03.size⟩, hap⟩
        have hbf : Below w.heap.size w W4 := hb1.trans (hk4.below.mono hb1.size)
        clear HR HL
        go_wp2_with fail
        go_ret
        exact ⟨_, rfl, hfin, hbf⟩
end Go.Proofs.YtkcnjnccdafbfaaGreatDoor
