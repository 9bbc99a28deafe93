/- Contracts and lemmas (nothing is claimed here). -/
import Derived.Test.YtfeppbiodbhpcaaDoorLdX
import Derived.Test.YtfeppbiodbhpcaaDoorRefE
import Derived.Test.YtfeppbiodbhpcaaDoorJ4
import Derived.BigRegion
import Derived.Test.YtfeppbiodbhpcaaDoorTabQ
import Derived.Test.YtfeppbiodbhpcaaDoorRefA
import Derived.Test.YtfeppbiodbhpcaaDoorEl
namespace Go.Proofs.YtfeppbiodbhpcaaDoor
open Go.RowKit Go.Vf Go.Maps

theorem numB_pointS (u : Nat) : numB hexV 16 (pointS u) 0 = some u := by
  rw [pointS_pad, numB_pad, Nat.mod_eq_of_lt (Nat.lt_of_lt_of_le (upHex_lt u _ (Nat.le_refl _)) (Nat.pow_le_pow_right (by omega) (by omega)))]
  simp
theorem pointS_span {n : Nat} (hn : n < 16 ^ 6) : 4 ≤ (pointS n).length ∧ (pointS n).length ≤ 6 := by
  have h := upHex_len n 6 hn (by omega)
  rw [pointS_pad, padHex_len]
  omega
/-- What Number answers of a text. -/
def NumOg (l : List UInt8) (x : Int) (b : Bool) : Prop := (b = true ∧ ∃ n : Nat, x = (n : Int) ∧ n < 16 ^ 6 ∧ l = pointS n) ∨ (b = false ∧ ∀ n : Nat, n < 16 ^ 6 → l ≠ pointS n)
theorem NumOg.bad {l : List UInt8} (h : ¬ (4 ≤ l.length ∧ l.length ≤ 6) ∨ numB hexV 16 l 0 = none) : NumOg l 0 false := by
  refine .inr ⟨rfl, fun n hn e => ?_⟩
  rcases h with h | h
  · rw [e] at h; exact h (pointS_span hn)
  · rw [e, numB_pointS] at h; cases h
theorem NumOg.done {l : List UInt8} {n : Nat} (h : numB hexV 16 l 0 = some n) (hn : n < 16 ^ 6) : NumOg l (n : Int) (decide (pointS n = l)) := by
  by_cases e : pointS n = l
  · exact .inl ⟨by simp [e], n, rfl, hn, e.symm⟩
  · refine .inr ⟨by simp [e], fun m _ hm => ?_⟩
    rw [hm, numB_pointS] at h
    have : m = n := by simpa using h
    subst this
    exact e hm.symm
def NumPog (l : List UInt8) (w : World) (e : Ending) (w' : World) : Prop := ∃ x b, e = .returned (.tuple #[.int .i64 x, .bool b]) ∧ NumOg l x b ∧ w = w'

set_option maxHeartbeats 2000000 in
set_option maxRecDepth 20000 in
theorem number_any2 (s : ByteArray) (hs : s.size ≤ 17179869184) (w : World) : Calls Tryd.prog 56 #[.string s] w fun e w' => NumPog s.data.toList w e w' := by
  have HSL : Hid (s.data.toList.length = s.size) := (Lib.size_eq s).symm
  by_cases h4 : s.size < 4
  · have HB : Hid (NumOg s.data.toList 0 false) := NumOg.bad (.inl (by rw [HSL.out]; omega))
    go_enter Tryd.func56, Tryd.ntmps56
    go_wp2_with fail
    refine bodyPost_ret (results71_runr rfl rfl) rfl ?_
    exact ⟨0, false, rfl, HB.out, rfl⟩
  · by_cases h6 : 6 < s.size
    · have HB : Hid (NumOg s.data.toList 0 false) := NumOg.bad (.inl (by rw [HSL.out]; omega))
      go_enter Tryd.func56, Tryd.ntmps56
      go_wp2_with fail
      refine bodyPost_ret (results71_runr rfl rfl) rfl ?_
      exact ⟨0, false, rfl, HB.out, rfl⟩
    · go_enter Tryd.func56, Tryd.ntmps56
      go_wp2_with fail
      go_loopw [4, 5, 6] (fun x i _ wr => ∃ (k m : Nat), k ≤ s.size ∧ i = .int .i64 k ∧ x = .int .i64 (m : Int) ∧ m < 16777216 ∧ Hid (m < 16 ^ k ∧ numB hexV 16 (s.data.toList.drop k) m = numB hexV 16 s.data.toList 0) ∧ wr = w) (fun _ i _ _ => s.size - (intOf i).toNat)
      case atStart => exact ⟨0, 0, by omega, rfl, rfl, by omega, ⟨by simp, by simp⟩, rfl⟩
      case round =>
        obtain ⟨k, m, hk, rfl, rfl, hm, HM, rfl⟩ := hrel
        by_cases hlt : k < s.size
        · have hstep := numB_at s k hlt m
          have hm6 : m * 16 + 15 < 16777216 := by
            have h1 := HM.out.1
            have h2 : 16 ^ k ≤ 16 ^ 5 := Nat.pow_le_pow_right (by omega) (by omega)
            omega
          have h256 : (s[k]).toNat < 256 := (s[k]).toNat_lt
          have HN : Hid (∀ d, hexV s[k] = some d → numB hexV 16 (s.data.toList.drop (k + 1)) (m * 16 + d) = numB hexV 16 s.data.toList 0) := fun d hd => by
            rw [← HM.out.2, hstep, hd]
          have HF : Hid (hexV s[k] = none → numB hexV 16 s.data.toList 0 = none) := fun hd => by
            rw [← HM.out.2, hstep, hd]
          have HP : Hid (∀ d, d < 16 → m * 16 + d < 16 ^ (k + 1)) := fun d hd => by
            have h1 := HM.out.1
            rw [Nat.pow_succ]; omega
          have hx : hexV s[k] = if 65 ≤ (s[k]).toNat ∧ (s[k]).toNat ≤ 70 then some ((s[k]).toNat - 55) else if 48 ≤ (s[k]).toNat ∧ (s[k]).toNat ≤ 57 then some ((s[k]).toNat - 48) else none := rfl
          have HX : Hid (hexV s[k] = if 65 ≤ (s[k]).toNat ∧ (s[k]).toNat ≤ 70 then some ((s[k]).toNat - 55) else if 48 ≤ (s[k]).toNat ∧ (s[k]).toNat ≤ 57 then some ((s[k]).toNat - 48) else none) := hx
          clear hstep hx HM
          by_cases hA : 65 ≤ (s[k]).toNat ∧ (s[k]).toNat ≤ 70
          · obtain ⟨hA1, hA2⟩ := hA
            go_wp2_with fail
            exact ⟨⟨k + 1, m * 16 + ((s[k]).toNat - 55), by omega, by go_num, congrArg (Value.int .i64) (by omega), by omega, ⟨HP.out _ (by omega), HN.out _ (by rw [HX.out, if_pos ⟨hA1, hA2⟩])⟩, trivial⟩, by simp only [intOf]; omega⟩
          · by_cases hB : 48 ≤ (s[k]).toNat ∧ (s[k]).toNat ≤ 57
            · obtain ⟨hB1, hB2⟩ := hB
              have HXB : Hid (hexV s[k] = some ((s[k]).toNat - 48)) := by show _ = _; rw [HX.out, if_neg hA, if_pos ⟨hB1, hB2⟩]
              have hA' : ¬ 65 ≤ (s[k]).toNat := by omega
              clear hA
              go_wp2_with fail
              exact ⟨⟨k + 1, m * 16 + ((s[k]).toNat - 48), by omega, by go_num, congrArg (Value.int .i64) (by omega), by omega, ⟨HP.out _ (by omega), HN.out _ HXB.out⟩, trivial⟩, by simp only [intOf]; omega⟩
            · have HB : Hid (NumOg s.data.toList 0 false) := NumOg.bad (.inr (HF.out (by rw [HX.out, if_neg hA, if_neg hB])))
              clear HX HN HF HP
              by_cases h1 : (s[k]).toNat < 48
              · clear hA hB
                go_wp2_with fail
                refine bodyPost_ret (results71_runr rfl rfl) rfl ?_
                exact ⟨0, false, rfl, HB.out, rfl⟩
              · by_cases h2 : 70 < (s[k]).toNat
                · clear hA hB
                  go_wp2_with fail
                  refine bodyPost_ret (results71_runr rfl rfl) rfl ?_
                  exact ⟨0, false, rfl, HB.out, rfl⟩
                · have h3 : 57 < (s[k]).toNat ∧ (s[k]).toNat < 65 := by omega
                  obtain ⟨h3a, h3b⟩ := h3
                  clear hA hB
                  by_cases h4' : 64 ≤ (s[k]).toNat
                  · skip
                    go_wp2_with fail
                    refine bodyPost_ret (results71_runr rfl rfl) rfl ?_
                    exact ⟨0, false, rfl, HB.out, rfl⟩
                  · have h5 : (s[k]).toNat ≤ 63 := by omega
                    go_wp2_with fail
                    refine bodyPost_ret (results71_runr rfl rfl) rfl ?_
                    exact ⟨0, false, rfl, HB.out, rfl⟩
        · obtain rfl : k = s.size := by omega
          have HNB : Hid (numB hexV 16 s.data.toList 0 = some m) := by
            show _ = _
            rw [← HM.out.2, drop_end s s.size (Nat.le_refl _)]
            rfl
          have hdm := digits_any m (by omega) wr
          have HD : Hid (NumOg s.data.toList (m : Int) (decide (pointS m = s.data.toList))) := NumOg.done HNB.out (by omega)
          go_wp2_with fail
          refine hdm.mono ?_
          rintro e w1 ⟨rfl, rfl⟩
          go_wp2_with fail
          refine bodyPost_ret (results71_runr rfl rfl) rfl ?_
          have e1 : (pointS m == s.toList) = decide (pointS m = s.data.toList) := by rw [ByteArray.toList_eq]; exact Bool.eq_iff_iff.2 (by simp)
          exact ⟨m, decide (pointS m = s.data.toList), by rw [← e1]; rfl, HD.out, rfl⟩
end Go.Proofs.YtfeppbiodbhpcaaDoor

namespace Go.Proofs.YtfeppbiodbhpcaaDoor
open Go.RowKit Go.Vf Go.Maps

theorem ext_toList (s : ByteArray) (a b : Nat) : (s.extract a b).data.toList = (s.data.toList.drop a).take (b - a) := by
  rw [extract_bsz]
theorem pointS_lt {n : Nat} (h : (pointS n).length = 4) : n < 65536 := by
  rw [pointS_pad, padHex_len] at h
  have h1 := upHex_lt n _ (Nat.le_refl (upHex n).length)
  have h2 := Nat.pow_le_pow_right (n := 16) (by omega) (show (upHex n).length ≤ 4 by omega)
  have h3 : (16 : Nat) ^ 4 = 65536 := by decide
  omega
theorem slice_take (l : List UInt8) (a : Nat) (ha : a + 4 ≤ 17) : (l.drop a).take 4 = ((l.take 17).drop a).take 4 := by
  rw [List.drop_take, List.take_take, Nat.min_eq_left (by omega)]
/-- What stands where in an element's text. -/
theorem elP_slices {l : List UInt8} {e : El} (hl : 17 ≤ l.length) (h : elR (l.take 17) = some e) :
    wtE e ∧ l.take 17 = elP e ∧ (l.drop 2).take 4 = pointS e.pr.toNat ∧ (l.drop 7).take 4 = pointS e.se.toNat ∧ (l.drop 12).take 4 = pointS e.te.toNat ∧ l[1]? = some (if e.va then 42 else 46) := by
  obtain ⟨hw, hp⟩ := elP_elR (by rw [List.length_take]; omega) h
  obtain ⟨u1, e1, g1⟩ := wtB_nat hw.1
  obtain ⟨u2, e2, g2⟩ := wtB_nat hw.2.1
  obtain ⟨u3, e3, g3⟩ := wtB_nat hw.2.2
  have t1 : e.pr.toNat = u1 := by omega
  have t2 : e.se.toNat = u2 := by omega
  have t3 : e.te.toNat = u3 := by omega
  obtain ⟨a1, a2, a3, a4, ha⟩ := four (pointS_len4 g1)
  obtain ⟨b1, b2, b3, b4, hb⟩ := four (pointS_len4 g2)
  obtain ⟨c1, c2, c3, c4, hc⟩ := four (pointS_len4 g3)
  refine ⟨hw, hp, ?_, ?_, ?_, ?_⟩
  · rw [slice_take l 2 (by omega), hp, elP, t1, t2, t3, ha, hb, hc]; rfl
  · rw [slice_take l 7 (by omega), hp, elP, t1, t2, t3, ha, hb, hc]; rfl
  · rw [slice_take l 12 (by omega), hp, elP, t1, t2, t3, ha, hb, hc]; rfl
  · have := congrArg (fun x : List UInt8 => x[1]?) hp
    simp only [List.getElem?_take_of_lt (show 1 < 17 by omega)] at this
    rw [this, elP]
    rfl

def RedPost (l : List UInt8) (w : World) (r : Ending) (w' : World) : Prop :=
  Below w.heap.size w w' ∧ ∃ (e : El) (b : Bool), r = .returned (.tuple #[elA e, .bool b]) ∧ ((b = true ∧ 17 ≤ l.length ∧ elR (l.take 17) = some e) ∨ (b = false ∧ ∀ e', 17 ≤ l.length → elR (l.take 17) ≠ some e'))
theorem red_bad1 {l : List UInt8} (h : (∀ n : Nat, n < 16 ^ 6 → (l.drop 2).take 4 ≠ pointS n) ∨ (∀ n : Nat, n < 16 ^ 6 → (l.drop 7).take 4 ≠ pointS n) ∨ (∀ n : Nat, n < 16 ^ 6 → (l.drop 12).take 4 ≠ pointS n)) : ∀ e', 17 ≤ l.length → elR (l.take 17) ≠ some e' := by
  intro e' hl he
  obtain ⟨hw, _, h1, h2, h3, _⟩ := elP_slices hl he
  have k : (65536 : Nat) ≤ 16 ^ 6 := by decide
  obtain ⟨u1, e1, g1⟩ := wtB_nat hw.1
  obtain ⟨u2, e2, g2⟩ := wtB_nat hw.2.1
  obtain ⟨u3, e3, g3⟩ := wtB_nat hw.2.2
  rcases h with h | h | h
  · exact h _ (by omega) h1
  · exact h _ (by omega) h2
  · exact h _ (by omega) h3
theorem red_good {l : List UInt8} {n1 n2 n3 : Nat} {va : Bool} (hl : 17 ≤ l.length) (h1 : (l.drop 2).take 4 = pointS n1) (h2 : (l.drop 7).take 4 = pointS n2) (h3 : (l.drop 12).take 4 = pointS n3) (hva : va = decide (l[1]? = some 42)) :
    (n1 ≤ 65535 ∧ n2 ≤ 65535 ∧ n3 ≤ 65535) ∧ ((elP ⟨va, n1, n2, n3⟩ = l.take 17 → elR (l.take 17) = some ⟨va, n1, n2, n3⟩) ∧ (elP ⟨va, n1, n2, n3⟩ ≠ l.take 17 → ∀ e', elR (l.take 17) ≠ some e')) := by
  have g1 : n1 < 65536 := pointS_lt (by rw [← h1, List.length_take, List.length_drop]; omega)
  have g2 : n2 < 65536 := pointS_lt (by rw [← h2, List.length_take, List.length_drop]; omega)
  have g3 : n3 < 65536 := pointS_lt (by rw [← h3, List.length_take, List.length_drop]; omega)
  have hw : wtE ⟨va, n1, n2, n3⟩ := by
    refine ⟨?_, ?_, ?_⟩ <;> (unfold wtB; simp; omega)
  refine ⟨⟨by omega, by omega, by omega⟩, fun h => by rw [← h]; exact elR_elP hw, fun h e' he => h ?_⟩
  obtain ⟨hw', hp, k1, k2, k3, k4⟩ := elP_slices hl he
  obtain ⟨u1, e1, _⟩ := wtB_nat hw'.1
  obtain ⟨u2, e2, _⟩ := wtB_nat hw'.2.1
  obtain ⟨u3, e3, _⟩ := wtB_nat hw'.2.2
  have q1 := pointS_inj (h1.symm.trans k1)
  have q2 := pointS_inj (h2.symm.trans k2)
  have q3 := pointS_inj (h3.symm.trans k3)
  have q4 : va = e'.va := by
    rw [hva, k4]
    cases e'.va <;> simp
  rw [hp]
  obtain ⟨v, p, q, r⟩ := e'
  simp only at q1 q2 q3 q4 e1 e2 e3
  subst q4
  congr 1
  rw [e1] at q1
  rw [e2] at q2
  rw [e3] at q3
  simp only [Int.toNat_natCast] at q1 q2 q3
  rw [q1, q2, q3, e1, e2, e3]

theorem red_results {tmps : Array Value} {w : World} {h : Nat} {x y z t b : Value} (hb : Blk w h 49 #[x, y, z, t]) (t2 : tmps[2]?.getD undef = .pointer (some ⟨h, 0, none⟩)) (t3 : tmps[3]?.getD undef = b) :
    (results Tryd.f57 tmps).run Tryd.prog w = .ok (.tuple #[.agg #[x, y, z, t], b]) w := by
  have c0 : w.cell? ⟨h, 0, none⟩ = some x := hb.cell 0
  have c1 : w.cell? ⟨h, 1, none⟩ = some y := hb.cell 1
  have c2 : w.cell? ⟨h, 2, none⟩ = some z := hb.cell 2
  have c3 : w.cell? ⟨h, 3, none⟩ = some t := hb.cell 3
  simp [results, Tryd.results57, go_sem, t2, t3, c0, c1, c2, c3]
/-- Four cells written anew. -/
abbrev put4 (w : World) (h : Nat) (a b c d : Value) : World := (((w.setCell ⟨h, 0, none⟩ a).setCell ⟨h, 1, none⟩ b).setCell ⟨h, 2, none⟩ c).setCell ⟨h, 3, none⟩ d
theorem Blk.put4 {w : World} {h : Nat} {t : TypeId} {a b c d : Value} (hb : Blk w h t #[a, b, c, d]) (a' b' c' d' : Value) : Blk (put4 w h a' b' c' d') h t #[a', b', c', d'] := (((hb.set 0 a').set 1 b').set 2 c').set 3 d'
theorem below_put4 {B : Nat} {a w : World} {h : Nat} (hb : Below B a w) (hB : B ≤ h) (a' b' c' d' : Value) : Below B a (put4 w h a' b' c' d') :=
  (((hb.setCell (p := ⟨h, 0, none⟩) hB _).setCell (p := ⟨h, 1, none⟩) hB _).setCell (p := ⟨h, 2, none⟩) hB _).setCell (p := ⟨h, 3, none⟩) hB _
structure Four (w : World) (h : Nat) (a b c d : Value) : Prop where
  c0 : w.cell? ⟨h, 0, none⟩ = some a
  c1 : w.cell? ⟨h, 1, none⟩ = some b
  c2 : w.cell? ⟨h, 2, none⟩ = some c
  c3 : w.cell? ⟨h, 3, none⟩ = some d
  f0 : w.frozen? ⟨h, 0, none⟩ = false
  f1 : w.frozen? ⟨h, 1, none⟩ = false
  f2 : w.frozen? ⟨h, 2, none⟩ = false
  f3 : w.frozen? ⟨h, 3, none⟩ = false
theorem four_of {w : World} {h : Nat} {t : TypeId} {a b c d : Value} (hb : Blk w h t #[a, b, c, d]) : Four w h a b c d := ⟨hb.cell 0, hb.cell 1, hb.cell 2, hb.cell 3, hb.frozen 0, hb.frozen 1, hb.frozen 2, hb.frozen 3⟩

theorem blk_put4_other {w : World} {h j : Nat} {t : TypeId} {cs : Array Value} (hb : Blk w j t cs) (hne : j ≠ h) (a b c d : Value) : Blk (put4 w h a b c d) j t cs :=
  (Below.heap_setCell _ ⟨h, 3, none⟩ _ j hne).trans ((Below.heap_setCell _ ⟨h, 2, none⟩ _ j hne).trans ((Below.heap_setCell _ ⟨h, 1, none⟩ _ j hne).trans ((Below.heap_setCell _ ⟨h, 0, none⟩ _ j hne).trans hb)))

set_option maxHeartbeats 8000000 in
set_option maxRecDepth 20000 in
theorem refRead_any (s : ByteArray) (hs : s.size ≤ 65536) (w : World) : Calls Tryd.prog 57 #[.string s] w fun r w' => RedPost s.data.toList w r w' := by
  have z : Value := .int .i64 0
  have hb0 := ((Below.refl w.heap.size w).alloc (Nat.le_refl _) (.cells #[.bool false, .int .i64 0, .int .i64 0, .int .i64 0] 49)).alloc (by simp) (.cells #[.bool false, .int .i64 0, .int .i64 0, .int .i64 0] 49)
  have hn1 : Blk ((w.alloc (.cells #[.bool false, .int .i64 0, .int .i64 0, .int .i64 0] 49)).alloc (.cells #[.bool false, .int .i64 0, .int .i64 0, .int .i64 0] 49)) w.heap.size 49 #[.bool false, .int .i64 0, .int .i64 0, .int .i64 0] := (Below.heap_alloc _ _ _ (by simp)).trans (Blk.new w 49 _)
  have hn2 : Blk ((w.alloc (.cells #[.bool false, .int .i64 0, .int .i64 0, .int .i64 0] 49)).alloc (.cells #[.bool false, .int .i64 0, .int .i64 0, .int .i64 0] 49)) (w.heap.size + 1) 49 #[.bool false, .int .i64 0, .int .i64 0, .int .i64 0] := by
    have := Blk.new (w.alloc (.cells #[.bool false, .int .i64 0, .int .i64 0, .int .i64 0] 49)) 49 #[.bool false, .int .i64 0, .int .i64 0, .int .i64 0]
    simpa using this
  have hsl : s.data.toList.length = s.size := (Lib.size_eq s).symm
  have HSL : Hid (s.data.toList.length = s.size) := hsl
  clear hsl
  go_enter Tryd.func57, Tryd.ntmps57
  go_upto_region 2 with fail
  generalize (w.alloc (.cells #[.bool false, .int .i64 0, .int .i64 0, .int .i64 0] 49)).alloc (.cells #[.bool false, .int .i64 0, .int .i64 0, .int .i64 0] 49) = W at hb0 hn1 hn2 ⊢
  obtain ⟨r0, r1, r2, r3, rz0, rz1, rz2, rz3⟩ := four_of hn1
  obtain ⟨m0, m1, m2, m3, mz0, mz1, mz2, mz3⟩ := four_of hn2
  by_cases h17 : s.size < 17
  · go_wp2_with fail
    refine bodyPost_ret (red_results (hn1.put4 _ _ _ _) rfl rfl) rfl ?_
    exact ⟨below_put4 hb0 (Nat.le_refl _) _ _ _ _, ⟨false, 0, 0, 0⟩, false, rfl, .inr ⟨rfl, fun e' h => by rw [HSL.out] at h; omega⟩⟩
  · have hN : ∀ a b, Calls Tryd.prog 56 #[.string (s.extract a b)] W fun e w' => NumPog ((s.data.toList.drop a).take (b - a)) W e w' := fun a b => by
      have := number_any2 (s.extract a b) (by have : (s.extract a b).size ≤ s.size := by simp; omega
                                              omega) W
      rwa [ext_toList] at this
    have hc1 := hN 2 6
    have hc2 := hN 7 11
    have hc3 := hN 12 16
    clear hN
    go_wp2_with fail
    refine hc1.mono ?_
    rintro _ w1 ⟨x1, b1, rfl, hx1, rfl⟩
    go_wp2_with fail
    refine hc2.mono ?_
    rintro _ w1 ⟨x2, b2, rfl, hx2, rfl⟩
    go_wp2_with fail
    refine hc3.mono ?_
    rintro _ w1 ⟨x3, b3, rfl, hx3, rfl⟩
    clear hc1 hc2 hc3
    obtain ⟨va, hva⟩ : ∃ va, (((s[1]'(by omega)).toNat : Int) == 42) = va := ⟨_, rfl⟩
    go_upto_region 8 with fail
    have HVA : Hid (va = decide (s.data.toList[1]? = some 42)) := by
      show _ = _
      have h1 : s.data.toList[1]? = some (s[1]'(by omega)) := by
        rw [List.getElem?_eq_getElem (by rw [HSL.out]; omega)]
        rfl
      rw [← hva, h1]
      by_cases hq : (s[1]'(by omega)) = 42
      · rw [hq]; decide
      · rw [decide_eq_false (show ¬ some (s[1]'(by omega)) = some (42 : UInt8) by simp [hq])]
        have : ((s[1]'(by omega)).toNat : Int) ≠ 42 := fun e => hq (UInt8.toNat_inj.1 (by have h42 : (42 : UInt8).toNat = 42 := rfl; omega))
        simpa using this
    have hr2 : Blk ((((W.setCell ⟨w.heap.size + 1, 0, none⟩ (.bool va)).setCell ⟨w.heap.size + 1, 1, none⟩ (.int .i64 x1)).setCell ⟨w.heap.size + 1, 2, none⟩ (.int .i64 x2)).setCell ⟨w.heap.size + 1, 3, none⟩ (.int .i64 x3)) (w.heap.size + 1) 49 #[.bool va, .int .i64 x1, .int .i64 x2, .int .i64 x3] := hn2.put4 _ _ _ _
    have hr1 : Blk ((((W.setCell ⟨w.heap.size + 1, 0, none⟩ (.bool va)).setCell ⟨w.heap.size + 1, 1, none⟩ (.int .i64 x1)).setCell ⟨w.heap.size + 1, 2, none⟩ (.int .i64 x2)).setCell ⟨w.heap.size + 1, 3, none⟩ (.int .i64 x3)) w.heap.size 49 #[.bool false, .int .i64 0, .int .i64 0, .int .i64 0] := hn1.below (below_put4 (Below.refl (w.heap.size + 1) W) (Nat.le_refl _) _ _ _ _) (by omega)
    have hb2 : Below w.heap.size w ((((W.setCell ⟨w.heap.size + 1, 0, none⟩ (.bool va)).setCell ⟨w.heap.size + 1, 1, none⟩ (.int .i64 x1)).setCell ⟨w.heap.size + 1, 2, none⟩ (.int .i64 x2)).setCell ⟨w.heap.size + 1, 3, none⟩ (.int .i64 x3)) := below_put4 hb0 (by omega) _ _ _ _
    generalize (((W.setCell ⟨w.heap.size + 1, 0, none⟩ (.bool va)).setCell ⟨w.heap.size + 1, 1, none⟩ (.int .i64 x1)).setCell ⟨w.heap.size + 1, 2, none⟩ (.int .i64 x2)).setCell ⟨w.heap.size + 1, 3, none⟩ (.int .i64 x3) = W2 at *
    clear r0 r1 r2 r3 rz0 rz1 rz2 rz3 m0 m1 m2 m3 mz0 mz1 mz2 mz3 hn1 hn2 hva
    obtain ⟨r0, r1, r2, r3, rz0, rz1, rz2, rz3⟩ := four_of hr1
    obtain ⟨m0, m1, m2, m3, mz0, mz1, mz2, mz3⟩ := four_of hr2
    have hlen17 : 17 ≤ s.data.toList.length := by rw [HSL.out]; omega
    have HL17 : Hid (17 ≤ s.data.toList.length) := hlen17
    clear hlen17
    rcases hx1 with ⟨rfl, n1, rfl, g1, e1⟩ | ⟨rfl, e1⟩
    · rcases hx2 with ⟨rfl, n2, rfl, g2, e2⟩ | ⟨rfl, e2⟩
      · rcases hx3 with ⟨rfl, n3, rfl, g3, e3⟩ | ⟨rfl, e3⟩
        · obtain ⟨⟨k1, k2, k3⟩, kt, kf⟩ := red_good HL17.out e1 e2 e3 HVA.out
          have HKT : Hid _ := kt
          have HKF : Hid _ := kf
          clear kt kf e1 e2 e3 g1 g2 g3
          have HS : Hid (∀ x y, (Below w.heap.size w x ∧ Blk x (w.heap.size + 1) 49 #[.bool va, .int .i64 (n1 : Int), .int .i64 (n2 : Int), .int .i64 (n3 : Int)] ∧ ∃ a b c d, Blk x w.heap.size 49 #[a, b, c, d]) → Below x.heap.size x y → (Below w.heap.size w y ∧ Blk y (w.heap.size + 1) 49 #[.bool va, .int .i64 (n1 : Int), .int .i64 (n2 : Int), .int .i64 (n3 : Int)] ∧ ∃ a b c d, Blk y w.heap.size 49 #[a, b, c, d])) := fun x y h hb => by
            obtain ⟨h1, h2, a, b, c, d, h3⟩ := h
            exact ⟨h1.trans (hb.mono h1.size), h2.below hb h2.lt, a, b, c, d, h3.below hb h3.lt⟩
          have HEL : Hid (∀ X, Calls Tryd.prog 62 #[.agg #[.bool va, .int .i64 (n1 : Int), .int .i64 (n2 : Int), .int .i64 (n3 : Int)]] X fun e w' => e = .returned (.string (bsz (elP ⟨va, n1, n2, n3⟩))) ∧ Below X.heap.size X w') := fun X => refElement_any va n1 n2 n3 k1 k2 k3 X
          generalize elP ⟨va, n1, n2, n3⟩ = ep at *
          refine wp_region_held_drew (S := fun x => Below w.heap.size w x ∧ Blk x (w.heap.size + 1) 49 #[.bool va, .int .i64 (n1 : Int), .int .i64 (n2 : Int), .int .i64 (n3 : Int)] ∧ ∃ a b c d, Blk x w.heap.size 49 #[a, b, c, d]) (by kernel_rfl) ⟨hb2.drew, hr2, _, _, _, _, hr1⟩ (fun hHeld => ?_)
          refine wpAnyH_takeD (i := 0) (some 40) (v := ?v0) rfl rfl (by kernel_rfl) (by kernel_rfl) (by kernel_rfl) (fun _ _ _ h => h) (Or.inl ⟨by kernel_rfl, ?hy0⟩) (by assumption) ?rest0
          case hy0 => (intro x hSx; obtain ⟨c0, c1, c2, c3, cz0, cz1, cz2, cz3⟩ := four_of hSx.2.1; (try dsimp only at hSx); go_simp; first | done | with_reducible rfl)
          try simp only [Act.put, List.setIfInBounds_toArray, List.set_cons_zero, List.set_cons_succ]
          refine wpAnyH_takeD (i := 1) (some 41) (v := ?v1) rfl rfl (by kernel_rfl) (by kernel_rfl) (by kernel_rfl) (fun _ _ _ h => h) (Or.inl ⟨by kernel_rfl, ?hy1⟩) (by assumption) ?rest1
          case hy1 => (intro x hSx; (try dsimp only at hSx); go_simp; first | done | with_reducible rfl)
          try simp only [Act.put, List.setIfInBounds_toArray, List.set_cons_zero, List.set_cons_succ]
          refine wpAnyH_takeD (i := 2) (some 42) (v := ?v2) rfl rfl (by kernel_rfl) (by kernel_rfl) (by kernel_rfl) (fun _ _ _ h => h) (Or.inl ⟨by kernel_rfl, ?hy2⟩) (by assumption) ?rest2
          case hy2 => (intro x hSx; (try dsimp only at hSx); go_simp; first | done | with_reducible rfl)
          try simp only [Act.put, List.setIfInBounds_toArray, List.set_cons_zero, List.set_cons_succ]
          refine wpAnyH_takeD (i := 3) (some 43) (v := ?v3) rfl rfl (by kernel_rfl) (by kernel_rfl) (by kernel_rfl) (fun _ _ _ h => h) (Or.inl ⟨by kernel_rfl, ?hy3⟩) (by assumption) ?rest3
          case hy3 => (intro x hSx; (try dsimp only at hSx); go_simp; first | done | with_reducible rfl)
          try simp only [Act.put, List.setIfInBounds_toArray, List.set_cons_zero, List.set_cons_succ]
          refine wpAnyH_takeD (i := 4) (some 44) (v := ?v4) rfl rfl (by kernel_rfl) (by kernel_rfl) (by kernel_rfl) (fun _ _ _ h => h) (Or.inl ⟨by kernel_rfl, ?hy4⟩) (by assumption) ?rest4
          case hy4 => (intro x hSx; (try dsimp only at hSx); go_simp; first | done | with_reducible rfl)
          try simp only [Act.put, List.setIfInBounds_toArray, List.set_cons_zero, List.set_cons_succ]
          refine wpAnyH_takeD (i := 5) (some 45) (v := ?v5) rfl rfl (by kernel_rfl) (by kernel_rfl) (by kernel_rfl) (fun _ _ _ h => h) (Or.inl ⟨by kernel_rfl, ?hy5⟩) (by assumption) ?rest5
          case hy5 => (intro x hSx; (try dsimp only at hSx); go_simp; first | done | with_reducible rfl)
          try simp only [Act.put, List.setIfInBounds_toArray, List.set_cons_zero, List.set_cons_succ]
          refine wpAnyH_takeD (i := 6) (some 46) (v := ?v6) rfl rfl (by kernel_rfl) (by kernel_rfl) (by kernel_rfl) (fun _ _ _ h => h) (Or.inl ⟨by kernel_rfl, ?hy6⟩) (by assumption) ?rest6
          case hy6 => (intro x hSx; (try dsimp only at hSx); go_simp; first | done | with_reducible rfl)
          try simp only [Act.put, List.setIfInBounds_toArray, List.set_cons_zero, List.set_cons_succ]
          refine wpAnyH_takeD (i := 7) (some 47) (v := ?v7) rfl rfl (by kernel_rfl) (by kernel_rfl) (by kernel_rfl) (fun _ _ _ h => h) (Or.inl ⟨by kernel_rfl, ?hy7⟩) (by assumption) ?rest7
          case hy7 => (intro x hSx; (try dsimp only at hSx); go_simp; first | done | with_reducible rfl)
          try simp only [Act.put, List.setIfInBounds_toArray, List.set_cons_zero, List.set_cons_succ]
          refine wpAnyH_takeD (i := 8) (some 48) (v := ?v8) rfl rfl (by kernel_rfl) (by kernel_rfl) (by kernel_rfl) (fun _ _ _ h => h) (Or.inl ⟨by kernel_rfl, ?hy8⟩) (by assumption) ?rest8
          case hy8 => (intro x hSx; (try dsimp only at hSx); go_simp; first | done | with_reducible rfl)
          try simp only [Act.put, List.setIfInBounds_toArray, List.set_cons_zero, List.set_cons_succ]
          refine wpAnyH_takeD (i := 9) (some 49) (v := ?v9) rfl rfl (by kernel_rfl) (by kernel_rfl) (by kernel_rfl) (fun _ _ _ h => h) (Or.inl ⟨by kernel_rfl, ?hy9⟩) (by assumption) ?rest9
          case hy9 => (intro x hSx; obtain ⟨c0, c1, c2, c3, cz0, cz1, cz2, cz3⟩ := four_of hSx.2.1; (try dsimp only at hSx); go_simp; first | done | with_reducible rfl)
          try simp only [Act.put, List.setIfInBounds_toArray, List.set_cons_zero, List.set_cons_succ]
          refine wpAnyH_takeD (i := 11) (some 51) (v := ?v11) rfl rfl (by kernel_rfl) (by kernel_rfl) (by kernel_rfl) (fun _ _ _ h => h) (Or.inl ⟨by kernel_rfl, ?hy11⟩) (by assumption) ?rest11
          case hy11 => (intro x hSx; (try dsimp only at hSx); go_simp; first | done | with_reducible rfl)
          try simp only [Act.put, List.setIfInBounds_toArray, List.set_cons_zero, List.set_cons_succ]
          refine wpAnyH_takeD (i := 12) (some 52) (v := ?v12) rfl rfl (by kernel_rfl) (by kernel_rfl) (by kernel_rfl) (fun _ _ _ h => h) (Or.inl ⟨by kernel_rfl, ?hy12⟩) (by assumption) ?rest12
          case hy12 => (intro x hSx; (try dsimp only at hSx); go_simp; first | done | with_reducible rfl)
          try simp only [Act.put, List.setIfInBounds_toArray, List.set_cons_zero, List.set_cons_succ]
          refine wpAnyH_ready (rs := [10]) (by kernel_rfl) (by simp) ?_
          refine AllReadyH.cons rfl (fun K hK => ?_) AllReadyH.nil
          go_simp
          go_wp2_with (go_at_call 62; refine (HEL.out _).mono ?_; rintro e y ⟨rfl, hby⟩)
          refine hK.out _ _ (HS.out _ _ hHeld hby) (fun hHeld2 => ?_)
          clear hK K
          try simp only [Act.put, List.setIfInBounds_toArray, List.set_cons_zero, List.set_cons_succ]
          obtain ⟨B, hB⟩ : ∃ B, (ep == (s.extract 0 17).toList) = B := ⟨_, rfl⟩
          refine wpAnyH_takeD (i := 13) (some 53) (v := ?v13) rfl rfl (by kernel_rfl) (by kernel_rfl) (by kernel_rfl) (fun _ _ _ h => h) (Or.inl ⟨by kernel_rfl, ?hy13⟩) (by assumption) ?rest13
          case hy13 => (intro x hSx; (try dsimp only at hSx); go_simp; first | done | with_reducible rfl)
          try simp only [Act.put, List.setIfInBounds_toArray, List.set_cons_zero, List.set_cons_succ]
          refine wpAnyH_takeD (i := 14) (some 54) (v := ?v14) rfl rfl (by kernel_rfl) (by kernel_rfl) (by kernel_rfl) (fun _ _ _ h => h) (Or.inl ⟨by kernel_rfl, ?hy14⟩) (by assumption) ?rest14
          case hy14 => (intro x hSx; (try dsimp only at hSx); go_simp; first | done | with_reducible rfl)
          try simp only [Act.put, List.setIfInBounds_toArray, List.set_cons_zero, List.set_cons_succ]
          refine wpAnyH_ready (rs := [15]) (by kernel_rfl) (by simp) ?_
          refine AllReadyH.cons rfl (fun K hK => ?_) AllReadyH.nil
          obtain ⟨h1, h2, d0, d1, d2, d3, h3⟩ := hHeld2
          obtain ⟨q0, q1, q2, q3, qz0, qz1, qz2, qz3⟩ := four_of h3
          go_simp
          refine hK.out _ _ ⟨below_put4 h1 (Nat.le_refl _) _ _ _ _, blk_put4_other h2 (by omega) _ _ _ _, _, _, _, _, h3.put4 _ _ _ _⟩ (fun hHeld3 => ?_)
          clear hK K
          try simp only [Act.put, List.setIfInBounds_toArray, List.set_cons_zero, List.set_cons_succ]
          refine wpAnyH_takeD (i := 16) (some 3) (v := ?v16) rfl rfl (by kernel_rfl) (by kernel_rfl) (by kernel_rfl) (fun _ _ _ h => h) (Or.inl ⟨by kernel_rfl, ?hy16⟩) (by assumption) ?rest16
          case hy16 => (intro x hSx; (try dsimp only at hSx); go_simp; first | done | with_reducible rfl)
          try simp only [Act.put, List.setIfInBounds_toArray, List.set_cons_zero, List.set_cons_succ]
          refine wpAnyH_done (by kernel_rfl) ?_ _
          have hfin := h3.put4 (.bool va) (.int .i64 (n1 : Int)) (.int .i64 (n2 : Int)) (.int .i64 (n3 : Int))
          have hbf := below_put4 (h := w.heap.size) h1 (Nat.le_refl _) (.bool va) (.int .i64 (n1 : Int)) (.int .i64 (n2 : Int)) (.int .i64 (n3 : Int))
          have hB2 : B = decide (ep = s.data.toList.take 17) := by
            rw [← hB, ByteArray.toList_eq, ext_toList, List.drop_zero, Nat.sub_zero]
            by_cases he : ep = s.data.toList.take 17
            · rw [he]; simp
            · rw [decide_eq_false he, beq_eq_false_iff_ne]; exact he
          have HB2 : Hid _ := hB2
          unfold put4 at hfin hbf
          clear hB hB2
          generalize (((y.setCell ⟨w.heap.size, 0, none⟩ (.bool va)).setCell ⟨w.heap.size, 1, none⟩ (.int .i64 (n1 : Int))).setCell ⟨w.heap.size, 2, none⟩ (.int .i64 (n2 : Int))).setCell ⟨w.heap.size, 3, none⟩ (.int .i64 (n3 : Int)) = y2 at *
          go_wp2_with fail
          refine bodyPost_ret (red_results hfin rfl rfl) rfl ?_
          refine ⟨hbf, ⟨va, n1, n2, n3⟩, B, rfl, ?_⟩
          by_cases he : ep = s.data.toList.take 17
          · exact .inl ⟨by rw [HB2.out]; exact decide_eq_true he, HL17.out, HKT.out he⟩
          · exact .inr ⟨by rw [HB2.out]; exact decide_eq_false he, fun e' _ => HKF.out he e'⟩
        · have HB : Hid _ := red_bad1 (l := s.data.toList) (.inr (.inr e3))
          clear e3
          go_region
          go_wp2_with fail
          refine bodyPost_ret (red_results ((show Blk W2.drew w.heap.size 49 _ from hr1).put4 _ _ _ _) rfl rfl) rfl ?_
          exact ⟨below_put4 hb2.drew (Nat.le_refl _) _ _ _ _, ⟨va, _, _, _⟩, false, rfl, .inr ⟨rfl, HB.out⟩⟩
      · have HB : Hid _ := red_bad1 (l := s.data.toList) (.inr (.inl e2))
        clear e2
        go_region
        go_wp2_with fail
        refine bodyPost_ret (red_results ((show Blk W2.drew w.heap.size 49 _ from hr1).put4 _ _ _ _) rfl rfl) rfl ?_
        exact ⟨below_put4 hb2.drew (Nat.le_refl _) _ _ _ _, ⟨va, _, _, _⟩, false, rfl, .inr ⟨rfl, HB.out⟩⟩
    · have HB : Hid _ := red_bad1 (l := s.data.toList) (.inl e1)
      clear e1
      go_region
      go_wp2_with fail
      refine bodyPost_ret (red_results ((show Blk W2.drew w.heap.size 49 _ from hr1).put4 _ _ _ _) rfl rfl) rfl ?_
      exact ⟨below_put4 hb2.drew (Nat.le_refl _) _ _ _ _, ⟨va, _, _, _⟩, false, rfl, .inr ⟨rfl, HB.out⟩⟩
end Go.Proofs.YtfeppbiodbhpcaaDoor

namespace Go.Proofs.YtfeppbiodbhpcaaDoor
open Go.Vf

theorem elP_no59 {e : El} : ∀ b ∈ elP e, b ≠ 59 := by
  intro b hb
  unfold elP at hb
  simp only [List.mem_cons, List.mem_append, List.not_mem_nil, or_false] at hb
  rcases hb with rfl | rfl | hb | rfl | hb | rfl | hb | rfl
  · decide
  · split <;> decide
  · exact (pointS_mem hb).2.2.1
  · decide
  · exact (pointS_mem hb).2.2.1
  · decide
  · exact (pointS_mem hb).2.2.1
  · decide
theorem entR_parts {l : List UInt8} {x : Ent} (h : entR l = some x) : Go.Vf.rowR (cut1 59 l).1 = some x.1 ∧ elsR (cut1 59 l).2 = some x.2 := by
  unfold entR at h
  split at h
  · cases h
  · rename_i p hp
    split at h
    · cases h
    · rename_i e he
      cases h
      exact ⟨hp, he⟩
theorem entR_two {l a b : List UInt8} (h : cutL 59 l = [a, b]) : cut1 59 l = (a, b) := by
  have hj := cut_join 59 l
  rw [h] at hj
  simp only [List.flatMap_cons, List.flatMap_nil, List.append_nil] at hj
  have hn := cutL_no 59 l a (by rw [h]; simp)
  rw [hj]
  exact cut1_split 59 a b hn
theorem entR_not {l : List UInt8} (h : (cutL 59 l).length ≠ 2) : entR l = none := by
  cases hx : entR l with
  | none => rfl
  | some x =>
    exfalso
    have e := entP_entR hx
    have h1 : cutL 59 l = [rowP x.1, elsP x.2] := by
      rw [e, entP, cutL_split 59 _ _ (fun b hb => (rowP_mem b hb).2), cutL_plain]
      intro b hb
      obtain ⟨y, _, hy⟩ := List.mem_flatMap.1 hb
      exact elP_no59 b hy
    rw [h1] at h
    exact h rfl
theorem entR_mk {l a b : List UInt8} (h : cutL 59 l = [a, b]) {p : List Int} {e : List El} (hp : Go.Vf.rowR a = some p) (he : elsR b = some e) : entR l = some (p, e) := by
  unfold entR
  rw [entR_two h]
  simp only [hp, he]
theorem entR_norow {l a b : List UInt8} (h : cutL 59 l = [a, b]) (hp : Go.Vf.rowR a = none) : entR l = none := by
  unfold entR
  rw [entR_two h]
  simp only [hp]
theorem entR_noels {l a b : List UInt8} (h : cutL 59 l = [a, b]) (hp : elsR b = none) : entR l = none := by
  cases hx : entR l with
  | none => rfl
  | some x =>
    have := (entR_parts hx).2
    rw [entR_two h, hp] at this
    cases this

theorem rowR_parts {a : List UInt8} {p : List Int} (h : Go.Vf.rowR a = some p) : cutL 32 a = (p.map Int.toNat).map pointS ∧ (cutL 32 a).length = p.length ∧ rowB p = true := by
  unfold Go.Vf.rowR at h
  split at h
  · cases h
  · rename_i l hl
    split at h
    · rename_i hb
      cases h
      obtain ⟨h1, h2⟩ := ptsR_line _ _ hl
      exact ⟨h1, h2, hb⟩
    · cases h
theorem rowB_lenE {p : List Int} (h : rowB p = true) : 1 ≤ p.length ∧ p.length ≤ 8 := by
  unfold rowB at h
  simp only [Bool.and_eq_true, decide_eq_true_eq] at h
  exact ⟨h.1.1, h.1.2⟩
theorem rowR_long {a : List UInt8} (h : 8 < (cutL 32 a).length) : Go.Vf.rowR a = none := by
  cases hx : Go.Vf.rowR a with
  | none => rfl
  | some p =>
    obtain ⟨_, h2, h3⟩ := rowR_parts hx
    have := rowB_lenE h3
    omega
/-- A piece that is no point's text. -/
theorem rowR_bad {a : List UInt8} {i : Nat} (hi : i < (cutL 32 a).length) (h : ∀ n : Nat, isPtB (n : Int) = true → (cutL 32 a)[i] ≠ pointS n) : Go.Vf.rowR a = none := by
  cases hx : Go.Vf.rowR a with
  | none => rfl
  | some p =>
    exfalso
    obtain ⟨h1, h2, h3⟩ := rowR_parts hx
    have hip : i < p.length := by omega
    have hb : isPtB p[i] = true := by
      unfold rowB at h3
      simp only [Bool.and_eq_true] at h3
      exact List.all_eq_true.1 h3.2 _ (List.getElem_mem hip)
    obtain ⟨u, e, _⟩ := isPtB_nat hb
    refine h u (by rw [← e]; exact hb) ?_
    have h4 : (cutL 32 a)[i]? = some (pointS u) := by
      rw [h1]
      simp [hip, e]
    rw [List.getElem?_eq_getElem hi] at h4
    exact Option.some.inj h4
theorem rowR_good {a : List UInt8} {us : List Nat} (h : cutL 32 a = us.map pointS) (h8 : us.length ≤ 8) (hb : ∀ u ∈ us, isPtB (u : Int) = true) : Go.Vf.rowR a = some (us.map fun q : Nat => (q : Int)) := by
  have hle : ∀ q ∈ us, q ≤ 1114111 := fun q hq => by
    obtain ⟨u, e, hu⟩ := isPtB_nat (hb q hq)
    omega
  have h1 : 1 ≤ us.length := by
    have := List.length_pos_iff.2 (cutL_ne 32 a)
    rw [h, List.length_map] at this
    omega
  unfold Go.Vf.rowR
  rw [h, ptsR_map us hle]
  have hr : rowB (us.map fun q : Nat => (q : Int)) = true := by
    unfold rowB
    simp only [Bool.and_eq_true, decide_eq_true_eq, List.length_map]
    refine ⟨⟨h1, h8⟩, List.all_eq_true.2 fun x hx => ?_⟩
    obtain ⟨u, hu, rfl⟩ := List.mem_map.1 hx
    exact hb u hu
  simp only [hr, if_true]

theorem elsP_append (a b : List El) : elsP (a ++ b) = elsP a ++ elsP b := by simp [elsP]
theorem elsR_lenF {b : List UInt8} {l : List El} (h : elsR b = some l) : 1 ≤ l.length ∧ l.length ≤ 16 := by
  obtain ⟨h1, h2⟩ := elsP_elsR h
  have h3 := elsP_len l h2
  rw [← h1] at h3
  unfold elsR at h
  split at h
  · cases h
  · rename_i hn
    simp only [not_or, Decidable.not_not] at hn
    obtain ⟨n1, n2, n3⟩ := hn
    have : b.length ≠ 0 := fun e => n1 (List.eq_nil_of_length_eq_zero e)
    omega
/-- So far elements, then none. -/
theorem elsR_bad {b r : List UInt8} {acc : List El} (hb : b = elsP acc ++ r) (hw : ∀ e ∈ acc, wtE e) (hr : r ≠ []) (h : ∀ e', 17 ≤ r.length → elR (r.take 17) ≠ some e') : elsR b = none := by
  cases hx : elsR b with
  | none => rfl
  | some l =>
    exfalso
    obtain ⟨h1, h2⟩ := elsP_elsR hx
    have hla := elsP_len acc hw
    have hll := elsP_len l h2
    have hlt : acc.length < l.length := by
      have : 0 < r.length := List.length_pos_iff.2 hr
      have e : (elsP acc ++ r).length = (elsP l).length := by rw [← hb, h1]
      rw [List.length_append] at e
      omega
    have hl2 : l = l.take acc.length ++ l.drop acc.length := (List.take_append_drop _ _).symm
    have h3 : elsP acc ++ r = elsP (l.take acc.length) ++ elsP (l.drop acc.length) := by rw [← elsP_append, ← hl2, ← hb, h1]
    have hlt2 : (elsP (l.take acc.length)).length = (elsP acc).length := by
      rw [elsP_len _ (fun e he => h2 e (List.mem_of_mem_take he)), hla, List.length_take]
      omega
    have h4 := (List.append_inj h3 hlt2.symm).2
    rw [List.drop_eq_getElem_cons hlt] at h4
    have hwt := h2 _ (List.getElem_mem hlt)
    have h5 : r = elP l[acc.length] ++ elsP (l.drop (acc.length + 1)) := h4
    have h6 := elP_len hwt
    refine h l[acc.length] (by rw [h5, List.length_append]; omega) ?_
    rw [h5, List.take_append_of_le_length (by omega), List.take_of_length_le (by omega)]
    exact elR_elP hwt
theorem elsR_end {b : List UInt8} {acc : List El} (hb : b = elsP acc) (hw : ∀ e ∈ acc, wtE e) : (1 ≤ acc.length ∧ acc.length ≤ 16 → elsR b = some acc) ∧ (¬ (1 ≤ acc.length ∧ acc.length ≤ 16) → elsR b = none) := by
  refine ⟨fun h => by rw [hb]; exact elsR_elsP h.1 h.2 hw, fun h => ?_⟩
  cases hx : elsR b with
  | none => rfl
  | some l =>
    exfalso
    have h1 := elsR_lenF hx
    obtain ⟨h2, h3⟩ := elsP_elsR hx
    have h4 := elsP_len acc hw
    have h5 := elsP_len l h3
    rw [← h2, hb] at h5
    omega
theorem elsR_step {b r : List UInt8} {acc : List El} {e : El} (hb : b = elsP acc ++ r) (hl : 17 ≤ r.length) (h : elR (r.take 17) = some e) : b = elsP (acc ++ [e]) ++ r.drop 17 ∧ wtE e := by
  obtain ⟨hw, hp⟩ := elP_elR (by rw [List.length_take]; omega) h
  refine ⟨?_, hw⟩
  rw [hb, elsP_append]
  have : elsP [e] = r.take 17 := by rw [hp]; simp [elsP]
  rw [this, List.append_assoc, List.take_append_drop]
end Go.Proofs.YtfeppbiodbhpcaaDoor

namespace Go.Proofs.YtfeppbiodbhpcaaDoor
open Go.RowKit Go.Vf Go.Maps

def LinePostE (l : List UInt8) (w : World) (e : Ending) (w' : World) : Prop := Below w.heap.size w w' ∧ ∃ (pa : Option Addr) (pn pc : Nat) (ea : Option Addr) (en ec : Nat) (ok : Bool), e = .returned (.tuple #[.agg #[.slice pa pn pc, .slice ea en ec], .bool ok]) ∧ ((ok = true ∧ ∃ x, entR l = some x ∧ IOwn w' w.heap.size (.slice pa pn pc) x.1 ∧ EOwn w' w.heap.size (.slice ea en ec) x.2) ∨ (ok = false ∧ entR l = none))
theorem line6_results {tmps : Array Value} {w : World} {h : Nat} {x y b : Value} (hb : Blk w h 37 #[x, y]) (t2 : tmps[2]?.getD undef = .pointer (some ⟨h, 0, none⟩)) (t3 : tmps[3]?.getD undef = b) :
    (results Tryd.f29 tmps).run Tryd.prog w = .ok (.tuple #[.agg #[x, y], b]) w := by
  have c0 : w.cell? ⟨h, 0, none⟩ = some x := hb.cell 0
  have c1 : w.cell? ⟨h, 1, none⟩ = some y := hb.cell 1
  simp [results, Tryd.results29, go_sem, t2, t3, c0, c1]
abbrev put2 (w : World) (h : Nat) (a b : Value) : World := (w.setCell ⟨h, 0, none⟩ a).setCell ⟨h, 1, none⟩ b
theorem Blk.put2 {w : World} {h : Nat} {t : TypeId} {a b : Value} (hb : Blk w h t #[a, b]) (a' b' : Value) : Blk (put2 w h a' b') h t #[a', b'] := (hb.set 0 a').set 1 b'
theorem below_put2 {B : Nat} {a w : World} {h : Nat} (hb : Below B a w) (hB : B ≤ h) (a' b' : Value) : Below B a (put2 w h a' b') := (hb.setCell (p := ⟨h, 0, none⟩) hB _).setCell (p := ⟨h, 1, none⟩) hB _
structure TwoC (w : World) (h : Nat) (a b : Value) : Prop where
  c0 : w.cell? ⟨h, 0, none⟩ = some a
  c1 : w.cell? ⟨h, 1, none⟩ = some b
  f0 : w.frozen? ⟨h, 0, none⟩ = false
  f1 : w.frozen? ⟨h, 1, none⟩ = false
theorem two_of {w : World} {h : Nat} {t : TypeId} {a b : Value} (hb : Blk w h t #[a, b]) : TwoC w h a b := ⟨hb.cell 0, hb.cell 1, hb.frozen 0, hb.frozen 1⟩
theorem list_twoF {α : Type} {l : List α} (h : l.length = 2) : ∃ a b, l = [a, b] := by
  match l, h with
  | [a, b], _ => exact ⟨a, b, rfl⟩
/-- A row stays where its block does. -/
theorem own_block {w w' : World} {base : Nat} {e : TypeId} {size : Nat} {v : Value} {k : Nat} {xs : List Value} (h : w.ownsRow base e size v k xs) (hk : ∀ j, v.ownBlock = some j → w'.heap[j]? = w.heap[j]?) : w'.ownsRow base e size v k xs := by
  refine ⟨h.1, ?_⟩
  rcases h.2 with hn | ⟨g, cap, cur, rfl, hb, hgg, rest⟩
  · exact .inl hn
  · exact .inr ⟨g, cap, cur, rfl, hb, (hk g (by simp [Value.ownBlock])).trans hgg, rest⟩

set_option maxHeartbeats 8000000 in
set_option maxRecDepth 20000 in
theorem refLineE_any (s : ByteArray) (hs : s.size ≤ 65536) (w : World) : Calls Tryd.prog 29 #[.string s] w fun e w' => LinePostE s.data.toList w e w' := by
  have hb0 := ((Below.refl w.heap.size w).alloc (Nat.le_refl _) (.cells #[.slice none 0 0, .slice none 0 0] 37)).alloc (by simp) (.cells #[.slice none 0 0, .slice none 0 0] 37)
  have hn1 : Blk ((w.alloc (.cells #[.slice none 0 0, .slice none 0 0] 37)).alloc (.cells #[.slice none 0 0, .slice none 0 0] 37)) w.heap.size 37 #[.slice none 0 0, .slice none 0 0] := (Below.heap_alloc _ _ _ (by simp)).trans (Blk.new w 37 _)
  have hn2 : Blk ((w.alloc (.cells #[.slice none 0 0, .slice none 0 0] 37)).alloc (.cells #[.slice none 0 0, .slice none 0 0] 37)) (w.heap.size + 1) 37 #[.slice none 0 0, .slice none 0 0] := by
    have := Blk.new (w.alloc (.cells #[.slice none 0 0, .slice none 0 0] 37)) 37 #[.slice none 0 0, .slice none 0 0]
    simpa using this
  have hsz : ((w.alloc (.cells #[.slice none 0 0, .slice none 0 0] 37)).alloc (.cells #[.slice none 0 0, .slice none 0 0] 37)).heap.size = w.heap.size + 2 := by simp
  go_enter Tryd.func29, Tryd.ntmps29
  go_upto_region 2 with fail
  generalize (w.alloc (.cells #[.slice none 0 0, .slice none 0 0] 37)).alloc (.cells #[.slice none 0 0, .slice none 0 0] 37) = W at hb0 hn1 hn2 hsz ⊢
  have HSZ : Hid (W.heap.size = w.heap.size + 2) := hsz
  clear hsz
  have hcut := refCut_any s 59 hs W
  go_wp2_with fail
  refine hcut.mono ?_
  rintro e w1 ⟨a1, k1, c1, rfl, hown1, hb1⟩
  have hr1 := hn1.below hb1 hn1.lt
  have hm1 := hn2.below hb1 hn2.lt
  have hbw1 : Below w.heap.size w w1 := hb0.trans (hb1.mono hb0.size)
  have hW1 : w.heap.size + 2 ≤ w1.heap.size := by have := hb1.size; rw [HSZ.out] at this; exact this
  have hk1 : k1 = (cutL 59 s.data.toList).length := by obtain ⟨_, _, e⟩ := row_val hown1; cases e; rfl
  have HSS : Hid (∀ x ∈ cutL 59 s.data.toList, x.length ≤ 65536) := fun x hx => Nat.le_trans (cutL_sizes 59 _ x hx) (by rw [← Lib.size_eq]; exact hs)
  by_cases h3 : k1 = 2
  · rw [h3] at hk1
    obtain ⟨ta, tb, hcl⟩ : ∃ ta tb, cutL 59 s.data.toList = [ta, tb] := list_twoF hk1.symm
    have HCL : Hid (cutL 59 s.data.toList = [ta, tb]) := hcl
    have hza := HSS.out ta (by rw [hcl]; simp)
    have hzb := HSS.out tb (by rw [hcl]; simp)
    rw [hcl] at hown1
    obtain ⟨g, cp, e1, hg, hgW, hcells⟩ := hown1.cells (by simp)
    rw [HSZ.out] at hgW
    cases e1
    have q0 := hcells 0 (by simp)
    have q1 := hcells 1 (by simp)
    simp only [List.getElem_cons_zero, List.getElem_cons_succ] at q0 q1
    clear hcells hk1 hcl hown1 HSS hn1 hn2 hcut h3
    have hcut2 := refCut_any (bsz ta) 32 (by rw [bsz_size]; exact hza) w1
    obtain ⟨r0, r1, rz0, rz1⟩ := two_of hr1
    obtain ⟨m0, m1, mz0, mz1⟩ := two_of hm1
    clear r0 r1 rz0 rz1 m0 m1 mz0 mz1
    go_wp2_with fail
    refine hcut2.mono ?_
    rintro e w2 ⟨a2, k2, c2, rfl, hown2, hb2⟩
    have hown2' : SOwn w2 w1.heap.size (.slice a2 k2 c2) (cutL 32 ta) := hown2
    have hcz : ∀ x ∈ cutL 32 ta, x.length ≤ 65536 := fun x hx => Nat.le_trans (cutL_sizes 32 _ x hx) hza
    have hcpos : 0 < (cutL 32 ta).length := List.length_pos_iff.2 (cutL_ne 32 ta)
    have HLONG : Hid (8 < (cutL 32 ta).length → Go.Vf.rowR ta = none) := rowR_long
    have HBAD : Hid (∀ i (hi : i < (cutL 32 ta).length), (∀ n : Nat, isPtB (n : Int) = true → (cutL 32 ta)[i] ≠ pointS n) → Go.Vf.rowR ta = none) := fun i hi h => rowR_bad hi h
    have HGOOD : Hid (∀ us : List Nat, cutL 32 ta = us.map pointS → us.length ≤ 8 → (∀ u ∈ us, isPtB (u : Int) = true) → Go.Vf.rowR ta = some (us.map fun q : Nat => (q : Int))) := fun us h1 h2 h3 => rowR_good h1 h2 h3
    generalize cutL 32 ta = cs at hown2' hcz hcpos HLONG HBAD HGOOD
    obtain ⟨g5, cp5, e5, hg5, hgW5, hcell5⟩ := hown2'.cells hcpos
    simp only [Value.slice.injEq] at e5
    obtain ⟨rfl, hk5, rfl⟩ := e5
    have HK5 : Hid (k2 = cs.length) := hk5
    have hr5 := hr1.below hb2 hr1.lt
    have hm5 := hm1.below hb2 hm1.lt
    have hbw5 := hbw1.trans (hb2.mono hbw1.size)
    have hW5 : w.heap.size + 2 ≤ w2.heap.size := Nat.le_trans hW1 hb2.size
    have q1' := (hb2.cell (p := ⟨g, 1, none⟩) hg).trans q1
    have hgl : g < w2.heap.size := Nat.lt_of_lt_of_le hg hb2.size
    clear hown2 hown2' hcut2 hk5 hcpos hr1 hm1 hb2 q0 q1
    obtain ⟨r0, r1, rz0, rz1⟩ := two_of hr5
    obtain ⟨m0, m1, mz0, mz1⟩ := two_of hm5
    by_cases h8 : 8 < k2
    · have HF : Hid (entR s.data.toList = none) := entR_norow HCL.out (HLONG.out (by rw [← HK5.out]; exact h8))
      go_wp2_with fail
      refine bodyPost_ret (line6_results (hr5.put2 _ _) rfl rfl) rfl ?_
      exact ⟨below_put2 hbw5 (Nat.le_refl _) _ _, _, _, _, _, _, _, false, rfl, .inr ⟨rfl, HF.out⟩⟩
    · have HCS : Hid (∀ x : World, (∀ k, k < w2.heap.size → k ≠ w.heap.size + 1 → x.heap[k]? = w2.heap[k]?) → (Blk x w.heap.size 37 #[.slice none 0 0, .slice none 0 0] ∧ x.cell? ⟨g, 1, none⟩ = some (.string (bsz tb)) ∧ ∀ j (hj : j < cs.length), x.cell? ⟨g5, j, none⟩ = some (.string (bsz cs[j])))) := fun x hx => ⟨(hx _ (by omega) (by omega)).trans hr5, by
        rw [← q1']
        simp only [World.cell?, hx g hgl (by omega)], fun j hj => by
        rw [← hcell5 j hj]
        simp only [World.cell?, hx g5 hg5 (by omega)]⟩
      clear hcell5 hr5 q1' r0 r1 rz0 rz1 m0 m1 mz0 mz1
      go_wp2_with fail
      go_loopw [7, 8, 9] (fun i _ _ wr => ∃ (j : Nat) (us : List Nat) (av : Option Addr) (ac : Nat), j ≤ k2 ∧ i = .int .i64 j ∧ us.length = j ∧ Blk wr (w.heap.size + 1) 37 #[.slice av us.length ac, .slice none 0 0] ∧ IOwn wr w2.heap.size (.slice av us.length ac) (us.map fun q : Nat => (q : Int)) ∧ Hid (cs.take j = us.map pointS ∧ ∀ u ∈ us, isPtB (u : Int) = true) ∧ (∀ k, k < w2.heap.size → k ≠ w.heap.size + 1 → wr.heap[k]? = w2.heap[k]?) ∧ Below w.heap.size w wr ∧ w2.heap.size ≤ wr.heap.size) (fun i _ _ _ => k2 - (intOf i).toNat)
      case atStart => exact ⟨0, [], none, 0, by omega, rfl, rfl, hm5, IOwn.nil _ _, ⟨by simp, by simp⟩, fun _ _ _ => rfl, hbw5, Nat.le_refl _⟩
      case round =>
        obtain ⟨j, us, av, ac, hj, rfl, haj, hmr, hown, HP, hkp, hbel, hszr⟩ := hrel
        have HAJ : Hid (us.length = j) := haj
        clear haj
        obtain ⟨hrr, hq1, hcell⟩ := HCS.out wr hkp
        obtain ⟨r0, r1, rz0, rz1⟩ := two_of hrr
        obtain ⟨m0, m1, mz0, mz1⟩ := two_of hmr
        by_cases hlt : j < k2
        · have hltc : j < cs.length := by rw [← HK5.out]; exact hlt
          have hcj := hcell j hltc
          have hzj := hcz _ (List.getElem_mem hltc)
          have HBJ : Hid ((∀ n : Nat, isPtB (n : Int) = true → cs[j] ≠ pointS n) → Go.Vf.rowR ta = none) := HBAD.out j hltc
          have HTK : Hid (cs.take (j + 1) = cs.take j ++ [cs[j]]) := by show _ = _; rw [List.take_add_one, List.getElem?_eq_getElem hltc]; rfl
          generalize cs[j] = tj at hcj hzj HBJ HTK
          have hpj := number_any2 (bsz tj) (by rw [bsz_size]; omega) wr
          clear hcell hq1
          go_wp2_with fail
          refine hpj.mono ?_
          rintro e w6 ⟨q, bq, rfl, hq, rfl⟩
          have hq' : NumOg tj q bq := hq
          clear hq hpj
          rcases hq' with ⟨rfl, n, rfl, hn6, hqn⟩ | ⟨rfl, hq'⟩
          · have hip := isPoint_anyr (n : Int) wr
            cases hpt : isPt (n : Int) with
            | true =>
              rw [hpt] at hip
              have HP2 : Hid (cs.take (j + 1) = (us ++ [n]).map pointS ∧ ∀ u ∈ us ++ [n], isPtB (u : Int) = true) := by
                refine ⟨?_, ?_⟩
                · rw [HTK.out, HP.out.1, hqn]; simp
                · intro u hu
                  rcases List.mem_append.1 hu with hu | hu
                  · exact HP.out.2 u hu
                  · simp at hu; subst hu; exact hpt
              clear HP HTK HBJ hqn hpt
              have hown' : IOwn (wr.alloc (.cells #[.int .i64 (n : Int)] 3)) w2.heap.size (.slice av us.length ac) (us.map fun q : Nat => (q : Int)) := World.ownsRow.alloc hown _
              have HN2 : Hid (∀ i, i < ([(n : Int)] : List Int).length → (wr.alloc (.cells #[.int .i64 (n : Int)] 3)).cell? ((⟨wr.heap.size, 0, none⟩ : Addr).add i) = some (.int .i64 (([(n : Int)] : List Int)[i]?.getD 0))) := fun i hi => by
                have : i = 0 := by simp at hi; omega
                subst this
                exact (Blk.new wr 3 #[.int .i64 (n : Int)]).cell 0
              have hsum : (us.map fun q : Nat => (q : Int)).length + ([(n : Int)] : List Int).length ≤ 1099511627776 := by have := HAJ.out; simp; omega
              have hsz2 : w2.heap.size ≤ (wr.alloc (.cells #[.int .i64 (n : Int)] 3)).heap.size := by simp; omega
              go_wp2_with fail
              refine hip.mono ?_
              rintro _ _ ⟨rfl, rfl⟩
              have hml : (us.map fun q : Nat => (q : Int)).length = us.length := List.length_map _
              go_wp2_with (first | (at_builtin; refine wpList_append_ints rfl _ _ rfl w2.heap.size _ (us.map fun q : Nat => (q : Int)) rfl hown' [(n : Int)] ⟨wr.heap.size, 0, none⟩ _ rfl HN2.out hsum hsz2 ?_; intro a7 c7 w7 hown7 hgr7 hnil7 hat7; have hb7 : Below w2.heap.size wr w7 := ((Below.refl w2.heap.size wr).alloc hszr _).grown hgr7 hsz2 (fun i hi => (own_ge hown' hi).1); have hm7 := hmr.below hb7 (by omega); have y0 : w7.cell? ⟨w.heap.size + 1, 0, none⟩ = some (.slice av us.length ac) := hm7.cell 0; have yz0 := hm7.frozen 0))
              have hlen1 : (us ++ [n]).length = us.length + 1 := by simp
              have hm8 : Blk (w7.setCell ⟨w.heap.size + 1, 0, none⟩ (.slice a7 (us.length + 1) c7)) (w.heap.size + 1) 37 #[.slice a7 (us ++ [n]).length c7, .slice none 0 0] := by
                rw [hlen1]
                exact hm7.set 0 _
              have hown8 : IOwn (w7.setCell ⟨w.heap.size + 1, 0, none⟩ (.slice a7 (us.length + 1) c7)) w2.heap.size (.slice a7 (us ++ [n]).length c7) ((us ++ [n]).map fun q : Nat => (q : Int)) := by
                refine own_setCell ?_ (show w.heap.size + 1 < w2.heap.size by omega) _
                have h9 := hown7
                rw [List.map_append, hlen1]
                unfold IOwn at h9
                rw [List.length_append, hml] at h9
                rw [List.length_append, hml]
                simpa using h9
              have hsz8 : w2.heap.size ≤ (w7.setCell ⟨w.heap.size + 1, 0, none⟩ (.slice a7 (us.length + 1) c7)).heap.size := by
                have := Nat.le_trans hszr hb7.size
                simpa [World.setCell] using this
              exact ⟨⟨j + 1, us ++ [n], a7, c7, by omega, by go_num, by rw [hlen1, HAJ.out], hm8, hown8, HP2, fun k hk hne => (Below.heap_setCell _ ⟨w.heap.size + 1, 0, none⟩ _ k hne).trans ((hb7.block k hk).trans (hkp k hk hne)), (hbel.trans (hb7.mono (by omega))).setCell (show w.heap.size ≤ w.heap.size + 1 by omega) _, hsz8⟩, by simp only [intOf]; omega⟩
            | false =>
              rw [hpt] at hip
              have HF : Hid (entR s.data.toList = none) := entR_norow HCL.out (HBJ.out fun m hm e => by
                have : n = m := pointS_inj (hqn.symm.trans e)
                subst this
                rw [show isPtB (n : Int) = isPt (n : Int) from rfl, hpt] at hm
                cases hm)
              clear HP HTK HBJ hqn hpt
              go_wp2_with fail
              refine hip.mono ?_
              rintro _ _ ⟨rfl, rfl⟩
              go_wp2_with fail
              refine bodyPost_ret (line6_results (hrr.put2 _ _) rfl rfl) rfl ?_
              exact ⟨below_put2 hbel (Nat.le_refl _) _ _, _, _, _, _, _, _, false, rfl, .inr ⟨rfl, HF.out⟩⟩
          · have HF : Hid (entR s.data.toList = none) := entR_norow HCL.out (HBJ.out fun m hm e => by
              obtain ⟨u, hu, hu2⟩ := isPtB_nat hm
              have k6 : (1114112 : Nat) ≤ 16 ^ 6 := by decide
              exact hq' m (by omega) e)
            clear HP HTK HBJ hq'
            go_wp2_with fail
            refine bodyPost_ret (line6_results (hrr.put2 _ _) rfl rfl) rfl ?_
            exact ⟨below_put2 hbel (Nat.le_refl _) _ _, _, _, _, _, _, _, false, rfl, .inr ⟨rfl, HF.out⟩⟩
        · obtain rfl : j = k2 := by omega
          have HROW : Hid (Go.Vf.rowR ta = some (us.map fun q : Nat => (q : Int))) := HGOOD.out us (by rw [← HP.out.1, List.take_of_length_le (by rw [← HK5.out]; exact Nat.le_refl _)]) (by rw [HAJ.out]; omega) HP.out.2
          clear HP hcell HCS HBAD HGOOD HLONG
          have hkl : us.length ≤ 8 := by have := HAJ.out; omega
          have HPV : Aside (IOwn wr w2.heap.size (.slice av us.length ac) (us.map fun q : Nat => (q : Int))) := hown
          generalize (us.map fun q : Nat => (q : Int)) = ps at HPV HROW
          clear hown
          go_wp2_with fail
          clear r0 r1 rz0 rz1 m0 m1 mz0 mz1
          obtain ⟨wo, hwo⟩ : ∃ wo, wo = wr := ⟨_, rfl⟩
          subst hwo
          go_loopw [10, 11, 12] (fun rv _ _ wx => ∃ (acc : List El) (r : List UInt8) (ea : Option Addr) (ec : Nat), rv = .string (bsz r) ∧ Hid (tb = elsP acc ++ r ∧ ∀ e ∈ acc, wtE e) ∧ r.length ≤ 65536 ∧ acc.length ≤ 65536 ∧ Blk wx (w.heap.size + 1) 37 #[.slice av us.length ac, .slice ea acc.length ec] ∧ Aside (EOwn wx wo.heap.size (.slice ea acc.length ec) acc) ∧ (∀ k, k < wo.heap.size → k ≠ w.heap.size + 1 → wx.heap[k]? = wo.heap[k]?) ∧ Below w.heap.size w wx ∧ wo.heap.size ≤ wx.heap.size) (fun rv _ _ _ => strLen rv)
          case atStart => exact ⟨[], tb, none, 0, rfl, ⟨by simp [elsP], by simp⟩, hzb, by simp, hmr, EOwn.nil _ _, fun _ _ _ => rfl, hbel, Nat.le_refl _⟩
          case round =>
            obtain ⟨acc, r, ea, ec, rfl, HT, hrl, hal, hmx, HE, hkx, hbx, hsx⟩ := hrel
            have hrx : Blk wr w.heap.size 37 #[.slice none 0 0, .slice none 0 0] := (hkx _ (by omega) (by omega)).trans hrr
            obtain ⟨r0, r1, rz0, rz1⟩ := two_of hrx
            obtain ⟨m0, m1, mz0, mz1⟩ := two_of hmx
            by_cases hemp : r = []
            · subst hemp
              have HEND := elsR_end (b := tb) (acc := acc) (by have := HT.out.1; simpa using this) HT.out.2
              have HPX : IOwn wr w2.heap.size (.slice av us.length ac) ps := own_block HPV.out (fun j hj => by
                obtain ⟨h1, cs', f, h2⟩ := own_ge HPV.out hj
                exact hkx j (Array.getElem?_eq_some_iff.1 h2).1 (by omega))
              have HF' : Hid (¬ (1 ≤ acc.length ∧ acc.length ≤ 16) → entR s.data.toList = none) := fun h => entR_noels HCL.out (HEND.2 h)
              have HY' : Hid (1 ≤ acc.length ∧ acc.length ≤ 16 → entR s.data.toList = some (ps, acc)) := fun h => entR_mk HCL.out HROW.out (HEND.1 h)
              clear HEND HT
              generalize acc.length = Ln at hmx m1 HE hal HF' HY'
              have hrp := (show Blk wr.drew w.heap.size 37 #[.slice none 0 0, .slice none 0 0] from hrx).put2 (.slice av us.length ac) (.slice ea Ln ec)
              have hbp := below_put2 hbx.drew (Nat.le_refl w.heap.size) (.slice av us.length ac) (.slice ea Ln ec)
              have HPF : Hid (IOwn (put2 wr.drew w.heap.size (.slice av us.length ac) (.slice ea Ln ec)) w.heap.size (.slice av us.length ac) ps) := ownsRow_mono (own_setCell (own_setCell (show (wr.drew).ownsRow _ _ _ _ _ _ from HPX) (p := ⟨w.heap.size, 0, none⟩) (show w.heap.size < w2.heap.size by omega) _) (p := ⟨w.heap.size, 1, none⟩) (show w.heap.size < w2.heap.size by omega) _) (by omega)
              have HEF : Hid (EOwn (put2 wr.drew w.heap.size (.slice av us.length ac) (.slice ea Ln ec)) w.heap.size (.slice ea Ln ec) acc) := ownsRow_mono (own_setCell (own_setCell (show (wr.drew).ownsRow _ _ _ _ _ _ from HE.out) (p := ⟨w.heap.size, 0, none⟩) (show w.heap.size < wo.heap.size by omega) _) (p := ⟨w.heap.size, 1, none⟩) (show w.heap.size < wo.heap.size by omega) _) (by omega)
              clear HPX
              by_cases h1 : 1 ≤ Ln
              · by_cases h16 : Ln ≤ 16
                · have d1 : decide ((1 : Int) ≤ (Ln : Int)) = true := by simp; omega
                  have d2 : decide ((Ln : Int) ≤ 16) = true := by simp; omega
                  have HY : Hid _ := HY'.out ⟨h1, h16⟩
                  clear HY' HF' h1 h16
                  go_wp2_with fail
                  go_region
                  go_wp2_with fail
                  refine bodyPost_ret (line6_results hrp rfl rfl) rfl ?_
                  exact ⟨hbp, _, _, _, _, _, _, true, rfl, .inl ⟨rfl, (ps, acc), HY.out, HPF.out, HEF.out⟩⟩
                · have d1 : decide ((1 : Int) ≤ (Ln : Int)) = true := by simp; omega
                  have d2 : decide ((Ln : Int) ≤ 16) = false := by simp; omega
                  have HF : Hid _ := HF'.out (fun h => h16 h.2)
                  clear HY' HF' h1 h16
                  go_wp2_with fail
                  go_region
                  go_wp2_with fail
                  refine bodyPost_ret (line6_results hrp rfl rfl) rfl ?_
                  exact ⟨hbp, _, _, _, _, _, _, false, rfl, .inr ⟨rfl, HF.out⟩⟩
              · have d1 : decide ((1 : Int) ≤ (Ln : Int)) = false := by simp; omega
                have HF : Hid _ := HF'.out (fun h => h1 h.1)
                clear HY' HF' h1
                go_wp2_with fail
                go_region
                go_wp2_with fail
                refine bodyPost_ret (line6_results hrp rfl rfl) rfl ?_
                exact ⟨hbp, _, _, _, _, _, _, false, rfl, .inr ⟨rfl, HF.out⟩⟩
            · have hemp' : (bsz r).toList.isEmpty = false := by rw [ByteArray.toList_eq]; simpa using hemp
              have hemp2 : r.isEmpty = false := by simpa using hemp
              have hrd := refRead_any (bsz r) (by rw [bsz_size]; exact hrl) wr
              go_wp2_with fail
              refine hrd.mono ?_
              rintro _ w6 ⟨hb6, ⟨va, pr, se, te⟩, b, rfl, hcase⟩
              have hb7 := (Below.refl w6.heap.size w6).alloc (Nat.le_refl _) (.cells #[.bool va, .int .i64 pr, .int .i64 se, .int .i64 te] 49)
              have hb67 := hb6.trans (hb7.mono hb6.size)
              have hr7 := hrx.below hb67 hrx.lt
              have hm7 := hmx.below hb67 hmx.lt
              have hbw7 := hbx.trans (hb67.mono hbx.size)
              have hE7 := Blk.new w6 49 #[.bool va, .int .i64 pr, .int .i64 se, .int .i64 te]
              have HE7 : Aside (EOwn (w6.alloc (.cells #[.bool va, .int .i64 pr, .int .i64 se, .int .i64 te] 49)) wo.heap.size (.slice ea acc.length ec) acc) := own_after HE.out hb67
              have hk7 : ∀ k, k < wo.heap.size → k ≠ w.heap.size + 1 → (w6.alloc (.cells #[.bool va, .int .i64 pr, .int .i64 se, .int .i64 te] 49)).heap[k]? = wo.heap[k]? := fun k hk hne => (hb67.block k (Nat.lt_of_lt_of_le hk hsx)).trans (hkx k hk hne)
              have hs7 : wo.heap.size ≤ (w6.alloc (.cells #[.bool va, .int .i64 pr, .int .i64 se, .int .i64 te] 49)).heap.size := Nat.le_trans hsx hb67.size
              have hcase' : (b = true ∧ 17 ≤ r.length ∧ elR (r.take 17) = some ⟨va, pr, se, te⟩) ∨ (b = false ∧ ∀ e', 17 ≤ r.length → elR (r.take 17) ≠ some e') := by simpa using hcase
              clear hcase hrd r0 r1 rz0 rz1 m0 m1 mz0 mz1 HE hkx hb6 hb67
              rcases hcase' with ⟨rfl, hl17, hel⟩ | ⟨rfl, hno⟩
              · obtain ⟨hT2, hwt⟩ := elsR_step HT.out.1 hl17 hel
                have HT2 : Hid (tb = elsP (acc ++ [⟨va, pr, se, te⟩]) ++ r.drop 17 ∧ ∀ e ∈ acc ++ [⟨va, pr, se, te⟩], wtE e) := ⟨hT2, fun e he => by
                  rcases List.mem_append.1 he with he | he
                  · exact HT.out.2 e he
                  · simp at he; subst he; exact hwt⟩
                clear hT2 hwt HT hel
                have HDL : Hid ((r.drop 17).length < r.length ∧ (r.drop 17).length ≤ 65536) := ⟨by rw [List.length_drop]; omega, by rw [List.length_drop]; omega⟩
                have hx1 : Hid ((bsz r).extract 17 r.length = bsz (r.drop 17)) := by
                  show _ = _
                  have e : (bsz r).data.toList = r := by simp
                  rw [extract_bsz, e, List.take_of_length_le (by rw [List.length_drop]; exact Nat.le_refl _)]
                have hal2 : Hid (acc.length + 1 ≤ 65536) := by
                  show _ ≤ _
                  have h1 := elsP_len _ HT2.out.2
                  have h2 := congrArg List.length HT2.out.1
                  rw [List.length_append, h1, List.length_append] at h2
                  simp only [List.length_cons, List.length_nil] at h2
                  omega
                go_upto_region 20 with fail
                generalize w6.alloc (.cells #[.bool va, .int .i64 pr, .int .i64 se, .int .i64 te] 49) = w7 at *
                have hb8 := (Below.refl w7.heap.size w7).alloc (Nat.le_refl _) (.cells #[.bool va, .int .i64 pr, .int .i64 se, .int .i64 te] 49)
                have hm8 := hm7.below hb8 hm7.lt
                have hE8 := Blk.new w7 49 #[.bool va, .int .i64 pr, .int .i64 se, .int .i64 te]
                have HE8 : Aside (EOwn (w7.alloc (.cells #[.bool va, .int .i64 pr, .int .i64 se, .int .i64 te] 49)) wo.heap.size (.slice ea acc.length ec) acc) := own_after HE7.out hb8
                have HI8 : Aside (Els (w7.alloc (.cells #[.bool va, .int .i64 pr, .int .i64 se, .int .i64 te] 49)).heap.size (w7.alloc (.cells #[.bool va, .int .i64 pr, .int .i64 se, .int .i64 te] 49)) (.slice (some ⟨w7.heap.size, 0, none⟩) 1 1) [⟨va, pr, se, te⟩]) := .inr ⟨w7.heap.size, 0, 1, rfl, hE8.lt, fun j hj => by
                  obtain rfl : j = 0 := by simpa using hj
                  exact ⟨hE8.cell 0, hE8.cell 1, hE8.cell 2, hE8.cell 3⟩⟩
                have hsum : acc.length + ([⟨va, pr, se, te⟩] : List El).length ≤ 4000000000000 := by simp; omega
                have hs8 : wo.heap.size ≤ (w7.alloc (.cells #[.bool va, .int .i64 pr, .int .i64 se, .int .i64 te] 49)).heap.size := Nat.le_trans hs7 hb8.size
                obtain ⟨m0, m1, mz0, mz1⟩ := two_of hm7
                have t0 : w7.cell? ⟨w6.heap.size, 0, none⟩ = some (.bool va) := hE7.cell 0
                have t1 : w7.cell? ⟨w6.heap.size, 1, none⟩ = some (.int .i64 pr) := hE7.cell 1
                have t2 : w7.cell? ⟨w6.heap.size, 2, none⟩ = some (.int .i64 se) := hE7.cell 2
                have t3 : w7.cell? ⟨w6.heap.size, 3, none⟩ = some (.int .i64 te) := hE7.cell 3
                have hhw : w.heap.size + 1 < wo.heap.size := by omega
                go_wp2_with (first | (at_builtin; refine wpList_append_els rfl _ _ rfl wo.heap.size _ acc rfl HE8.out [⟨va, pr, se, te⟩] _ _ rfl HI8.out hsum hs8 ?_; intro a9 c9 w9 hown9 hb9 hg9; have hm9 := hm8.below hb9 hhw; have y1 : w9.cell? ⟨w.heap.size + 1, 1, none⟩ = some (.slice ea acc.length ec) := hm9.cell 1; have yz1 := hm9.frozen 1))
                have hlen1 : (acc ++ [⟨va, pr, se, te⟩] : List El).length = acc.length + 1 := by simp
                have hm10 : Blk (w9.setCell ⟨w.heap.size + 1, 1, none⟩ (.slice a9 (acc.length + 1) c9)) (w.heap.size + 1) 37 #[.slice av us.length ac, .slice a9 (acc ++ [⟨va, pr, se, te⟩] : List El).length c9] := by
                  rw [hlen1]
                  exact hm9.set 1 _
                have HE10 : Aside (EOwn (w9.setCell ⟨w.heap.size + 1, 1, none⟩ (.slice a9 (acc.length + 1) c9)) wo.heap.size (.slice a9 (acc ++ [⟨va, pr, se, te⟩] : List El).length c9) (acc ++ [⟨va, pr, se, te⟩])) := by
                  refine own_setCell ?_ hhw _
                  have h9 := hown9
                  unfold EOwn at h9
                  rw [hlen1] at h9 ⊢
                  exact h9
                have hs10 : wo.heap.size ≤ (w9.setCell ⟨w.heap.size + 1, 1, none⟩ (.slice a9 (acc.length + 1) c9)).heap.size := by
                  have := Nat.le_trans hs8 hb9.size
                  simpa [World.setCell] using this
                have hb79 := hb8.mono (show wo.heap.size ≤ w7.heap.size from hs7)
                have hbf : Below w.heap.size w (w9.setCell ⟨w.heap.size + 1, 1, none⟩ (.slice a9 (acc.length + 1) c9)) := ((hbw7.trans (hb79.mono (by omega))).trans (hb9.mono (by omega))).setCell (show w.heap.size ≤ w.heap.size + 1 by omega) _
                have hkf : ∀ k, k < wo.heap.size → k ≠ w.heap.size + 1 → (w9.setCell ⟨w.heap.size + 1, 1, none⟩ (.slice a9 (acc.length + 1) c9)).heap[k]? = wo.heap[k]? := fun k hk hne => (Below.heap_setCell _ ⟨w.heap.size + 1, 1, none⟩ _ k hne).trans (((hb9.block k hk).trans (hb79.block k hk)).trans (hk7 k hk hne))
                rw [hx1.out]
                exact ⟨⟨acc ++ [⟨va, pr, se, te⟩], r.drop 17, a9, c9, rfl, HT2, HDL.out.2, by rw [hlen1]; exact hal2.out, hm10, HE10, hkf, hbf, hs10⟩, by
                  show (bsz (r.drop 17)).size < (bsz r).size
                  rw [bsz_size, bsz_size]
                  exact HDL.out.1⟩
              · have HF : Hid (entR s.data.toList = none) := entR_noels HCL.out (elsR_bad HT.out.1 HT.out.2 hemp hno)
                clear HT hno
                obtain ⟨r0, r1, rz0, rz1⟩ := two_of hr7
                obtain ⟨m0, m1, mz0, mz1⟩ := two_of hm7
                go_wp2_with fail
                refine bodyPost_ret (line6_results (hr7.put2 _ _) rfl rfl) rfl ?_
                exact ⟨below_put2 hbw7 (Nat.le_refl _) _ _, _, _, _, _, _, _, false, rfl, .inr ⟨rfl, HF.out⟩⟩
  · have HF : Hid (entR s.data.toList = none) := entR_not (by rw [← hk1]; exact h3)
    have h3' : ((k1 : Int) != 2) = true := by simp; omega
    obtain ⟨r0, r1, rz0, rz1⟩ := two_of hr1
    obtain ⟨m0, m1, mz0, mz1⟩ := two_of hm1
    clear hk1 HSS
    go_wp2_with fail
    refine bodyPost_ret (line6_results (hr1.put2 _ _) rfl rfl) rfl ?_
    exact ⟨below_put2 hbw1 (Nat.le_refl _) _ _, _, _, _, _, _, _, false, rfl, .inr ⟨rfl, HF.out⟩⟩
end Go.Proofs.YtfeppbiodbhpcaaDoor

namespace Go.Proofs.YtfeppbiodbhpcaaDoor
open Go.RowKit Go.Vf Go.Maps

/-- Entries that lie in memory. -/
def NIn (n₀ : Nat) (w : World) (v : Value) (l : List Ent) : Prop :=
  (∃ a cap, v = .slice a 0 cap ∧ l = []) ∨ ∃ b off cap, v = .slice (some ⟨b, off, none⟩) l.length cap ∧ b < n₀ ∧ ∀ j (hj : j < l.length), ∃ pv ev, w.cell? ⟨b, off + j * 2, none⟩ = some pv ∧ Ints n₀ w pv l[j].1 ∧ w.cell? ⟨b, off + j * 2 + 1, none⟩ = some ev ∧ Els n₀ w ev l[j].2
theorem NIn.val {n₀ : Nat} {w : World} {v : Value} {l : List Ent} (h : NIn n₀ w v l) : ∃ a cap, v = .slice a l.length cap := by
  rcases h with ⟨a, cap, rfl, rfl⟩ | ⟨b, off, cap, rfl, _⟩
  · exact ⟨_, _, rfl⟩
  · exact ⟨_, _, rfl⟩
theorem NIn.below {n₀ n : Nat} {A B : World} {v : Value} {l : List Ent} (h : NIn n₀ A v l) (hb : Below n A B) (hn : n₀ ≤ n) : NIn n₀ B v l := by
  rcases h with h | ⟨b, off, cap, e, hlt, hc⟩
  · exact .inl h
  · refine .inr ⟨b, off, cap, e, hlt, fun j hj => ?_⟩
    obtain ⟨pv, ev, h1, h2, h3, h4⟩ := hc j hj
    exact ⟨pv, ev, (hb.cell (p := ⟨b, _, none⟩) (show b < n by omega)).trans h1, h2.below hb hn, (hb.cell (p := ⟨b, _, none⟩) (show b < n by omega)).trans h3, h4.below hb hn⟩
theorem NIn.mono {n₀ n : Nat} {A : World} {v : Value} {l : List Ent} (h : NIn n₀ A v l) (hn : n₀ ≤ n) : NIn n A v l := by
  rcases h with h | ⟨b, off, cap, e, hlt, hc⟩
  · exact .inl h
  · refine .inr ⟨b, off, cap, e, Nat.lt_of_lt_of_le hlt hn, fun j hj => ?_⟩
    obtain ⟨pv, ev, h1, h2, h3, h4⟩ := hc j hj
    exact ⟨pv, ev, h1, h2.mono hn, h3, h4.mono hn⟩
theorem NIn.at {n₀ : Nat} {w : World} {a : Option Addr} {k cap : Nat} {l : List Ent} (h : NIn n₀ w (.slice a k cap) l) {j : Nat} (hj : j < l.length) : ∃ b off pv, a = some ⟨b, off, none⟩ ∧ w.cell? ⟨b, off + j * 2, none⟩ = some pv ∧ Ints n₀ w pv l[j].1 := by
  rcases h with ⟨a', cap', e, rfl⟩ | ⟨b, off, cap', e, hb, hc⟩
  · simp at hj
  · cases (Value.slice.inj e).1
    obtain ⟨pv, ev, h1, h2, _⟩ := hc j hj
    exact ⟨b, off, pv, rfl, h1, h2⟩
def RiseF (l : List Ent) : Prop := (l.map Prod.fst).Pairwise fun a b => aheadL a b < 0
theorem riseF_at {l : List Ent} (h : RiseF l) {i j : Nat} (hi : i < l.length) (hj : j < l.length) (hij : i < j) : aheadL (l[i]).1 (l[j]).1 < 0 := by
  have := List.pairwise_iff_getElem.1 h i j (by simpa using hi) (by simpa using hj) hij
  simpa using this
structure PlaceE (l : List Ent) (p : List Int) (k : Nat) : Prop where
  le : k ≤ l.length
  lo : ∀ i (h : i < l.length), i < k → aheadL (l[i]).1 p < 0
  hi : ∀ i (h : i < l.length), k ≤ i → 0 ≤ aheadL (l[i]).1 p
def PlacePostE (l : List Ent) (p : List Int) (w : World) (e : Ending) (w' : World) : Prop := ∃ (k : Nat) (b : Bool), PlaceE l p k ∧ e = .returned (.tuple #[.int .i64 k, .bool b]) ∧ ((b = true ∧ ∃ h : k < l.length, (l[k]).1 = p) ∨ (b = false ∧ ∀ i (h : i < l.length), (l[i]).1 ≠ p)) ∧ Below w.heap.size w w'
theorem results101_run {tmps : Array Value} {w : World} {a b : Value} (t2 : tmps[4]?.getD undef = a) (t3 : tmps[5]?.getD undef = b) : (results Tryd.f31 tmps).run Tryd.prog w = .ok (.tuple #[a, b]) w := by
  simp [results, Tryd.results31, go_sem, t2, t3]

set_option maxHeartbeats 4000000 in
set_option maxRecDepth 20000 in
theorem refPlaceE_any (l : List Ent) (hrise : RiseF l) (hll : l.length ≤ 1048576) (hls : ∀ e ∈ l, e.1.length ≤ 1048576) (v pv : Value) (p : List Int) (hpl : p.length ≤ 4611686018427387904) (n₀ : Nat) (w : World) (hn₀ : n₀ ≤ w.heap.size) (hin : NIn n₀ w v l) (hp : Ints n₀ w pv p) :
    Calls Tryd.prog 31 #[.agg #[v], pv] w fun e w' => PlacePostE l p w e w' := by
  obtain ⟨a, cap, rfl⟩ := hin.val
  have hb0 := (Below.refl w.heap.size w).alloc (Nat.le_refl _) (.cells #[.slice a l.length cap] 29)
  have hbn := Blk.new w 29 #[.slice a l.length cap]
  have hin0 := hin.below hb0 hn₀
  have hp0 := hp.below hb0 hn₀
  go_enter Tryd.func31, Tryd.ntmps31
  go_upto_region 1 with fail
  generalize w.alloc (.cells #[.slice a l.length cap] 29) = W at hb0 hbn hin0 hp0 ⊢
  have e0 : W.cell? ⟨w.heap.size, 0, none⟩ = some (.slice a l.length cap) := hbn.cell 0
  have HA : Hid (∀ (i : Nat) (hi : i < l.length) (qv : Value) (n : Nat), Ints n₀ W qv (l[i]).1 → Calls Tryd.prog 41 #[qv, pv] (W.drewN n) fun e w' => e = .returned (.int .i64 (aheadL (l[i]).1 p)) ∧ ∃ m, w' = (W.drewN n).drewN m) := fun i hi qv n hq => by
    have := hls _ (List.getElem_mem hi)
    exact ahead_any n₀ n₀ qv pv _ _ (W.drewN n) hq hp0 (by omega) (by omega)
  go_wp2_with fail
  go_loopw [6, 7, 8] (fun x y _ wr => ∃ (lo hi n : Nat), lo ≤ hi ∧ hi ≤ l.length ∧ x = .int .i64 lo ∧ y = .int .i64 hi ∧ Hid ((∀ i (h : i < l.length), i < lo → aheadL (l[i]).1 p < 0) ∧ (∀ i (h : i < l.length), hi ≤ i → 0 ≤ aheadL (l[i]).1 p)) ∧ wr = W.drewN n) (fun x y _ _ => (intOf y).toNat - (intOf x).toNat)
  case atStart => exact ⟨0, l.length, 0, by omega, by omega, rfl, rfl, ⟨fun i h h2 => absurd h2 (by omega), fun i h h2 => absurd h (by omega)⟩, rfl⟩
  case round =>
    obtain ⟨lo, hi, nd, hle, hhi, rfl, rfl, HI, rfl⟩ := hrel
    by_cases hlt : lo < hi
    · have hmid : (lo + hi) / 2 < l.length := by omega
      obtain ⟨b, off, qv, hao, c0, hq⟩ := hin0.at hmid
      subst hao
      have hcall := HA.out _ hmid qv nd hq
      have HL : Hid (∀ i (h : i < l.length), i < (lo + hi) / 2 + 1 → aheadL (l[i]).1 p < 0 ∨ ¬ aheadL (l[(lo + hi) / 2]).1 p < 0) := fun i h h2 => by
        by_cases hp : aheadL (l[(lo + hi) / 2]).1 p < 0
        · left
          rcases Nat.lt_or_ge i ((lo + hi) / 2) with h3 | h3
          · exact aheadL_trans _ _ _ (riseF_at hrise h hmid h3) hp
          · obtain rfl : i = (lo + hi) / 2 := by omega
            exact hp
        · right; exact hp
      have HH : Hid (∀ i (h : i < l.length), (lo + hi) / 2 ≤ i → 0 ≤ aheadL (l[i]).1 p ∨ aheadL (l[(lo + hi) / 2]).1 p < 0) := fun i h h2 => by
        by_cases hp : aheadL (l[(lo + hi) / 2]).1 p < 0
        · right; exact hp
        · left
          rcases Nat.lt_or_ge ((lo + hi) / 2) i with h3 | h3
          · exact Int.not_lt.1 fun h4 => hp (aheadL_trans _ _ _ (riseF_at hrise hmid h h3) h4)
          · obtain rfl : i = (lo + hi) / 2 := by omega
            exact Int.not_lt.1 hp
      generalize aheadL (l[(lo + hi) / 2]).1 p = pt at hcall HL HH
      have hm1 : lo ≤ (lo + hi) / 2 ∧ (lo + hi) / 2 < hi := by omega
      obtain ⟨M, hM⟩ : ∃ M, (lo + hi) / 2 = M := ⟨_, rfl⟩
      have hMi : ((lo : Int) + (hi : Int)) / 2 = (M : Int) := by omega
      rw [hM] at c0 HL HH hm1 hmid
      clear hq
      by_cases hp : pt < 0
      · have HI2 : Hid ((∀ i (h : i < l.length), i < M + 1 → aheadL (l[i]).1 p < 0) ∧ (∀ i (h : i < l.length), hi ≤ i → 0 ≤ aheadL (l[i]).1 p)) := ⟨fun i h h2 => (HL.out i h h2).resolve_right (by omega), HI.out.2⟩
        clear HI HL HH hM
        go_wp2_with fail
        refine hcall.mono ?_
        rintro _ w1 ⟨rfl, nm, rfl⟩
        go_wp2_with fail
        exact ⟨⟨M + 1, hi, nd + nm, by omega, by omega, by go_num, rfl, HI2, by simp⟩, by simp only [intOf]; omega⟩
      · have HI2 : Hid ((∀ i (h : i < l.length), i < lo → aheadL (l[i]).1 p < 0) ∧ (∀ i (h : i < l.length), M ≤ i → 0 ≤ aheadL (l[i]).1 p)) := ⟨HI.out.1, fun i h h2 => (HH.out i h h2).resolve_right hp⟩
        clear HI HL HH hM
        go_wp2_with fail
        refine hcall.mono ?_
        rintro _ w1 ⟨rfl, nm, rfl⟩
        go_wp2_with fail
        exact ⟨⟨lo, M, nd + nm, by omega, by omega, rfl, by first | rfl | exact congrArg (Value.int .i64) hMi, HI2, by simp⟩, by simp only [intOf]; omega⟩
    · obtain rfl : hi = lo := by omega
      have HPA : Hid (PlaceE l p hi) := ⟨hhi, HI.out.1, HI.out.2⟩
      clear HI
      by_cases hk : hi < l.length
      · obtain ⟨b, off, qv, hao, c0, hq⟩ := hin0.at hk
        subst hao
        have hcall := HA.out _ hk qv nd hq
        obtain ⟨pt, hpt⟩ : ∃ pt, aheadL (l[hi]).1 p = pt := ⟨_, rfl⟩
        have HPT : Hid (aheadL (l[hi]).1 p = pt) := hpt
        rw [hpt] at hcall
        clear hpt hq
        have d1 : decide ((hi : Int) < (l.length : Int)) = true := by simp; omega
        by_cases hp : pt = 0
        · have d2 : (pt == 0) = true := by simp [hp]
          have HY : Hid (∃ h : hi < l.length, (l[hi]).1 = p) := ⟨hk, aheadL_zero _ _ (by rw [HPT.out, hp])⟩
          clear hp
          go_wp2_with fail
          refine hcall.mono ?_
          rintro _ w1 ⟨rfl, nm, rfl⟩
          go_wp2_with fail
          refine bodyPost_ret (results101_run rfl rfl) rfl ?_
          exact ⟨hi, true, HPA.out, rfl, .inl ⟨rfl, HY.out⟩, hb0.trans (below_drewB W _ _)⟩
        · have d2 : (pt == 0) = false := by simp [hp]
          have HN : Hid (∀ i (h : i < l.length), (l[i]).1 ≠ p) := fun i h e => by
            rcases Nat.lt_or_ge i hi with h1 | h1
            · have := HPA.out.lo i h h1; rw [e, aheadL_self] at this; omega
            · rcases Nat.lt_or_ge hi i with h2 | h2
              · have h3 := riseF_at hrise hk h h2
                rw [e] at h3
                have := HPA.out.hi hi hk (Nat.le_refl _); omega
              · obtain rfl : i = hi := by omega
                refine hp (HPT.out.symm.trans ?_)
                rw [e, aheadL_self]
          clear hp
          go_wp2_with fail
          refine hcall.mono ?_
          rintro _ w1 ⟨rfl, nm, rfl⟩
          go_wp2_with fail
          refine bodyPost_ret (results101_run rfl rfl) rfl ?_
          exact ⟨hi, false, HPA.out, rfl, .inr ⟨rfl, HN.out⟩, hb0.trans (below_drewB W _ _)⟩
      · have d1 : decide ((hi : Int) < (l.length : Int)) = false := by simp; omega
        have HN : Hid (∀ i (h : i < l.length), (l[i]).1 ≠ p) := fun i h e => by
          have := HPA.out.lo i h (by omega); rw [e, aheadL_self] at this; omega
        go_wp2_with fail
        refine bodyPost_ret (results101_run rfl rfl) rfl ?_
        exact ⟨hi, false, HPA.out, rfl, .inr ⟨rfl, HN.out⟩, hb0.trans (below_drewB W _ _)⟩
end Go.Proofs.YtfeppbiodbhpcaaDoor

namespace Go.Proofs.YtfeppbiodbhpcaaDoor
open Go.RowKit Go.Vf Go.Maps

/-! ### plainly -/
theorem aheadL_swap : ∀ a b : List Int, 0 < aheadL a b → aheadL b a < 0 := by
  intro a
  induction a with
  | nil => intro b h; cases b <;> simp [aheadL] at h
  | cons x a ih =>
    intro b h
    cases b with
    | nil => simp [aheadL]
    | cons y b =>
      simp only [aheadL] at h ⊢
      by_cases h1 : x < y
      · rw [if_pos h1] at h; omega
      · rw [if_neg h1] at h
        by_cases h2 : y < x
        · rw [if_pos h2]; omega
        · rw [if_neg h2] at h
          rw [if_neg h2, if_neg h1]
          exact ih b h
theorem riseF_put {l : List Ent} {x : Ent} {k : Nat} (hr : RiseF l) (hp : PlaceE l x.1 k) (hno : ∀ i (h : i < l.length), (l[i]).1 ≠ x.1) : RiseF (l.take k ++ [x] ++ l.drop k) := by
  unfold RiseF at hr ⊢
  rw [List.map_append, List.map_append, List.append_assoc, List.pairwise_append]
  have hsp : l.map Prod.fst = (l.take k).map Prod.fst ++ (l.drop k).map Prod.fst := by rw [← List.map_append, List.take_append_drop]
  rw [hsp, List.pairwise_append] at hr
  have hlo : ∀ a ∈ (l.take k).map Prod.fst, aheadL a x.1 < 0 := fun a ha => by
    obtain ⟨y, hy, rfl⟩ := List.mem_map.1 ha
    obtain ⟨i, hi, rfl⟩ := List.mem_iff_getElem.1 hy
    rw [List.length_take] at hi
    rw [List.getElem_take]
    exact hp.lo i (by omega) (by omega)
  have hhi : ∀ a ∈ (l.drop k).map Prod.fst, aheadL x.1 a < 0 := fun a ha => by
    obtain ⟨y, hy, rfl⟩ := List.mem_map.1 ha
    obtain ⟨i, hi, rfl⟩ := List.mem_iff_getElem.1 hy
    rw [List.length_drop] at hi
    rw [List.getElem_drop]
    have h1 := hp.hi (k + i) (by omega) (by omega)
    refine aheadL_swap _ _ ?_
    have h2 : aheadL (l[k + i]).1 x.1 ≠ 0 := fun e => hno (k + i) (by omega) (aheadL_zero _ _ e)
    omega
  refine ⟨hr.1, ?_, ?_⟩
  · rw [List.pairwise_append]
    refine ⟨by simp, hr.2.1, fun a ha b hb => ?_⟩
    simp at ha
    subst ha
    exact hhi b hb
  · intro a ha b hb
    rcases List.mem_append.1 hb with hb | hb
    · simp at hb
      subst hb
      exact hlo a ha
    · exact hr.2.2 a ha b hb
theorem perm_put {l acc : List Ent} {x : Ent} {k : Nat} (h : l.Perm acc) : (l.take k ++ [x] ++ l.drop k).Perm (acc ++ [x]) := by
  have h1 : (l.take k ++ [x] ++ l.drop k).Perm (l.take k ++ l.drop k ++ [x]) := by
    rw [List.append_assoc, List.append_assoc]
    exact (List.perm_append_left_iff _).2 List.perm_append_comm
  rw [List.take_append_drop] at h1
  exact h1.trans (h.append_right _)
theorem has_iff {l acc : List Ent} (h : l.Perm acc) (p : List Int) : (∃ i, ∃ hi : i < l.length, (l[i]).1 = p) ↔ hasT acc p = true := by
  unfold hasT
  rw [List.any_eq_true]
  constructor
  · rintro ⟨i, hi, e⟩
    exact ⟨l[i], h.mem_iff.1 (List.getElem_mem hi), by simp [e]⟩
  · rintro ⟨x, hx, e⟩
    obtain ⟨i, hi, e2⟩ := List.mem_iff_getElem.1 (h.mem_iff.2 hx)
    exact ⟨i, hi, by rw [e2]; simpa using e⟩
theorem tab_silent {C : List (List UInt8)} {j : Nat} (hj : j < C.length) {n : Int} {acc : List Ent} (h : silentL C[j] = true) : tabL (C.drop j) n acc = tabL (C.drop (j + 1)) (n + 1) acc := by
  rw [List.drop_eq_getElem_cons hj, tabL, if_pos h]
theorem tab_none {C : List (List UInt8)} {j : Nat} (hj : j < C.length) {n : Int} {acc : List Ent} (h : silentL C[j] = false) (hm : entR C[j] = none) : tabL (C.drop j) n acc = .error (60, n + 1) := by
  rw [List.drop_eq_getElem_cons hj, tabL, if_neg (by simp [h]), hm]
theorem tab_weight {C : List (List UInt8)} {j : Nat} (hj : j < C.length) {n : Int} {x : Ent} {acc : List Ent} (h : silentL C[j] = false) (hm : entR C[j] = some x) (hw : ¬ x.2.all rightB = true) : tabL (C.drop j) n acc = .error (62, n + 1) := by
  rw [List.drop_eq_getElem_cons hj, tabL, if_neg (by simp [h]), hm]
  simp only
  rw [if_neg hw]
theorem tab_twice {C : List (List UInt8)} {j : Nat} (hj : j < C.length) {n : Int} {x : Ent} {acc : List Ent} (h : silentL C[j] = false) (hm : entR C[j] = some x) (hw : x.2.all rightB = true) (ha : hasT acc x.1 = true) : tabL (C.drop j) n acc = .error (61, n + 1) := by
  rw [List.drop_eq_getElem_cons hj, tabL, if_neg (by simp [h]), hm]
  simp only
  rw [if_pos hw, if_pos ha]
theorem tab_many {C : List (List UInt8)} {j : Nat} (hj : j < C.length) {n : Int} {x : Ent} {acc : List Ent} (h : silentL C[j] = false) (hm : entR C[j] = some x) (hw : x.2.all rightB = true) (ha : hasT acc x.1 = false) (hl : 4096 ≤ acc.length) : tabL (C.drop j) n acc = .error (2, n + 1) := by
  rw [List.drop_eq_getElem_cons hj, tabL, if_neg (by simp [h]), hm]
  simp only
  rw [if_pos hw, if_neg (by simp [ha]), if_pos hl]
theorem tab_more {C : List (List UInt8)} {j : Nat} (hj : j < C.length) {n : Int} {x : Ent} {acc : List Ent} (h : silentL C[j] = false) (hm : entR C[j] = some x) (hw : x.2.all rightB = true) (ha : hasT acc x.1 = false) (hl : acc.length < 4096) : tabL (C.drop j) n acc = tabL (C.drop (j + 1)) (n + 1) (acc ++ [x]) := by
  rw [List.drop_eq_getElem_cons hj, tabL, if_neg (by simp [h]), hm]
  simp only
  rw [if_pos hw, if_neg (by simp [ha]), if_neg (by omega)]
theorem tab_end {C : List (List UInt8)} {j : Nat} (hj : C.length ≤ j) {n : Int} {acc : List Ent} : tabL (C.drop j) n acc = .ok acc := by
  rw [List.drop_of_length_le hj, tabL]
theorem entR_row8 {l : List UInt8} {x : Ent} (h : entR l = some x) : x.1.length ≤ 8 ∧ x.2.length ≤ 16 := by
  obtain ⟨h1, h2⟩ := entR_parts h
  exact ⟨(rowB_lenE (rowR_parts h1).2.2).2, (elsR_lenF h2).2⟩

/-! ### in memory -/
theorem info160 : (Tryd.prog.info? 37).map (fun i => (i.zero, i.size, i.bytes)) = some (some (.agg #[.slice none 0 0, .slice none 0 0]), 2, 48) := by kernel_rfl
abbrev EV := Ent × Value × Value
def flatE (ps : List EV) : List Value := ps.flatMap fun x => [x.2.1, x.2.2]
theorem flatE_append (a b : List EV) : flatE (a ++ b) = flatE a ++ flatE b := by simp [flatE]
theorem flatE_len (ps : List EV) : (flatE ps).length = ps.length * 2 := by
  induction ps with
  | nil => rfl
  | cons x r ih => rw [show flatE (x :: r) = [x.2.1, x.2.2] ++ flatE r from rfl, List.length_append, ih]; simp; omega
theorem flatE_at : ∀ (ps : List EV) (j : Nat) (hj : j < ps.length), (flatE ps)[j * 2]? = some (ps[j]).2.1 ∧ (flatE ps)[j * 2 + 1]? = some (ps[j]).2.2 := by
  intro ps
  induction ps with
  | nil => intro j hj; simp at hj
  | cons x r ih =>
    intro j hj
    cases j with
    | zero => exact ⟨rfl, rfl⟩
    | succ j =>
      have h := ih j (by simpa using hj)
      rw [show flatE (x :: r) = [x.2.1, x.2.2] ++ flatE r from rfl]
      rw [List.getElem?_append_right (by simp; omega), List.getElem?_append_right (by simp; omega)]
      simp only [List.length_cons, List.length_nil, List.getElem_cons_succ]
      rw [show (j + 1) * 2 - (0 + 1 + 1) = j * 2 by omega, show (j + 1) * 2 + 1 - (0 + 1 + 1) = j * 2 + 1 by omega]
      exact h
/-- 'append(all, l...)' of entries: l is a piece of any row, or nothing. -/
theorem wpList_append_ents {w : World} {ops : Array Oper} {rest : List Oper} {o : Oper} {a : Act} {Q : Exit → Act → World → Prop} (hgd : o.guard = none) (s x : Operand)
    (ho : o.op = .call { callee := .builtin .append, args := #[s, x], argTypes := #[27, 27] })
    (base : Nat) (v : Value) (n : Nat) (xs : List Value) (hs : a.eval s = v) (hown : w.ownsRow base 37 2 v n xs) (pa : Option Addr) (m pc : Nat) (news : List Value) (hx : a.eval x = .slice pa m pc) (hn : news.length = m * 2)
    (hc : m ≠ 0 → ∃ ad, pa = some ad ∧ ∀ j u, news[j]? = some u → w.cell? (ad.add j) = some u) (h1 : ∀ u ∈ news, u.oneCell' = true) (hlen : n + m ≤ 1048576) (hbase : base ≤ w.heap.size)
    (h : ∀ a' c' w', w'.ownsRow base 37 2 (.slice a' (n + m) c') (n + m) (xs ++ news) → w.grownBy w' v.ownBlock → wpList Tryd.prog ops Q rest (a.put o.dst (.slice a' (n + m) c')) w') :
    wpList Tryd.prog ops Q (o :: rest) a w := by
  obtain ⟨i, hi, hz, hsz, hby⟩ := info_parts info160
  by_cases hm : m = 0
  · subst hm
    have hnil : news = [] := List.eq_nil_of_length_eq_zero (by omega)
    subst hnil
    obtain ⟨a', c', rfl⟩ := row_val hown
    have hle : n ≤ c' := by
      by_cases h0 : 0 < n
      · obtain ⟨_, _, e, h2, _⟩ := row_some hown h0
        cases e; exact h2
      · omega
    have hr : (Builtin.append_ #[27, 27] o.type #[.slice a' n c', .slice pa 0 pc]).run Tryd.prog w = .ok (.slice a' n c') w := by
      cases pa with
      | none => exact run_append_nothing (P := Tryd.prog) w 27 27 o.type 37 i Tryd.underlying27 hi a' n c' hle _ (Src.ofNil w Tryd.underlying27 pc)
      | some ad => exact run_append_nothing (P := Tryd.prog) w 27 27 o.type 37 i Tryd.underlying27 hi a' n c' hle _ (Src.ofSlice w Tryd.underlying27 ad 0 pc [] (by simp) (by simp) (by simp))
    refine wpList_plain hgd fun K hK => ?_
    unfold Oper.wp execOp
    simp only [ho, resolve, invoke, builtin, Sem.run_bind, Sem.run_pure, Result.andThen_ok, List.map_toArray, List.map_cons, List.map_nil, hs, hx, hr]
    have := h a' c' w (by rw [List.append_nil]; exact hown) (World.grownBy.refl _ _)
    exact hK _ _ this
  · obtain ⟨ad, rfl, hcell⟩ := hc hm
    refine wpList_append_own_at (P := Tryd.prog) _ hgd s x 27 ho base 37 i _ 2 48 Tryd.underlying27 hi hz hsz hby rfl (by decide) v n xs hs hown ad m pc news hx hn hcell h1 ?_ ?_ ?_ ?_
    · unfold maxLen; omega
    · omega
    · omega
    · intro v' w' h1 h2 _ h4
      obtain ⟨a', c', rfl⟩ := row_val h1
      exact h a' c' w' h1 h2
/-- Entries that are owned. -/
def NOwn (w : World) (base : Nat) (v : Value) (l : List Ent) : Prop := ∃ ps : List EV, w.ownsRow base 37 2 v ps.length (flatE ps) ∧ (∀ x ∈ ps, IOwn w base x.2.1 x.1.1 ∧ EOwn w base x.2.2 x.1.2) ∧ ps.map Prod.fst = l
theorem NOwn.go {w w' : World} {base : Nat} {v : Value} {l : List Ent} (h : NOwn w base v l) (hb : Below w.heap.size w w') : NOwn w' base v l := by
  obtain ⟨ps, h1, h2, h3⟩ := h
  exact ⟨ps, own_after h1 hb, fun x hx => ⟨own_after (h2 x hx).1 hb, own_after (h2 x hx).2 hb⟩, h3⟩
theorem NOwn.set {w : World} {base : Nat} {v : Value} {l : List Ent} (h : NOwn w base v l) {p : Addr} (hp : p.block < base) (u : Value) : NOwn (w.setCell p u) base v l := by
  obtain ⟨ps, h1, h2, h3⟩ := h
  exact ⟨ps, own_setCell h1 hp u, fun x hx => ⟨own_setCell (h2 x hx).1 hp u, own_setCell (h2 x hx).2 hp u⟩, h3⟩
/-- What Load keeps. -/
structure LE (w : World) (vl : Value) (C : List (List UInt8)) (l : List Ent) (vm : Value) (ps : List EV) (wr : World) : Prop where
  res : Blk wr w.heap.size 29 #[.slice none 0 0]
  box : Blk wr (w.heap.size + 1) 29 #[vm]
  lines : SOwn wr w.heap.size vl C
  ents : wr.ownsRow w.heap.size 37 2 vm ps.length (flatE ps)
  parts : ∀ x ∈ ps, IOwn wr w.heap.size x.2.1 x.1.1 ∧ EOwn wr w.heap.size x.2.2 x.1.2
  is : ps.map Prod.fst = l
  below : Below w.heap.size w wr
section
variable {w : World} {vl : Value} {C : List (List UInt8)} {l : List Ent} {vm : Value} {ps : List EV} {wr : World}
theorem LE.go (h : LE w vl C l vm ps wr) {w' : World} (hb : Below wr.heap.size wr w') : LE w vl C l vm ps w' where
  res := h.res.below hb h.res.lt
  box := h.box.below hb h.box.lt
  lines := own_after h.lines hb
  ents := own_after h.ents hb
  parts := fun x hx => ⟨own_after (h.parts x hx).1 hb, own_after (h.parts x hx).2 hb⟩
  is := h.is
  below := h.below.trans (hb.mono h.below.size)
theorem nin_of {W : World} {base : Nat} (h : W.ownsRow base 37 2 vm ps.length (flatE ps)) (hp : ∀ x ∈ ps, IOwn W base x.2.1 x.1.1 ∧ EOwn W base x.2.2 x.1.2) (hl : ps.map Prod.fst = l) : NIn W.heap.size W vm l := by
  have hll : l.length = ps.length := by rw [← hl, List.length_map]
  rcases h.2 with ⟨rfl, h0⟩ | ⟨g, cap, cur, rfl, hb, hg, hc, hm, hs, htk⟩
  · exact .inl ⟨_, _, rfl, List.eq_nil_of_length_eq_zero (by omega)⟩
  · refine .inr ⟨g, 0, cap, by rw [hll], (Array.getElem?_eq_some_iff.1 hg).1, fun j hj => ?_⟩
    have hjp : j < ps.length := by omega
    obtain ⟨f1, f2⟩ := flatE_at ps j hjp
    have hall : ∀ j u, (flatE ps)[j]? = some u → W.cell? ⟨g, j, none⟩ = some u := fun j u hu => by
      rw [← htk] at hu
      have hj := (List.getElem?_eq_some_iff.1 hu).1
      rw [List.getElem?_take_of_lt (by rw [List.length_take] at hj; omega)] at hu
      simp only [World.cell?, hg]
      simpa using hu
    have he : l[j] = (ps[j]).1 := by subst hl; simp
    obtain ⟨q1, q2⟩ := hp _ (List.getElem_mem hjp)
    refine ⟨(ps[j]).2.1, (ps[j]).2.2, by rw [Nat.zero_add]; exact hall _ _ f1, by rw [he]; exact q1.ints, by rw [Nat.zero_add]; exact hall _ _ f2, by rw [he]; exact q2.els⟩
theorem NOwn.min {W : World} {base : Nat} (h : NOwn W base vm l) : NIn W.heap.size W vm l := by
  obtain ⟨ps, h1, h2, h3⟩ := h
  exact nin_of h1 h2 h3
theorem LE.min (h : LE w vl C l vm ps wr) : NIn wr.heap.size wr vm l := nin_of h.ents h.parts h.is
theorem own_set65 {b1 : Nat} {e1 : TypeId} {s1 k1 : Nat} {v1 : Value} {x1 : List Value} {g : Nat} {u v : Value} (hbk : Blk wr g 29 #[u]) (ht : e1 ≠ 29) (h1 : wr.ownsRow b1 e1 s1 v1 k1 x1) : (wr.setCell ⟨g, 0, none⟩ v).ownsRow b1 e1 s1 v1 k1 x1 :=
  own_other h1 (fun g' hg => Below.heap_setCell wr ⟨g, 0, none⟩ _ g' (by
    intro e
    have e' : g' = g := e
    subst e'
    obtain ⟨_, c, f, q⟩ := own_ge h1 hg
    have := q.symm.trans hbk
    simp only [Option.some.injEq, Obj.cells.injEq] at this
    exact ht this.2.1))
/-- A row of entries of its own in the box. -/
theorem LE.put (h : LE w vl C l vm ps wr) {vm' : Value} {ps' : List EV} {l' : List Ent} {b : Nat} (hr : wr.ownsRow b 37 2 vm' ps'.length (flatE ps')) (hb : w.heap.size ≤ b) (hp : ∀ x ∈ ps', IOwn wr w.heap.size x.2.1 x.1.1 ∧ EOwn wr w.heap.size x.2.2 x.1.2) (hl : ps'.map Prod.fst = l') :
    LE w vl C l' vm' ps' (wr.setCell ⟨w.heap.size + 1, 0, none⟩ vm') := by
  refine ⟨(Below.heap_setCell wr ⟨w.heap.size + 1, 0, none⟩ _ w.heap.size (by show w.heap.size ≠ w.heap.size + 1; omega)).trans h.res, ?_, own_set65 h.box (by decide) h.lines, ownsRow_mono (own_set65 h.box (by decide) hr) hb, fun x hx => ⟨own_set65 h.box (by decide) (hp x hx).1, own_set65 h.box (by decide) (hp x hx).2⟩, hl, h.below.setCell (by show w.heap.size ≤ w.heap.size + 1; omega) _⟩
  have := h.box.set 0 vm'
  simpa using this
theorem LE.fin2 (h : LE w vl C l vm ps wr) (v : Value) : NOwn (wr.setCell ⟨w.heap.size, 0, none⟩ v) w.heap.size vm l :=
  ⟨ps, own_set65 h.res (by decide) h.ents, fun x hx => ⟨own_set65 h.res (by decide) (h.parts x hx).1, own_set65 h.res (by decide) (h.parts x hx).2⟩, h.is⟩
theorem LE.fin (h : LE w vl C l vm ps wr) (v : Value) : NIn (wr.setCell ⟨w.heap.size, 0, none⟩ v).heap.size (wr.setCell ⟨w.heap.size, 0, none⟩ v) vm l :=
  nin_of (own_set65 h.res (by decide) h.ents) (fun x hx => ⟨own_set65 h.res (by decide) (h.parts x hx).1, own_set65 h.res (by decide) (h.parts x hx).2⟩) h.is
end
theorem flatE_one {w : World} {base : Nat} {ps : List EV} (h : ∀ x ∈ ps, IOwn w base x.2.1 x.1.1 ∧ EOwn w base x.2.2 x.1.2) : ∀ u ∈ flatE ps, u.oneCell' = true := fun u hu => by
  obtain ⟨x, hx, hu⟩ := List.mem_flatMap.1 hu
  obtain ⟨a, c, e⟩ := (h x hx).1.val
  obtain ⟨a2, c2, e2, _⟩ := (h x hx).2.cap
  simp only [List.mem_cons, List.not_mem_nil, or_false] at hu
  rcases hu with rfl | rfl
  · rw [e]; rfl
  · rw [e2]; rfl
/-- The cells of the first entries of a row, and of those behind them. -/
theorem flatE_cells {w : World} {base n mc g : Nat} {ps : List EV} (h : w.ownsRow base 37 2 (.slice (some ⟨g, 0, none⟩) n mc) ps.length (flatE ps)) (k0 : Nat) (hk : k0 ≤ ps.length) :
    (∀ j u, (flatE (ps.take k0))[j]? = some u → w.cell? ((⟨g, 0, none⟩ : Addr).add j) = some u) ∧ (∀ j u, (flatE (ps.drop k0))[j]? = some u → w.cell? ((⟨g, k0 * 2, none⟩ : Addr).add j) = some u) ∧ base ≤ g ∧ g < w.heap.size ∧ ps.length ≤ mc := by
  rcases h.2 with ⟨e0, hz0⟩ | ⟨g', cap, cur, e, hb, hg, hc, hm, hs, htk⟩
  · cases e0
  · obtain ⟨e1, _, rfl⟩ := Value.slice.inj e
    cases e1
    have hall : ∀ j u, (flatE ps)[j]? = some u → w.cell? ⟨g, j, none⟩ = some u := fun j u hu => by
      rw [← htk] at hu
      have hj := (List.getElem?_eq_some_iff.1 hu).1
      rw [List.getElem?_take_of_lt (by rw [List.length_take] at hj; omega)] at hu
      simp only [World.cell?, hg]
      simpa using hu
    have hsp : flatE ps = flatE (ps.take k0) ++ flatE (ps.drop k0) := by rw [← flatE_append, List.take_append_drop]
    have hlt : (flatE (ps.take k0)).length = k0 * 2 := by rw [flatE_len, List.length_take]; omega
    refine ⟨fun j u hu => ?_, fun j u hu => ?_, hb, (Array.getElem?_eq_some_iff.1 hg).1, hc⟩
    · rw [Go.WideShapes.add_plain, Nat.zero_add]
      refine hall j u ?_
      rw [hsp, List.getElem?_append_left (List.getElem?_eq_some_iff.1 hu).1]
      exact hu
    · rw [show (⟨g, k0 * 2, none⟩ : Addr).add j = ⟨g, k0 * 2 + j, none⟩ by simp [Addr.add]]
      refine hall (k0 * 2 + j) u ?_
      rw [hsp, List.getElem?_append_right (by omega), hlt, Nat.add_sub_cancel_left]
      exact hu
theorem refLoad6_results {tmps : Array Value} {w : World} {h : Nat} {x a b : Value} (hb : Blk w h 29 #[x]) (t2 : tmps[2]?.getD undef = .pointer (some ⟨h, 0, none⟩)) (t3 : tmps[3]?.getD undef = a) (t4 : tmps[4]?.getD undef = b) :
    (results Tryd.f8 tmps).run Tryd.prog w = .ok (.tuple #[.agg #[x], a, b]) w := by
  have c0 : w.cell? ⟨h, 0, none⟩ = some x := hb.cell 0
  simp [results, Tryd.results8, go_sem, t2, t3, t4, c0]
end Go.Proofs.YtfeppbiodbhpcaaDoor
