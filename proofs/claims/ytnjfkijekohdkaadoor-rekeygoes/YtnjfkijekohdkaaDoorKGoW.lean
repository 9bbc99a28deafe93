/- The walk of RekeyGoes (contracts; nothing is claimed here). -/
import Derived.Test.YtnjfkijekohdkaaDoorKGoP
import Derived.Test.YtnjfkijekohdkaaDoorKVas
import Derived.Test.YtnjfkijekohdkaaDoorKSrA
import Derived.Test.YtnjfkijekohdkaaDoorKSrO
import Derived.Test.YtnjfkijekohdkaaDoorKTua
import Derived.Test.YtnjfkijekohdkaaDoorKAwk
import Derived.Test.YtnjfkijekohdkaaDoorRmay
namespace Go.Proofs.YtnjfkijekohdkaaDoor
open Go.RowKit Go.Vf

/-- What rekey.Map of any sources answers, as far as RekeyGoes looks. -/
def MbPost (l : List (Int × Prt)) (its : List Prt) (w : World) (e : Ending) (w' : World) : Prop := Below w.heap.size w w' ∧
  ((∃ F, e = .returned (.tuple #[.nilIface, .iface 67 (.pointer (some ⟨F, 0, none⟩))])) ∨
   (l.length ≤ 1024 ∧ ∃ (g : Nat) (qs : List Prt), ∃ hq : qs.length = l.length, (∀ j (hj : j < l.length), srcR its l[j] = some (qs[j]'(by omega))) ∧ e = .returned (.tuple #[.iface 83 (.pointer (some ⟨g, 0, none⟩)), .nilIface]) ∧ VIn w' 0 w'.heap.size (.iface 83 (.pointer (some ⟨g, 0, none⟩))) (tupP qs)))
theorem map_both (l : List (Int × Prt)) (its : List Prt) (hl : l.length ≤ 281474976710656) (hfit : ∀ s ∈ l, Fits s.2) (hits : ∀ x ∈ its, Good x) (hil : its.length ≤ 1024) (g : Nat) (a : Option Addr) (c n₀ : Nat) (en : Addr) (w : World) (hE : EnvK w en) (hn₀ : n₀ ≤ w.heap.size) (hin : SrIn w 0 n₀ a l) (hv : VIn w 0 n₀ (.iface 83 (.pointer (some ⟨g, 0, none⟩))) (tupP its)) :
    Calls Tryd.prog 12 #[.slice a l.length c, .iface 83 (.pointer (some ⟨g, 0, none⟩))] w (MbPost l its w) := by
  by_cases h : 1024 < l.length
  · refine (map_many g l.length a c w h hl).mono ?_
    rintro e w' ⟨v, rfl, ⟨F, rfl, _, _⟩, hb⟩
    exact ⟨hb, .inl ⟨F, rfl⟩⟩
  · obtain ⟨k0, qs, hk, hq, h1, h2⟩ := first_bad its l
    have hgood : k0 = l.length → depL qs + 1 ≤ 16 := fun e => by
      have : ∀ x ∈ qs, Good x := fun x hx => by
        obtain ⟨j, hj, rfl⟩ := List.mem_iff_getElem.1 hx
        exact src_good hits (hfit _ (List.getElem_mem (show j < l.length by omega))) (h1 j (by omega))
      have := depL_good this
      omega
    refine (map_any l its qs (by omega) k0 hk hq h1 h2 hfit hgood (by omega) g a c 0 n₀ en w hE hn₀ hin hv).mono ?_
    rintro e w' ⟨hb, ⟨e1, g', rfl, hv'⟩ | ⟨_, v, rfl, ⟨F, rfl, _, _⟩⟩⟩
    · subst e1
      exact ⟨hb, .inr ⟨by omega, g', qs, hq, h1, rfl, hv'⟩⟩
    · exact ⟨hb, .inl ⟨F, rfl⟩⟩
def zeroQ (s : Int × Prt) : SQ := (s, none, 0)
theorem allQ_succ (j : Nat) : (allS (j + 1)).map zeroQ = (allS j).map zeroQ ++ [(((j : Int), zeroP), none, 0)] := by
  simp [allS, List.range_succ, zeroQ]
theorem secQ_succ (ks : List Nat) (r : Nat) : (secS (ks ++ [r])).map zeroQ = (secS ks).map zeroQ ++ [(((r : Int), zeroP), none, 0)] := by
  simp [secS, zeroQ]
theorem both_succ (l : List (Int × Prt)) (ks : List Nat) (r : Nat) (hr : r < l.length) : bothS l (ks ++ [r]) = bothS l ks ++ [l[r]] := by
  simp [bothS, hr]
set_option maxHeartbeats 8000000 in
set_option maxRecDepth 30000 in
theorem goes_any (l : List (Int × Prt)) (m : List Int) (p : Prt) (hl : l.length ≤ 281474976710656) (hml : m.length ≤ 281474976710656) (hm : ∀ z ∈ m, -9223372036854775808 ≤ z ∧ z ≤ 9223372036854775807) (hf : Fits p) (hfl : ∀ s ∈ l, Fits s.2) (al am a : Option Addr) (cl cm c : Nat) (en : Addr) (w : World) (hE : EnvK w en) (hin : PIn w 0 w.heap.size p a) (hsr : SrIn w 0 w.heap.size al l) (hmi : InsIn w w.heap.size am m) :
    Calls Tryd.prog 5 #[.slice al l.length cl, .slice am m.length cm, .agg #[.int .u8 p.kind, .bool p.yes, .bool p.neg, .string p.mag, .string p.raw, .slice a p.items.length c]] w fun e w' => e = .returned (.bool true) ∧ Below w.heap.size w w' := by
  have hb1 := (Below.refl w.heap.size w).alloc (Nat.le_refl _) (.cells #[.int .u8 p.kind, .bool p.yes, .bool p.neg, .string p.mag, .string p.raw, .slice a p.items.length c] 29)
  have hB1 := Blk.new w 29 #[.int .u8 p.kind, .bool p.yes, .bool p.neg, .string p.mag, .string p.raw, .slice a p.items.length c]
  obtain ⟨w1, hw1⟩ : ∃ w1, w.alloc (.cells #[.int .u8 p.kind, .bool p.yes, .bool p.neg, .string p.mag, .string p.raw, .slice a p.items.length c] 29) = w1 := ⟨_, rfl⟩
  rw [hw1] at hb1 hB1
  have HIN : Hid (PIn w1 0 w.heap.size p a) := hin.keep hb1 (Nat.le_refl _)
  have HSR : Hid (SrIn w1 0 w.heap.size al l) := hsr.keep hb1 (Nat.le_refl _)
  have HMI : Hid (InsIn w1 w.heap.size am m) := hmi.keep hb1 (Nat.le_refl _)
  have HE : Hid (EnvK w1 en) := hE.old hE.two hb1
  have HM : Hid (∀ z ∈ m, -9223372036854775808 ≤ z ∧ z ≤ 9223372036854775807) := hm
  have HF : Hid (Fits p) := hf
  have HFL : Hid (∀ s ∈ l, Fits s.2) := hfl
  have HB1 : Hid (Blk w1 w.heap.size 29 #[.int .u8 p.kind, .bool p.yes, .bool p.neg, .string p.mag, .string p.raw, .slice a p.items.length c]) := hB1
  have hz1 : w.heap.size < w1.heap.size := hB1.lt
  have HW1 : Hid (Below w.heap.size w w1) := hb1
  have H7 : Hid (∀ w2, Below w1.heap.size w1 w2 → Calls Tryd.prog 7 #[.slice al l.length cl, .agg #[.int .u8 p.kind, .bool p.yes, .bool p.neg, .string p.mag, .string p.raw, .slice a p.items.length c]] w2 (SomeB w2)) := fun w2 h2 =>
    vast_any l p hl hf hfl al cl a c 0 w.heap.size w2 (Nat.le_trans (Nat.le_of_lt hz1) h2.size) (HIN.out.keep h2 (Nat.le_of_lt hz1)) (HSR.out.keep h2 (Nat.le_of_lt hz1))
  have H9 : Hid (∀ w2, Below w1.heap.size w1 w2 → Calls Tryd.prog 9 #[.agg #[.int .u8 p.kind, .bool p.yes, .bool p.neg, .string p.mag, .string p.raw, .slice a p.items.length c]] w2 fun e w' => e = .returned (.int .i64 (if deeper 16 p then 91 else if may p then 0 else 90)) ∧ Below w2.heap.size w2 w') := fun w2 h2 =>
    rmake_any p hf a c 0 w.heap.size w2 (Nat.le_trans (Nat.le_of_lt hz1) h2.size) (HIN.out.keep h2 (Nat.le_of_lt hz1))
  have H8 : Hid (∀ w2, Below w1.heap.size w1 w2 → Calls Tryd.prog 8 #[.agg #[.int .u8 p.kind, .bool p.yes, .bool p.neg, .string p.mag, .string p.raw, .slice a p.items.length c]] w2 fun e w' => Below w2.heap.size w2 w' ∧
      ((deeper 16 p = true ∧ e = .returned (.tuple #[.nilIface, .int .i64 91])) ∨ (deeper 16 p = false ∧ may p = false ∧ e = .returned (.tuple #[.nilIface, .int .i64 90])) ∨
        (deeper 16 p = false ∧ may p = true ∧ ∃ v, e = .returned (.tuple #[v, .int .i64 0]) ∧ VIn w' w2.heap.size w'.heap.size v p))) := fun w2 h2 =>
    make_any p hf a c 0 w.heap.size w2 (Nat.le_trans (Nat.le_of_lt hz1) h2.size) (HIN.out.keep h2 (Nat.le_of_lt hz1))
  obtain ⟨ll, hll⟩ : ∃ ll, l.length = ll := ⟨_, rfl⟩
  obtain ⟨ml, hmll⟩ : ∃ ml, m.length = ml := ⟨_, rfl⟩
  obtain ⟨ln, hln⟩ : ∃ ln, p.items.length = ln := ⟨_, rfl⟩
  have HLL : Hid (l.length = ll) := hll
  have HML : Hid (m.length = ml) := hmll
  have HLN : Hid (p.items.length = ln) := hln
  rw [hll] at hl H7
  rw [hmll] at hml
  rw [hln] at H7 H8 H9 HB1 hw1
  rw [hll, hmll, hln]
  obtain ⟨z9, hz9⟩ : ∃ z9 : Int, (if deeper 16 p then 91 else if may p then 0 else 90) = z9 := ⟨_, rfl⟩
  have HZ9 : Hid ((if deeper 16 p then (91 : Int) else if may p then 0 else 90) = z9) := hz9
  rw [hz9] at H9
  clear hin hsr hmi hE hm hf hfl hB1 hb1 hll hmll hln hz9
  have hc := awake_any w1
  go_enter Tryd.func5, Tryd.ntmps5
  go_upto_region 1 with fail
  (try rw [hw1])
  clear hw1
  go_wp2_with fail
  refine hc.mono ?_
  clear hc
  rintro _ w2 ⟨rfl, hb2⟩
  obtain ⟨c0, c1, c2, c3, c4, c5⟩ := (HB1.out.old hb2).c6
  have hc := H7.out w2 hb2
  have HW2 : Hid (Below w1.heap.size w1 w2) := hb2
  clear hb2 H7
  go_wp2_with fail
  refine hc.mono ?_
  clear hc c0 c1 c2 c3 c4 c5
  rintro _ w3 ⟨bb, rfl, hb3⟩
  have hb13 : Below w1.heap.size w1 w3 := HW2.out.trans (hb3.mono HW2.out.size)
  obtain ⟨c0, c1, c2, c3, c4, c5⟩ := (HB1.out.old hb13).c6
  have hc := H9.out w3 hb13
  have HW3 : Hid (Below w1.heap.size w1 w3) := hb13
  have HOK : Hid (∀ w', Below w1.heap.size w1 w' → Below w.heap.size w w') := fun w' h => HW1.out.trans (h.mono (Nat.le_of_lt hz1))
  clear hb3 hb13 H9 HW2
  cases bb with
  | true =>
    clear hc
    go_wp2_with fail
    go_ret
    exact ⟨rfl, HOK.out _ HW3⟩
  | false =>
  by_cases hm1 : (ml : Int) > 1000
  · have t1 : decide ((ml : Int) > 1000) = true := decide_eq_true hm1
    clear hc
    go_wp2_with fail
    go_ret
    exact ⟨rfl, HOK.out _ HW3⟩
  have t1 : decide ((ml : Int) > 1000) = false := decide_eq_false hm1
  go_wp2_with fail
  refine hc.mono ?_
  clear hc
  rintro _ w4 ⟨rfl, hb4⟩
  have hb14 : Below w1.heap.size w1 w4 := HW3.out.trans (hb4.mono HW3.out.size)
  clear c0 c1 c2 c3 c4 c5
  obtain ⟨c0, c1, c2, c3, c4, c5⟩ := (HB1.out.old hb14).c6
  have hc := H8.out w4 hb14
  have HW4 : Hid (Below w1.heap.size w1 w4) := hb14
  clear hb4 hb14 H8 HW3
  by_cases h90 : z9 = 0
  case neg =>
    have t2 : (z9 == 0) = false := beq_eq_false_iff_ne.2 h90
    have t2' : (z9 != 0) = true := by simp [bne, t2]
    clear hc
    go_wp2_with fail
    go_ret
    exact ⟨rfl, HOK.out _ HW4⟩
  subst h90
  by_cases hk7 : p.kind = 7
  case neg =>
    have t2 : (p.kind == 7) = false := beq_eq_false_iff_ne.2 hk7
    have t2' : (p.kind != 7) = true := by simp [bne, t2]
    clear hc
    go_wp2_with fail
    go_ret
    exact ⟨rfl, HOK.out _ HW4⟩
  have HK7 : Hid (p.kind = 7) := hk7
  have t2 : (p.kind == 7) = true := beq_iff_eq.2 hk7
  have t2' : (p.kind != 7) = false := by simp [bne, t2]
  clear hk7
  go_wp2_with fail
  refine hc.mono ?_
  clear hc c0 c1 c2 c3 c4 c5 t2 t2' t1
  have hdm : deeper 16 p = false ∧ may p = true := by
    have h := HZ9.out
    by_cases h1 : deeper 16 p = true
    · rw [if_pos h1] at h; cases h
    · rw [if_neg h1] at h
      by_cases h2 : may p = true
      · exact ⟨by simpa using h1, h2⟩
      · rw [if_neg h2] at h; cases h
  obtain ⟨its, hpi, hil, hgood⟩ := tup_good HF.out hdm.2 hdm.1 HK7.out
  have hlnl : its.length = ln := by rw [← HLN.out, hpi]; rfl
  have HGOOD : Hid (∀ x ∈ its, Good x) := hgood
  have HPI : Hid (p = tupP its) := hpi
  have HIL : Hid (its.length = ln) := hlnl
  have hln : ln ≤ 1024 := by omega
  have HDM : Hid (deeper 16 p = false ∧ may p = true) := hdm
  clear hpi hil hgood hlnl hdm HZ9
  rintro e w5 ⟨hb5, h5⟩
  obtain ⟨g, rfl, hv5⟩ : ∃ g, e = .returned (.tuple #[.iface 83 (.pointer (some ⟨g, 0, none⟩)), .int .i64 0]) ∧ VIn w5 0 w5.heap.size (.iface 83 (.pointer (some ⟨g, 0, none⟩))) (tupP its) := by
    rcases h5 with ⟨h, _⟩ | ⟨_, h, _⟩ | ⟨_, _, v, e1, hv⟩
    · rw [HDM.out.1] at h; cases h
    · rw [HDM.out.2] at h; cases h
    · rw [HPI.out] at hv
      obtain ⟨g, rfl⟩ := tup_val hv
      exact ⟨g, e1, hv.mono (Nat.le_refl _) (Nat.zero_le _)⟩
  have HW5 : Hid (Below w1.heap.size w1 w5) := HW4.out.trans (hb5.mono HW4.out.size)
  have HV5 : Hid (VIn w5 0 w5.heap.size (.iface 83 (.pointer (some ⟨g, 0, none⟩))) (tupP its)) := hv5
  clear h5 hb5 hv5 HW4 HDM
  go_wp2_with fail
  have hz15 := HW5.out.size
  go_loopw [11, 12] (fun av iv wr => ∃ (j : Nat), j ≤ ln ∧ iv = .int .i64 (j : Int) ∧ (∃ aa cc, av = .slice aa j cc) ∧ Hid (SRow wr w5.heap.size w5.heap.size av ((allS j).map zeroQ)) ∧ Hid (Below w5.heap.size w5 wr)) (fun _ iv _ => ln - (intOf iv).toNat)
  case atStart => exact ⟨0, Nat.zero_le _, rfl, ⟨none, 0, rfl⟩, SRow.nil _ _ _, Below.refl _ _⟩
  case round =>
    obtain ⟨j, hj, rfl, ⟨aa, cc, rfl⟩, HR, HBr⟩ := hrel
    have hb1r : Below w1.heap.size w1 wr := HW5.out.trans (HBr.out.mono hz15)
    have c5 : wr.cell? ⟨w.heap.size, 5, none⟩ = some (.slice a ln c) := (HB1.out.old hb1r).cell 5
    have hzr := HBr.out.size
    clear hb1r
    by_cases hlt : j < ln
    · have t1 : decide ((j : Int) < (ln : Int)) = true := decide_eq_true (by omega)
      have t2 : decide (j < ln) = true := decide_eq_true hlt
      go_wp2_with (first | (at_builtin; refine wpList_append_src rfl _ _ rfl w5.heap.size w5.heap.size _ ((allS j).map zeroQ) rfl HR.out (((j : Int), zeroP), none, 0) (.nil rfl) rfl (by rw [List.length_map, allS_len]; omega) (Nat.le_refl _) hzr ?_; intro v7 w7 hS7 hB7 _ _; obtain ⟨a7, c7, hv7⟩ := hS7.form; subst hv7))
      have HS7 : Hid (SRow w7 w5.heap.size w5.heap.size (.slice a7 ((allS j).length + 1) c7) ((allS (j + 1)).map zeroQ)) := by
        rw [allQ_succ]
        rw [List.length_append, List.length_map] at hS7
        exact hS7
      have HB7 : Hid (Below w5.heap.size w5 w7) := HBr.out.trans hB7
      clear hS7 hB7
      go_roundw
      case rel => exact ⟨j + 1, by omega, by simp, ⟨a7, c7, by rw [allS_len]⟩, HS7, HB7⟩
      case measure => simp only [intOf]; omega
    · have t1 : decide ((j : Int) < (ln : Int)) = false := decide_eq_false (by omega)
      have t2 : decide (j < ln) = false := decide_eq_false hlt
      obtain rfl : j = ln := by omega
      have hv6 := HV5.out.old HBr.out (Nat.le_refl _)
      have hc := map_ok (allS its.length) its its (by rw [allS_len, HIL.out]; exact hln) (by rw [allS_len]) (allS_src its) (allS_fit _) (by have := depL_good HGOOD.out; omega) (by rw [HIL.out]; omega) g aa cc 0 wr.heap.size wr (Nat.le_refl _) (by
        have := HR.out.src hzr
        rw [List.map_map, show ((fun x : SQ => x.1) ∘ zeroQ) = id from rfl, List.map_id] at this
        rw [HIL.out]
        exact this) (hv6.mono hzr (Nat.le_refl _))
      rw [allS_len, HIL.out] at hc
      have HW6 : Hid (Below w1.heap.size w1 wr) := HW5.out.trans (HBr.out.mono hz15)
      have HV6 : Hid (VIn wr 0 w5.heap.size (.iface 83 (.pointer (some ⟨g, 0, none⟩))) (tupP its)) := hv6
      clear hv6 HR HBr HV5 HW5
      go_wp2_with fail
      refine hc.mono ?_
      clear hc t1 t2 c5
      rintro _ w7 ⟨g7, rfl, hb7, hv7⟩
      have hf7 : Fits (tupP its) := good_fits HGOOD.out (by rw [HIL.out]; exact hln)
      have hv67 := HV6.out.old hb7 hzr
      have hc := Same_any (tupP its) (tupP its) hf7 hf7 _ _ 0 w7.heap.size 0 w5.heap.size w7 (Nat.le_refl _) (Nat.le_trans hzr hb7.size) hv7 hv67
      rw [eqP_self] at hc
      have HW7 : Hid (Below w1.heap.size w1 w7) := HW6.out.trans (hb7.mono HW6.out.size)
      have HV7 : Hid (VIn w7 0 w5.heap.size (.iface 83 (.pointer (some ⟨g, 0, none⟩))) (tupP its)) := hv67
      have hz7 : w5.heap.size ≤ w7.heap.size := Nat.le_trans hzr hb7.size
      clear hb7 hv7 hf7 hv67 HV6 HW6
      go_wp2_with fail
      refine hc.mono ?_
      clear hc
      rintro _ w8 ⟨rfl, hb8⟩
      have HW8 : Hid (Below w1.heap.size w1 w8) := HW7.out.trans (hb8.mono HW7.out.size)
      have HV8 : Hid (VIn w8 0 w5.heap.size (.iface 83 (.pointer (some ⟨g, 0, none⟩))) (tupP its)) := HV7.out.old hb8 hz7
      have hz8 : w5.heap.size ≤ w8.heap.size := Nat.le_trans hz7 hb8.size
      have hc := map_both l its (by rw [HLL.out]; exact hl) HFL.out HGOOD.out (by rw [HIL.out]; exact hln) g al cl w5.heap.size en w8 (HE.out.old HE.out.two HW8.out) hz8 (by
        intro q hq
        obtain ⟨b, off, aj, cj, e1, e2, r0, r1, r2, r3, r4, r5, r6, r7⟩ := HSR.out.keep HW8.out (Nat.le_of_lt hz1) q hq
        exact ⟨b, off, aj, cj, e1, by omega, r0, r1, r2, r3, r4, r5, r6, r7.mono (by omega) (Nat.le_refl _)⟩) HV8.out
      rw [HLL.out] at hc
      clear hb8 HV7 HW7
      go_wp2_with fail
      refine hc.mono ?_
      clear hc
      rintro e w9 ⟨hb9, ⟨F, rfl⟩ | ⟨hl10, g9, qs, hq, hsr9, rfl, hv9⟩⟩
      · have HW9 : Hid (Below w1.heap.size w1 w9) := HW8.out.trans (hb9.mono HW8.out.size)
        clear hb9
        go_wp2_with fail
        go_ret
        exact ⟨rfl, HOK.out _ HW9⟩
      have HW9 : Hid (Below w1.heap.size w1 w9) := HW8.out.trans (hb9.mono HW8.out.size)
      have HV9 : Hid (VIn w9 0 w5.heap.size (.iface 83 (.pointer (some ⟨g, 0, none⟩))) (tupP its)) := HV8.out.old hb9 hz8
      have hz9 : w5.heap.size ≤ w9.heap.size := Nat.le_trans hz8 hb9.size
      have HQ : Hid (qs.length = l.length) := hq
      have HS9 : Hid (∀ j (hj : j < l.length), srcR its l[j] = some (qs[j]'(by omega))) := hsr9
      have HU9 : Hid (VIn w9 0 w9.heap.size (.iface 83 (.pointer (some ⟨g9, 0, none⟩))) (tupP qs)) := hv9
      have hl9 : ll ≤ 1024 := by rw [← HLL.out]; exact hl10
      have HQG : Hid (∀ x ∈ qs, Good x) := fun x hx => by
        obtain ⟨j, hj, rfl⟩ := List.mem_iff_getElem.1 hx
        have hj' : j < l.length := by rw [← hq]; exact hj
        exact src_good HGOOD.out (HFL.out _ (List.getElem_mem hj')) (hsr9 j hj')
      clear hb9 hsr9 hv9 HV8 HW8 hl10
      go_wp2_with fail
      go_loopw [18, 19, 20, 21] (fun sv bv iv _ wr => ∃ (j : Nat) (ks : List Nat) (qb : List SQ), j ≤ ml ∧ iv = .int .i64 (j : Int) ∧ (∃ aa cc, sv = .slice aa j cc) ∧ (∃ aa cc, bv = .slice aa j cc) ∧ Hid (ks.length = j) ∧ Hid (∀ k ∈ ks, k < l.length) ∧ Hid (qb.map (·.1) = bothS l ks) ∧ Hid (SRow wr w9.heap.size w9.heap.size sv ((secS ks).map zeroQ)) ∧ Hid (SRow wr w9.heap.size w9.heap.size bv qb) ∧ Hid (∀ k, sv.ownBlock = some k → bv.ownBlock ≠ some k) ∧ Hid (Below w9.heap.size w9 wr)) (fun _ _ iv _ _ => ml - (intOf iv).toNat)
      case atStart => exact ⟨0, [], [], Nat.zero_le _, rfl, ⟨none, 0, rfl⟩, ⟨none, 0, rfl⟩, rfl, (fun k hk => by cases hk), rfl, SRow.nil _ _ _, SRow.nil _ _ _, (fun k hk => by cases hk), Below.refl _ _⟩
      case round =>
        obtain ⟨j, ks, qb, hj, rfl, ⟨sa, sc, rfl⟩, ⟨ba, bc, rfl⟩, HKL, HKS, HQB, HRS, HRB, HNE, HBr⟩ := hrel
        have hzr := HBr.out.size
        have hz19 := HW9.out.size
        have HWr : Hid (Below w1.heap.size w1 wr) := HW9.out.trans (HBr.out.mono hz19)
        have hkl : ks.length = j := HKL.out
        have hqbl : qb.length = j := by
          have := congrArg List.length HQB.out
          rw [List.length_map, bothS_len] at this
          omega
        have HQL : Hid (qb.length = j) := hqbl
        clear hqbl
        by_cases hlt : j < ml
        case neg =>
          have t1 : decide ((j : Int) < (ml : Int)) = false := decide_eq_false (by omega)
          have t2 : decide (j < ml) = false := decide_eq_false hlt
          have hU := HU9.out.old HBr.out (Nat.le_refl _)
          have hc := tell_any (tupP qs) (good_may HQG.out (by rw [HQ.out, HLL.out]; exact hl9)) _ 0 w9.heap.size wr hzr hU
          have HU : Hid (VIn wr 0 w9.heap.size (.iface 83 (.pointer (some ⟨g9, 0, none⟩))) (tupP qs)) := hU
          have HVr : Hid (VIn wr 0 w9.heap.size (.iface 83 (.pointer (some ⟨g, 0, none⟩))) (tupP its)) := (HV9.out.mono hz9 (Nat.le_refl _)).old HBr.out (Nat.le_refl _)
          clear hU
          go_wp2_with fail
          refine hc.mono ?_
          clear hc
          rintro _ wt ⟨ta, tc, rfl, hpt, hbt⟩
          have hc := weight_any (tupP qs) (good_fits HQG.out (by rw [HQ.out, HLL.out]; exact hl9)) ta tc wr.heap.size wt.heap.size wt (Nat.le_refl _) hpt
          rw [show pV (tupP qs) ta tc = .agg #[.int .u8 (tupP qs).kind, .bool (tupP qs).yes, .bool (tupP qs).neg, .string (tupP qs).mag, .string (tupP qs).raw, .slice ta (tupP qs).items.length tc] from rfl]
          have HBt : Hid (Below wr.heap.size wr wt) := hbt
          clear hpt hbt
          generalize (tupP qs).kind = pk at hc ⊢
          generalize (tupP qs).yes = py at hc ⊢
          generalize (tupP qs).neg = pn at hc ⊢
          generalize (tupP qs).mag = pm at hc ⊢
          generalize (tupP qs).raw = pr at hc ⊢
          generalize (tupP qs).items.length = pl at hc ⊢
          go_wp2_with fail
          refine hc.mono ?_
          clear hc
          rintro _ wu ⟨d, rfl, hbu⟩
          have HBu : Hid (Below wr.heap.size wr wu) := HBt.out.trans (hbu.mono HBt.out.size)
          have HWu : Hid (Below w1.heap.size w1 wu) := HWr.out.trans (HBu.out.mono HWr.out.size)
          clear hbu HBt
          by_cases hzz : wrap64 ((j : Int) * d) > 67108864
          · have t9 : decide (wrap64 ((j : Int) * d) > 67108864) = true := decide_eq_true hzz
            go_wp2_with fail
            go_ret
            exact ⟨rfl, HOK.out _ HWu⟩
          have t9 : decide (wrap64 ((j : Int) * d) > 67108864) = false := decide_eq_false hzz
          have hzu := HBu.out.size
          have hzru : w9.heap.size ≤ wu.heap.size := Nat.le_trans hzr hzu
          have hjm0 : ml ≤ 1000 := by omega
          have hc := map_ok (secS ks) qs (pickP qs ks) (by rw [secS_len, hkl]; omega) (by rw [secS_len, pick_len]) (secS_src (fun k hk => by rw [HQ.out]; exact HKS.out k hk)) (secS_fit ks) (by have := depL_good (pick_good (ks := ks) HQG.out (fun k hk => by rw [HQ.out]; exact HKS.out k hk)); omega) (by rw [HQ.out, HLL.out]; omega) g9 sa sc 0 wu.heap.size wu (Nat.le_refl _) (by
            have := (HRS.out.keep HBu.out hzr).src hzru
            rw [List.map_map, show ((fun x : SQ => x.1) ∘ zeroQ) = id from rfl, List.map_id] at this
            exact this) ((HU.out.old HBu.out hzr).mono hzru (Nat.le_refl _))
          rw [secS_len, hkl] at hc
          have HVu : Hid (VIn wu 0 w9.heap.size (.iface 83 (.pointer (some ⟨g, 0, none⟩))) (tupP its)) := HVr.out.old HBu.out hzr
          have HRBu : Hid (SRow wu w9.heap.size w9.heap.size (.slice ba j bc) qb) := HRB.out.keep HBu.out hzr
          clear HRS HU HVr HRB HBu HBr HNE HWr
          go_wp2_with fail
          refine hc.mono ?_
          clear hc
          rintro _ wx ⟨gx, rfl, hbx, hvx⟩
          have hzx := hbx.size
          have hzx9 : w9.heap.size ≤ wx.heap.size := Nat.le_trans hzru hzx
          have hc := map_ok (bothS l ks) its (pickP qs ks) (by rw [bothS_len, hkl]; omega) (by rw [bothS_len, pick_len]) (bothS_src HQ.out HS9.out HKS.out) (bothS_fit HFL.out HKS.out) (by have := depL_good (pick_good (ks := ks) HQG.out (fun k hk => by rw [HQ.out]; exact HKS.out k hk)); omega) (by rw [HIL.out]; omega) g ba bc 0 wx.heap.size wx (Nat.le_refl _) (by
            have := (HRBu.out.keep hbx hzru).src hzx9
            rw [HQB.out] at this
            exact this) ((HVu.out.old hbx hzru).mono hzx9 (Nat.le_refl _))
          rw [bothS_len, hkl] at hc
          have HWx : Hid (Below w1.heap.size w1 wx) := HWu.out.trans (hbx.mono HWu.out.size)
          have HVx : Hid (VIn wx 0 wx.heap.size (.iface 83 (.pointer (some ⟨gx, 0, none⟩))) (tupP (pickP qs ks))) := hvx
          clear hbx hvx HRBu HVu HWu
          go_wp2_with fail
          refine hc.mono ?_
          clear hc
          rintro _ wy ⟨gy, rfl, hby, hvy⟩
          have hfy : Fits (tupP (pickP qs ks)) := good_fits (pick_good (ks := ks) HQG.out (fun k hk => by rw [HQ.out]; exact HKS.out k hk)) (by rw [pick_len, hkl]; omega)
          have hc := Same_any _ _ hfy hfy _ _ 0 wx.heap.size 0 wy.heap.size wy hby.size (Nat.le_refl _) (HVx.out.old hby (Nat.le_refl _)) hvy
          rw [eqP_self] at hc
          have HWy : Hid (Below w1.heap.size w1 wy) := HWx.out.trans (hby.mono HWx.out.size)
          clear hby hvy hfy HVx HWx
          go_wp2_with fail
          refine hc.mono ?_
          clear hc
          rintro _ wz ⟨rfl, hbz⟩
          have HWz : Hid (Below w1.heap.size w1 wz) := HWy.out.trans (hbz.mono HWy.out.size)
          clear hbz
          go_wp2_with fail
          go_ret
          exact ⟨rfl, HOK.out _ HWz⟩
        by_cases hl0 : ll = 0
        · have t1 : decide ((j : Int) < (ml : Int)) = true := decide_eq_true (by omega)
          have t2 : decide (j < ml) = true := decide_eq_true hlt
          have t3 : decide ((ll : Int) > 0) = false := decide_eq_false (by omega)
          have hU := HU9.out.old HBr.out (Nat.le_refl _)
          have hc := tell_any (tupP qs) (good_may HQG.out (by rw [HQ.out, HLL.out]; exact hl9)) _ 0 w9.heap.size wr hzr hU
          have HU : Hid (VIn wr 0 w9.heap.size (.iface 83 (.pointer (some ⟨g9, 0, none⟩))) (tupP qs)) := hU
          have HVr : Hid (VIn wr 0 w9.heap.size (.iface 83 (.pointer (some ⟨g, 0, none⟩))) (tupP its)) := (HV9.out.mono hz9 (Nat.le_refl _)).old HBr.out (Nat.le_refl _)
          clear hU
          go_wp2_with fail
          refine hc.mono ?_
          clear hc
          rintro _ wt ⟨ta, tc, rfl, hpt, hbt⟩
          have hc := weight_any (tupP qs) (good_fits HQG.out (by rw [HQ.out, HLL.out]; exact hl9)) ta tc wr.heap.size wt.heap.size wt (Nat.le_refl _) hpt
          rw [show pV (tupP qs) ta tc = .agg #[.int .u8 (tupP qs).kind, .bool (tupP qs).yes, .bool (tupP qs).neg, .string (tupP qs).mag, .string (tupP qs).raw, .slice ta (tupP qs).items.length tc] from rfl]
          have HBt : Hid (Below wr.heap.size wr wt) := hbt
          clear hpt hbt
          generalize (tupP qs).kind = pk at hc ⊢
          generalize (tupP qs).yes = py at hc ⊢
          generalize (tupP qs).neg = pn at hc ⊢
          generalize (tupP qs).mag = pm at hc ⊢
          generalize (tupP qs).raw = pr at hc ⊢
          generalize (tupP qs).items.length = pl at hc ⊢
          go_wp2_with fail
          refine hc.mono ?_
          clear hc
          rintro _ wu ⟨d, rfl, hbu⟩
          have HBu : Hid (Below wr.heap.size wr wu) := HBt.out.trans (hbu.mono HBt.out.size)
          have HWu : Hid (Below w1.heap.size w1 wu) := HWr.out.trans (HBu.out.mono HWr.out.size)
          clear hbu HBt
          by_cases hzz : wrap64 ((j : Int) * d) > 67108864
          · have t9 : decide (wrap64 ((j : Int) * d) > 67108864) = true := decide_eq_true hzz
            go_wp2_with fail
            go_ret
            exact ⟨rfl, HOK.out _ HWu⟩
          have t9 : decide (wrap64 ((j : Int) * d) > 67108864) = false := decide_eq_false hzz
          have hzu := HBu.out.size
          have hzru : w9.heap.size ≤ wu.heap.size := Nat.le_trans hzr hzu
          have hjm0 : ml ≤ 1000 := by omega
          have hc := map_ok (secS ks) qs (pickP qs ks) (by rw [secS_len, hkl]; omega) (by rw [secS_len, pick_len]) (secS_src (fun k hk => by rw [HQ.out]; exact HKS.out k hk)) (secS_fit ks) (by have := depL_good (pick_good (ks := ks) HQG.out (fun k hk => by rw [HQ.out]; exact HKS.out k hk)); omega) (by rw [HQ.out, HLL.out]; omega) g9 sa sc 0 wu.heap.size wu (Nat.le_refl _) (by
            have := (HRS.out.keep HBu.out hzr).src hzru
            rw [List.map_map, show ((fun x : SQ => x.1) ∘ zeroQ) = id from rfl, List.map_id] at this
            exact this) ((HU.out.old HBu.out hzr).mono hzru (Nat.le_refl _))
          rw [secS_len, hkl] at hc
          have HVu : Hid (VIn wu 0 w9.heap.size (.iface 83 (.pointer (some ⟨g, 0, none⟩))) (tupP its)) := HVr.out.old HBu.out hzr
          have HRBu : Hid (SRow wu w9.heap.size w9.heap.size (.slice ba j bc) qb) := HRB.out.keep HBu.out hzr
          clear HRS HU HVr HRB HBu HBr HNE HWr
          go_wp2_with fail
          refine hc.mono ?_
          clear hc
          rintro _ wx ⟨gx, rfl, hbx, hvx⟩
          have hzx := hbx.size
          have hzx9 : w9.heap.size ≤ wx.heap.size := Nat.le_trans hzru hzx
          have hc := map_ok (bothS l ks) its (pickP qs ks) (by rw [bothS_len, hkl]; omega) (by rw [bothS_len, pick_len]) (bothS_src HQ.out HS9.out HKS.out) (bothS_fit HFL.out HKS.out) (by have := depL_good (pick_good (ks := ks) HQG.out (fun k hk => by rw [HQ.out]; exact HKS.out k hk)); omega) (by rw [HIL.out]; omega) g ba bc 0 wx.heap.size wx (Nat.le_refl _) (by
            have := (HRBu.out.keep hbx hzru).src hzx9
            rw [HQB.out] at this
            exact this) ((HVu.out.old hbx hzru).mono hzx9 (Nat.le_refl _))
          rw [bothS_len, hkl] at hc
          have HWx : Hid (Below w1.heap.size w1 wx) := HWu.out.trans (hbx.mono HWu.out.size)
          have HVx : Hid (VIn wx 0 wx.heap.size (.iface 83 (.pointer (some ⟨gx, 0, none⟩))) (tupP (pickP qs ks))) := hvx
          clear hbx hvx HRBu HVu HWu
          go_wp2_with fail
          refine hc.mono ?_
          clear hc
          rintro _ wy ⟨gy, rfl, hby, hvy⟩
          have hfy : Fits (tupP (pickP qs ks)) := good_fits (pick_good (ks := ks) HQG.out (fun k hk => by rw [HQ.out]; exact HKS.out k hk)) (by rw [pick_len, hkl]; omega)
          have hc := Same_any _ _ hfy hfy _ _ 0 wx.heap.size 0 wy.heap.size wy hby.size (Nat.le_refl _) (HVx.out.old hby (Nat.le_refl _)) hvy
          rw [eqP_self] at hc
          have HWy : Hid (Below w1.heap.size w1 wy) := HWx.out.trans (hby.mono HWx.out.size)
          clear hby hvy hfy HVx HWx
          go_wp2_with fail
          refine hc.mono ?_
          clear hc
          rintro _ wz ⟨rfl, hbz⟩
          have HWz : Hid (Below w1.heap.size w1 wz) := HWy.out.trans (hbz.mono HWy.out.size)
          clear hbz
          go_wp2_with fail
          go_ret
          exact ⟨rfl, HOK.out _ HWz⟩
        have t1 : decide ((j : Int) < (ml : Int)) = true := decide_eq_true (by omega)
        have t2 : decide (j < ml) = true := decide_eq_true hlt
        have t3 : decide ((ll : Int) > 0) = true := decide_eq_true (by omega)
        have hjm : j < m.length := by rw [HML.out]; exact hlt
        obtain ⟨b, off, ea, hbn, hcell⟩ := HMI.out.keep HWr.out (Nat.le_of_lt hz1) j hjm
        subst ea
        have hbd := HM.out m[j] (List.getElem_mem hjm)
        generalize m[j] = z at hcell hbd
        have hll0 : (ll : Int) ≠ 0 := by omega
        by_cases hzn : z < 0
        · have t4 : decide (z < 0) = true := decide_eq_true hzn
          go_upto_region 26 with fail
          obtain ⟨k, hk⟩ : ∃ k : Nat, -(z + 1) = (k : Int) := ⟨(-(z + 1)).toNat, by omega⟩
          rw [hk]
          clear hk
          clear hzn t4 hbd hcell hbn
          obtain ⟨r, hr⟩ : ∃ r, k % ll = r := ⟨_, rfl⟩
          have hrl : r < ll := by rw [← hr]; exact Nat.mod_lt _ (by omega)
          have ht : Int.tmod (k : Int) (ll : Int) = (r : Int) := by rw [← hr]; exact (Int.ofNat_tmod k ll).symm
          clear hr
          have hrl2 : r < l.length := by rw [HLL.out]; exact hrl
          have HRL : Hid (r < l.length) := hrl2
          clear hrl2
          go_upto_region 27 with (first | (at_builtin; refine wpList_append_src rfl _ _ rfl w9.heap.size w9.heap.size _ ((secS ks).map zeroQ) rfl HRS.out (((r : Int), zeroP), none, 0) (.nil rfl) rfl (by rw [List.length_map, secS_len, hkl]; omega) (Nat.le_refl _) hzr ?_; intro v6 w6 hS6 hB6 hO6 hA6; obtain ⟨a6, c6, hv6⟩ := hS6.form; rw [List.length_append, List.length_map, secS_len, hkl, List.length_singleton] at hv6; subst hv6))
          have HS6 : Hid (SRow w6 w9.heap.size w9.heap.size (.slice a6 (j + 1) c6) ((secS (ks ++ [r])).map zeroQ)) := by
            rw [secQ_succ]
            exact hS6
          have HRB6 : Hid (SRow w6 w9.heap.size w9.heap.size (.slice ba j bc) qb) := HRB.out.beside (u := .slice sa j sc) hB6 (Nat.le_refl _) hO6 (fun k hk e => HNE.out k e hk)
          have HNE6 : Hid (∀ k, (Value.slice a6 (j + 1) c6).ownBlock = some k → (Value.slice ba j bc).ownBlock ≠ some k) := fun k hk e => by
            rcases hA6 with h | ⟨k', h, hge⟩
            · exact HNE.out k (h.symm.trans hk) e
            · have := (HRB.out.lt k e).2
              rw [hk] at h
              cases h
              omega
          have HB6 : Hid (Below w9.heap.size w9 w6) := HBr.out.trans hB6
          have hz6 : w9.heap.size ≤ w6.heap.size := Nat.le_trans hzr hB6.size
          have HW6 : Hid (Below w1.heap.size w1 w6) := HW9.out.trans (HB6.out.mono hz19)
          clear hS6 hB6 hO6 hA6 HRS HRB HNE HBr HWr
          obtain ⟨b2, off2, aj, cj, ea, hb2n, r0, r1, r2, r3, r4, r5, r6, hp⟩ := HSR.out.keep HW6.out (Nat.le_of_lt hz1) r HRL.out
          have hbs : bothS l (ks ++ [r]) = bothS l ks ++ [l[r]'HRL.out] := both_succ l ks r HRL.out
          generalize l[r]'HRL.out = sx at r0 r1 r2 r3 r4 r5 r6 hp hbs
          have HBS : Hid (bothS l (ks ++ [r]) = bothS l ks ++ [sx]) := hbs
          have HP2 : Hid (PIn w6 0 w9.heap.size sx.2 aj) := hp.mono (by omega) (Nat.le_refl _)
          clear hbs hp
          subst ea
          have hri : (r : Int) < (ll : Int) := by omega
          go_wp2_with (first | (at_builtin; refine wpList_append_src rfl _ _ rfl w9.heap.size w9.heap.size _ qb rfl HRB6.out (sx, aj, cj) HP2.out rfl (by rw [HQL.out]; omega) (Nat.le_refl _) hz6 ?_; intro v7 w7 hS7 hB7 hO7 hA7; obtain ⟨a7, c7, hv7⟩ := hS7.form; rw [List.length_append, HQL.out, List.length_singleton] at hv7; subst hv7))
          have HS7 : Hid (SRow w7 w9.heap.size w9.heap.size (.slice a7 (j + 1) c7) (qb ++ [(sx, aj, cj)])) := hS7
          have HS67 : Hid (SRow w7 w9.heap.size w9.heap.size (.slice a6 (j + 1) c6) ((secS (ks ++ [r])).map zeroQ)) := HS6.out.beside (u := .slice ba j bc) hB7 (Nat.le_refl _) hO7 HNE6.out
          have HNE7 : Hid (∀ k, (Value.slice a6 (j + 1) c6).ownBlock = some k → (Value.slice a7 (j + 1) c7).ownBlock ≠ some k) := fun k hk e => by
            rcases hA7 with h | ⟨k', h, hge⟩
            · exact HNE6.out k hk (h.symm.trans e)
            · have := (HS6.out.lt k hk).2
              rw [e] at h
              cases h
              omega
          have HB7 : Hid (Below w9.heap.size w9 w7) := HB6.out.trans hB7
          clear hS7 hB7 hO7 hA7 r0 r1 r2 r3 r4 r5 r6
          go_roundw
          case rel =>
            refine ⟨j + 1, ks ++ [r], qb ++ [(sx, aj, cj)], by omega, by simp, ⟨a6, c6, rfl⟩, ⟨a7, c7, rfl⟩, ?_, ?_, ?_, HS67, HS7, HNE7, HB7⟩
            · show _ = _
              rw [List.length_append, hkl]
              rfl
            · intro k hk
              rcases List.mem_append.1 hk with h | h
              · exact HKS.out k h
              · rw [List.mem_singleton] at h
                subst h
                exact HRL.out
            · show _ = _
              rw [HBS.out, List.map_append, HQB.out]
              rfl
          case measure => simp only [intOf]; omega
        · have t4 : decide (z < 0) = false := decide_eq_false hzn
          go_upto_region 26 with fail
          obtain ⟨k, rfl⟩ : ∃ k : Nat, z = (k : Int) := ⟨z.toNat, by omega⟩
          clear hzn t4 hbd hcell hbn
          obtain ⟨r, hr⟩ : ∃ r, k % ll = r := ⟨_, rfl⟩
          have hrl : r < ll := by rw [← hr]; exact Nat.mod_lt _ (by omega)
          have ht : Int.tmod (k : Int) (ll : Int) = (r : Int) := by rw [← hr]; exact (Int.ofNat_tmod k ll).symm
          clear hr
          have hrl2 : r < l.length := by rw [HLL.out]; exact hrl
          have HRL : Hid (r < l.length) := hrl2
          clear hrl2
          go_upto_region 27 with (first | (at_builtin; refine wpList_append_src rfl _ _ rfl w9.heap.size w9.heap.size _ ((secS ks).map zeroQ) rfl HRS.out (((r : Int), zeroP), none, 0) (.nil rfl) rfl (by rw [List.length_map, secS_len, hkl]; omega) (Nat.le_refl _) hzr ?_; intro v6 w6 hS6 hB6 hO6 hA6; obtain ⟨a6, c6, hv6⟩ := hS6.form; rw [List.length_append, List.length_map, secS_len, hkl, List.length_singleton] at hv6; subst hv6))
          have HS6 : Hid (SRow w6 w9.heap.size w9.heap.size (.slice a6 (j + 1) c6) ((secS (ks ++ [r])).map zeroQ)) := by
            rw [secQ_succ]
            exact hS6
          have HRB6 : Hid (SRow w6 w9.heap.size w9.heap.size (.slice ba j bc) qb) := HRB.out.beside (u := .slice sa j sc) hB6 (Nat.le_refl _) hO6 (fun k hk e => HNE.out k e hk)
          have HNE6 : Hid (∀ k, (Value.slice a6 (j + 1) c6).ownBlock = some k → (Value.slice ba j bc).ownBlock ≠ some k) := fun k hk e => by
            rcases hA6 with h | ⟨k', h, hge⟩
            · exact HNE.out k (h.symm.trans hk) e
            · have := (HRB.out.lt k e).2
              rw [hk] at h
              cases h
              omega
          have HB6 : Hid (Below w9.heap.size w9 w6) := HBr.out.trans hB6
          have hz6 : w9.heap.size ≤ w6.heap.size := Nat.le_trans hzr hB6.size
          have HW6 : Hid (Below w1.heap.size w1 w6) := HW9.out.trans (HB6.out.mono hz19)
          clear hS6 hB6 hO6 hA6 HRS HRB HNE HBr HWr
          obtain ⟨b2, off2, aj, cj, ea, hb2n, r0, r1, r2, r3, r4, r5, r6, hp⟩ := HSR.out.keep HW6.out (Nat.le_of_lt hz1) r HRL.out
          have hbs : bothS l (ks ++ [r]) = bothS l ks ++ [l[r]'HRL.out] := both_succ l ks r HRL.out
          generalize l[r]'HRL.out = sx at r0 r1 r2 r3 r4 r5 r6 hp hbs
          have HBS : Hid (bothS l (ks ++ [r]) = bothS l ks ++ [sx]) := hbs
          have HP2 : Hid (PIn w6 0 w9.heap.size sx.2 aj) := hp.mono (by omega) (Nat.le_refl _)
          clear hbs hp
          subst ea
          have hri : (r : Int) < (ll : Int) := by omega
          go_wp2_with (first | (at_builtin; refine wpList_append_src rfl _ _ rfl w9.heap.size w9.heap.size _ qb rfl HRB6.out (sx, aj, cj) HP2.out rfl (by rw [HQL.out]; omega) (Nat.le_refl _) hz6 ?_; intro v7 w7 hS7 hB7 hO7 hA7; obtain ⟨a7, c7, hv7⟩ := hS7.form; rw [List.length_append, HQL.out, List.length_singleton] at hv7; subst hv7))
          have HS7 : Hid (SRow w7 w9.heap.size w9.heap.size (.slice a7 (j + 1) c7) (qb ++ [(sx, aj, cj)])) := hS7
          have HS67 : Hid (SRow w7 w9.heap.size w9.heap.size (.slice a6 (j + 1) c6) ((secS (ks ++ [r])).map zeroQ)) := HS6.out.beside (u := .slice ba j bc) hB7 (Nat.le_refl _) hO7 HNE6.out
          have HNE7 : Hid (∀ k, (Value.slice a6 (j + 1) c6).ownBlock = some k → (Value.slice a7 (j + 1) c7).ownBlock ≠ some k) := fun k hk e => by
            rcases hA7 with h | ⟨k', h, hge⟩
            · exact HNE6.out k hk (h.symm.trans e)
            · have := (HS6.out.lt k hk).2
              rw [e] at h
              cases h
              omega
          have HB7 : Hid (Below w9.heap.size w9 w7) := HB6.out.trans hB7
          clear hS7 hB7 hO7 hA7 r0 r1 r2 r3 r4 r5 r6
          go_roundw
          case rel =>
            refine ⟨j + 1, ks ++ [r], qb ++ [(sx, aj, cj)], by omega, by simp, ⟨a6, c6, rfl⟩, ⟨a7, c7, rfl⟩, ?_, ?_, ?_, HS67, HS7, HNE7, HB7⟩
            · show _ = _
              rw [List.length_append, hkl]
              rfl
            · intro k hk
              rcases List.mem_append.1 hk with h | h
              · exact HKS.out k h
              · rw [List.mem_singleton] at h
                subst h
                exact HRL.out
            · show _ = _
              rw [HBS.out, List.map_append, HQB.out]
              rfl
          case measure => simp only [intOf]; omega
end Go.Proofs.YtnjfkijekohdkaaDoor
