/- ValueBack's walk (contracts; nothing is claimed here). -/
import Derived.Test.YtedmmifflbnmbaaAwk
import Derived.Test.YtedmmifflbnmbaaVSame
namespace Go.Proofs.Ytedmmifflbnmbaa
open Go.RowKit Go.Vf

set_option maxHeartbeats 8000000 in
set_option maxRecDepth 20000 in
theorem back_any (p : Prt) (hf : Fits p) (a : Option Addr) (c lo n₀ : Nat) (w : World) (hn₀ : n₀ ≤ w.heap.size) (hin : PIn w lo n₀ p a) :
    Calls Try.prog 6 #[pV p a c] w fun e w' => e = .returned (.bool true) ∧ Below w.heap.size w w' := by
  have hb0 := Blk.new w 27 #[.int .u8 p.kind, .bool p.yes, .bool p.neg, .string p.mag, .string p.raw, .slice a p.items.length c]
  have hb1 := (Below.refl w.heap.size w).alloc (Nat.le_refl _) (.cells #[.int .u8 p.kind, .bool p.yes, .bool p.neg, .string p.mag, .string p.raw, .slice a p.items.length c] 27)
  have hs1 := alloc_size w (.cells #[.int .u8 p.kind, .bool p.yes, .bool p.neg, .string p.mag, .string p.raw, .slice a p.items.length c] 27)
  have haw := awake_any (w.alloc (.cells #[.int .u8 p.kind, .bool p.yes, .bool p.neg, .string p.mag, .string p.raw, .slice a p.items.length c] 27))
  have hle := hvy_le p hf 0 0 (by decide)
  have hwt := fun w' h1 h2 => weight_any p hf a c 0 lo n₀ w' h1 h2 (by decide)
  have hmk := fun w' h1 h2 => make_any p hf a c lo n₀ w' h1 h2
  unfold pV at hwt hmk ⊢
  have HF : Hid (Fits p) := hf
  have HI : Hid (PIn w lo n₀ p a) := hin
  clear hf hin
  go_enter Try.func6, Try.ntmps6
  go_wp2_with fail
  generalize w.alloc (.cells #[.int .u8 p.kind, .bool p.yes, .bool p.neg, .string p.mag, .string p.raw, .slice a p.items.length c] 27) = w1 at hb0 hb1 hs1 haw ⊢
  refine haw.mono ?_
  rintro _ w2 ⟨rfl, hb2⟩
  have hw2 : Below w.heap.size w w2 := hb1.trans (hb2.mono hb1.size)
  have hB2 := hb0.old hb2
  obtain ⟨c0, c1, c2, c3, c4, c5⟩ := hB2.c6
  have h3 := hwt w2 (Nat.le_trans hn₀ hw2.size) (HI.out.keep hw2 hn₀)
  clear hwt haw
  go_wp2_with fail
  refine h3.mono ?_
  rintro _ w3 ⟨rfl, hb3⟩
  have hw3 : Below w.heap.size w w3 := hw2.trans (hb3.mono hw2.size)
  have hB3 := hB2.old hb3
  clear c0 c1 c2 c3 c4 c5
  obtain ⟨c0, c1, c2, c3, c4, c5⟩ := hB3.c6
  clear h3
  by_cases hbig : 134217728 < hvy p 0 0
  · have t : decide ((134217728 : Int) < ((hvy p 0 0 : Nat) : Int)) = true := decide_eq_true (by omega)
    generalize hvy p 0 0 = H at *
    clear hmk
    go_wp2_with fail
    go_ret
    exact ⟨rfl, hw3⟩
  have t : decide ((134217728 : Int) < ((hvy p 0 0 : Nat) : Int)) = false := decide_eq_false (by omega)
  generalize hvy p 0 0 = H at *
  have h4 := hmk w3 (Nat.le_trans hn₀ hw3.size) (HI.out.keep hw3 hn₀)
  clear hmk
  go_wp2_with fail
  refine h4.mono ?_
  rintro e w4 ⟨hb4, h5⟩
  have hw4 : Below w.heap.size w w4 := hw3.trans (hb4.mono hw3.size)
  have hB4 := hB3.old hb4
  clear c0 c1 c2 c3 c4 c5 h4
  obtain ⟨c0, c1, c2, c3, c4, c5⟩ := hB4.c6
  rcases h5 with ⟨_, rfl⟩ | ⟨_, _, rfl⟩ | ⟨hdeep, hmay, v, rfl, hv⟩
  · go_wp2_with fail
    go_ret
    exact ⟨rfl, hw4⟩
  · go_wp2_with fail
    go_ret
    exact ⟨rfl, hw4⟩
  have HD : Hid (deeper 16 p = false) := hdeep
  have HM : Hid (may p = true) := hmay
  have HV : Hid (VIn w4 w3.heap.size w4.heap.size v p) := hv
  have h6 := tell_any p hmay v _ _ w4 (Nat.le_refl _) hv
  unfold pV at h6
  clear hdeep hmay hv
  go_wp2_with fail
  refine h6.mono ?_
  rintro _ w5 ⟨at_, ct, rfl, hpt, hb5⟩
  have hw5 : Below w.heap.size w w5 := hw4.trans (hb5.mono hw4.size)
  have hB5 := hB4.old hb5
  clear c0 c1 c2 c3 c4 c5 h6
  have hb6 := (Below.refl w5.heap.size w5).alloc (Nat.le_refl _) (.cells #[.int .u8 p.kind, .bool p.yes, .bool p.neg, .string p.mag, .string p.raw, .slice at_ p.items.length ct] 27)
  have hBt := Blk.new w5 27 #[.int .u8 p.kind, .bool p.yes, .bool p.neg, .string p.mag, .string p.raw, .slice at_ p.items.length ct]
  have hs6 := alloc_size w5 (.cells #[.int .u8 p.kind, .bool p.yes, .bool p.neg, .string p.mag, .string p.raw, .slice at_ p.items.length ct] 27)
  go_upto_region 8 with fail
  generalize w5.alloc (.cells #[.int .u8 p.kind, .bool p.yes, .bool p.neg, .string p.mag, .string p.raw, .slice at_ p.items.length ct] 27) = w6 at hb6 hBt hs6 ⊢
  have hw6 : Below w.heap.size w w6 := hw5.trans (hb6.mono hw5.size)
  have hB6 := hB5.old hb6
  obtain ⟨d0, d1, d2, d3, d4, d5⟩ := hBt.c6
  have HPT : Hid (PIn w6 w4.heap.size w5.heap.size p at_) := hpt.keep hb6 (Nat.le_refl _)
  have hz5 := hw5.size
  have h7 := make_any p HF.out at_ ct w4.heap.size w5.heap.size w6 hb6.size HPT.out
  unfold pV at h7
  clear hpt
  go_wp2_with fail
  refine h7.mono ?_
  rintro e w7 ⟨hb7, h8⟩
  rcases h8 with ⟨h8, _⟩ | ⟨_, h8, _⟩ | ⟨_, _, v', rfl, hv'⟩
  · exact absurd h8 (by rw [HD.out]; simp)
  · exact absurd h8 (by rw [HM.out]; simp)
  clear d0 d1 d2 d3 d4 d5 h7
  have hw7 : Below w.heap.size w w7 := hw6.trans (hb7.mono hw6.size)
  have hB7 := hB6.old hb7
  have hT7 := hBt.old hb7
  obtain ⟨c0, c1, c2, c3, c4, c5⟩ := hB7.c6
  obtain ⟨d0, d1, d2, d3, d4, d5⟩ := hT7.c6
  have HV2 : Hid (VIn w7 w6.heap.size w7.heap.size v' p) := hv'
  have h9 := rsame_any p HF.out p HF.out at_ a ct c w4.heap.size w5.heap.size lo n₀ w7 (Nat.le_trans hb6.size hb7.size) (Nat.le_trans hn₀ hw7.size) (HPT.out.keep hb7 hb6.size) (HI.out.keep hw7 hn₀)
  rw [eqP_self] at h9
  unfold pV at h9
  clear hv'
  go_wp2_with fail
  refine h9.mono ?_
  rintro _ w8 ⟨rfl, hb8⟩
  have hw8 : Below w.heap.size w w8 := hw7.trans (hb8.mono hw7.size)
  have hv8 := (((HV.out.old hb5 (Nat.le_refl _)).old hb6 hb5.size).old hb7 (Nat.le_trans hb5.size hb6.size)).old hb8 (Nat.le_trans (Nat.le_trans hb5.size hb6.size) hb7.size)
  have h10 := Same_any p p HF.out HF.out v v' w3.heap.size w4.heap.size w6.heap.size w7.heap.size w8 (Nat.le_trans (Nat.le_trans (Nat.le_trans hb5.size hb6.size) hb7.size) hb8.size) hb8.size hv8 (HV2.out.old hb8 (Nat.le_refl _))
  rw [eqP_self] at h10
  clear c0 c1 c2 c3 c4 c5 d0 d1 d2 d3 d4 d5 h9
  have hz48 := Nat.le_trans (Nat.le_trans (Nat.le_trans hb5.size hb6.size) hb7.size) hb8.size
  have HV8 : Hid (VIn w8 w3.heap.size w4.heap.size v p) := hv8
  clear hv8
  go_wp2_with fail
  refine h10.mono ?_
  rintro _ w9 ⟨rfl, hb9⟩
  have hw9 : Below w.heap.size w w9 := hw8.trans (hb9.mono hw8.size)
  have hv9 := HV8.out.old hb9 hz48
  clear h10
  have hdp : dep p ≤ 16 := by
    have h1 := deeper_dep 16 p
    rw [HD.out] at h1
    have := of_decide_eq_false h1.symm
    omega
  have hlen1024 : p.kind = 7 → p.items.length ≤ 1024 := by
    intro h7
    have hm := HM.out
    cases p with | mk k y n m r l =>
    simp only [Prt.kind] at h7
    subst h7
    exact (may_tup hm).1
  clear HF HI HD HM HV HV2 HV8 HPT hB2 hB3 hB4 hB5 hB6 hB7 hT7 hBt hb0
  by_cases h7 : p.kind = 7
  · have hlen := hlen1024 h7
    have h12 := (Depth_any v p _ _ w9 hv9).sym'
    clear hlen1024
    cases p with | mk k y n m r l =>
    simp only [Prt.kind] at h7
    subst h7
    simp only [Prt.items] at hlen
    cases hv9 with
    | raw k r hk => simp [isRawK] at hk
    | @tup _ g c' a' V h1 h2 h3 h4 h5 =>
      have hd : dep (.mk 7 false false ⟨#[]⟩ ⟨#[]⟩ l) = depL l + 1 := by rw [dep, if_pos rfl]
      rw [hd] at h12 hdp
      have h11 := (asList_tup ⟨g, 0, none⟩ w9).sym'
      obtain ⟨ln, hln⟩ : ∃ ln, l.length = ln := ⟨_, rfl⟩
      have HLN : Hid (l.length = ln) := hln
      have hc0 : w9.cell? ⟨g, 0, none⟩ = some (.slice a' ln c') := by rw [← hln]; exact h3.cell 0
      have n1 := (len_any g a' ln c' w9 hc0 (by omega)).sym'
      have m1 := mLen ⟨g, 0, none⟩
      have m2 := mAt ⟨g, 0, none⟩
      obtain ⟨D, hD⟩ : ∃ D, depL l = D := ⟨_, rfl⟩
      have HD : Hid (depL l = D) := hD
      rw [hD] at h12 hdp
      have h12' : Calls Try.prog 20 #[.iface 74 (.pointer (some ⟨g, 0, none⟩))] w9 (fun e w' => e = .returned (.int .i64 ((D : Int) + 1)) ∧ w9 = w') := h12
      rw [hln] at hlen
      clear hln hD hd h3 h12
      go_wp2_with fail
      refine h11.mono ?_
      rintro _ _ ⟨rfl, rfl⟩
      go_wp2_with fail
      go_loopw [12, 13] (fun x i wr => ∃ (j s : Nat), j ≤ ln ∧ i = .int .i64 j ∧ x = .int .i64 s ∧ Hid (s = depL (l.take j)) ∧ s ≤ 16 ∧ wr = w9) (fun _ i _ => ln - (intOf i).toNat)
      case atStart => exact ⟨0, 0, by omega, rfl, rfl, by show _ = _; simp [depL], by omega, rfl⟩
      case round =>
        obtain ⟨j, s, hj, rfl, rfl, HS, hs, hwr⟩ := hrel
        subst hwr
        by_cases hlt : j < ln
        · have hlt2 : j < l.length := by rw [HLN.out]; exact hlt
          obtain ⟨h, off, ha, _, _, q0⟩ := h4 j hlt2
          subst ha
          have n2 := (at_in g h off ln c' j _ wr hlt (by omega) hc0 q0).sym'
          have n3 := (Depth_any (V j) l[j] _ _ wr (h5 j hlt2)).sym'
          have hT : Hid (depL (l.take (j + 1)) = max s (dep l[j])) := by
            show _ = _
            rw [depL_take l j hlt2, HS.out]
          have hdl : dep l[j] ≤ 15 := by
            have := depL_mem (List.getElem_mem hlt2)
            have := HD.out
            omega
          clear HS h4 h5 q0 h12' h11
          generalize V j = vj at n2 n3
          generalize dep l[j] = dj at n3 hT hdl
          by_cases hsd : s < dj
          · have HM : Hid (dj = depL (l.take (j + 1))) := by show _ = _; rw [hT.out]; omega
            have t1 : decide ((s : Int) < (dj : Int)) = true := decide_eq_true (by omega)
            clear hT
            go_wp2_with fail
            refine n1.mono ?_
            rintro _ _ ⟨rfl, rfl⟩
            go_wp2_with fail
            refine n2.mono ?_
            rintro _ _ ⟨rfl, rfl⟩
            go_wp2_with fail
            refine n3.mono ?_
            rintro _ _ ⟨rfl, rfl⟩
            go_wp2_with fail
            go_roundw
            case rel => exact ⟨j + 1, dj, by omega, by simp, rfl, HM, by omega, trivial⟩
            case measure => simp only [intOf]; omega
          · have HM : Hid (s = depL (l.take (j + 1))) := by show _ = _; rw [hT.out]; omega
            have t1 : decide ((s : Int) < (dj : Int)) = false := decide_eq_false (by omega)
            clear hT
            go_wp2_with fail
            refine n1.mono ?_
            rintro _ _ ⟨rfl, rfl⟩
            go_wp2_with fail
            refine n2.mono ?_
            rintro _ _ ⟨rfl, rfl⟩
            go_wp2_with fail
            refine n3.mono ?_
            rintro _ _ ⟨rfl, rfl⟩
            go_wp2_with fail
            go_roundw
            case rel => exact ⟨j + 1, s, by omega, by simp, rfl, HM, hs, trivial⟩
            case measure => simp only [intOf]; omega
        · have hsD : s = D := by
            rw [HS.out, ← HD.out, List.take_of_length_le (by rw [HLN.out]; omega)]
          clear HS h4 h5
          subst hsD
          have t3 : decide ((s : Int) < 16) = true := decide_eq_true (by omega)
          go_wp2_with fail
          refine n1.mono ?_
          rintro _ _ ⟨rfl, rfl⟩
          go_wp2_with fail
          refine h12'.mono ?_
          rintro _ _ ⟨rfl, rfl⟩
          go_wp2_with fail
          go_ret
          exact ⟨rfl, hw9⟩
  · have h11 := (asList_not v p _ _ w9 hv9 h7).sym'
    have h12 := (Depth_any v p _ _ w9 hv9).sym'
    have hd0 : dep p = 0 := by
      cases p with | mk k y n m r l =>
      rw [dep, if_neg (by simpa [Prt.kind] using h7)]
    rw [hd0] at h12
    clear hv9 hdp hlen1024 h7 hd0
    go_wp2_with fail
    refine h11.mono ?_
    rintro _ _ ⟨rfl, rfl⟩
    go_wp2_with fail
    refine h12.mono ?_
    rintro _ _ ⟨rfl, rfl⟩
    go_wp2_with fail
    go_ret
    exact ⟨rfl, hw9⟩
end Go.Proofs.Ytedmmifflbnmbaa
