/- What UtfBack does (a contract; nothing is claimed here). -/
import Derived.Test.YtjlgmoakdaeinaaDoorAwake
import Derived.Test.YtjlgmoakdaeinaaDoorSpl
namespace Go.Proofs.YtjlgmoakdaeinaaDoor
open Go.RowKit Go.Vf

theorem bs_eq_of {s : ByteArray} {l : List UInt8} (h : s.data.toList = l) : bs l = s := by rw [← h, bs_of]

theorem noPt {z : Int} (h : rowP z = none) : z < 0 ∨ 1114111 < z ∨ (55296 ≤ z ∧ z ≤ 57343) := by
  unfold rowP at h
  repeat' split at h
  all_goals first | (cases h; done) | omega

set_option maxHeartbeats 800000 in
set_option maxRecDepth 20000 in
theorem back_walk (s : ByteArray) (_hsz : s.size ≤ maxLen) (v : Value) (zs : List Int) (_hzl : zs.length ≤ maxLen) (w : World) (ht : Tabs w) (hv : Ints w.heap.size w v zs) :
    Calls Tryd.prog 5 #[.string s, v] w fun e w' => e = .returned (.bool true) ∧ Below w.heap.size w w' := by
  obtain ⟨va, vc, hval⟩ := hv.val
  by_cases hbig : (536870911 : Int) < (s.size : Int)
  · subst hval
    go_enter Tryd.func5, Tryd.ntmps5
    go_wp2_with fail
    go_ret
    exact ⟨rfl, Below.refl _ _⟩
  · by_cases hbig2 : (536870911 : Int) < (zs.length : Int)
    · subst hval
      go_enter Tryd.func5, Tryd.ntmps5
      go_wp2_with fail
      go_ret
      exact ⟨rfl, Below.refl _ _⟩
    · obtain ⟨ps, rest, hs, hps, hrest⟩ := split_bytes s.data.toList
      obtain ⟨qs, tl, hz, hqs, htl⟩ := split_ints zs
      subst hval
      have HS : Hid (s.data.toList = encs ps ++ rest) := hs
      have HZ : Hid (zs = (qs.map fun p : Nat => (p : Int)) ++ tl) := hz
      clear hs hz
      go_enter Tryd.func5, Tryd.ntmps5
      go_wp2_with fail
      refine (points_any s (by omega) ps rest HS.out hps hrest w ht).mono ?_
      rintro e w1 ⟨hpts, hb1⟩
      have ht1 := ht.own hb1
      have hv1' := hv.below hb1 (Nat.le_refl _)
      have HLEN : Hid (qs.length ≤ 536870911) := by
        have h1 := congrArg List.length HZ.out
        simp at h1
        show _ ≤ _
        omega
      rcases hpts with ⟨hr, v1, rfl, hv1⟩ | ⟨hr, rfl⟩
      · obtain ⟨a1, c1, rfl⟩ := hv1.ints.val
        go_wp2_with fail
        refine (check_any s (by omega) ps rest HS.out hps hrest w1 ht1).mono ?_
        rintro e w2 ⟨rfl, hb2⟩
        rw [show chkOf ps rest = -1 by rw [chkOf, if_pos hr]]
        have ht2 := ht1.own hb2
        have hi2 := (hv1.ints.below hb2 (Nat.le_refl _)).mono hb2.size
        rw [List.length_map] at hi2
        go_wp2_with fail
        have hlp : ps.length ≤ 4294967296 := by
          have h1 := encs_length_ge ps
          have h2 := Lib.size_eq s
          rw [HS.out, List.length_append] at h2
          omega
        refine (text_any (.slice a1 ps.length c1) (ps.map fun p : Nat => (p : Int)) (by simpa using hlp) ps [] (by simp) hps (.inl rfl) w2 ht2 hi2).mono ?_
        rintro e wz ⟨⟨_, rfl⟩ | ⟨h, _⟩, hb3⟩
        rotate_left
        · exact absurd rfl h
        have hbs : bs (encs ps) = s := bs_eq_of (by rw [HS.out, hr, List.append_nil])
        rw [hbs]
        have hbz : Below w.heap.size w wz := below_two (below_two hb1 hb2) hb3
        have htz : Tabs wz := ht.own hbz
        have hvz := hv.below hbz (Nat.le_refl _)
        clear hi2 hv1 hb2 hb3 ht2 hbs hlp
        go_wp2_with fail
        refine (text_any (.slice va zs.length vc) zs (by omega) qs tl HZ.out hqs htl wz htz (hvz.mono hbz.size)).mono ?_
        rintro e wy ⟨⟨ht0, rfl⟩ | ⟨ht0, rfl⟩, hby⟩
        · have hbY := below_two hbz hby
          have hty := ht.own hbY
          have HSZ : Hid ((bs (encs qs)).size ≤ 4294967296) := by
            show _ ≤ _
            rw [bs_size]
            have h1 := encs_length_le qs
            have h2 := HLEN.out
            omega
          go_wp2_with fail
          refine (points_any (bs (encs qs)) HSZ.out qs [] (by rw [bs_data, List.append_nil]) hqs (.inl rfl) wy hty).mono ?_
          rintro e wx ⟨⟨_, vx, rfl, hvx⟩ | ⟨h, _⟩, hbx⟩
          rotate_left
          · exact absurd rfl h
          obtain ⟨ax, cx, rfl⟩ := hvx.ints.val
          have hix := hvx.ints
          rw [List.length_map] at hix
          have hbX := below_two hbY hbx
          have hvX := hv.below hbX (Nat.le_refl _)
          have htX := ht.own hbX
          clear hvx hbx hty hby htz hvz
          go_wp2_with fail
          refine (sameInts_any (.slice ax qs.length cx) (.slice va zs.length vc) (qs.map fun p : Nat => (p : Int)) zs _ _ wx hix hvX (by have := HLEN.out; simp; omega) (by omega)).mono ?_
          rintro e wu ⟨rfl, hbu⟩
          rw [show decide ((qs.map fun p : Nat => (p : Int)) = zs) = true by rw [HZ.out, ht0]; simp]
          have htU := htX.own hbu
          go_wp2_with fail
          refine (awake_any wu htU).mono ?_
          rintro e wq ⟨rfl, hbq⟩
          go_wp2_with fail
          go_ret
          exact ⟨rfl, below_two (below_two hbX hbu) hbq⟩
        · have hbY := below_two hbz hby
          have hty := ht.own hbY
          obtain ⟨z, r, rfl, hzn⟩ := htl.resolve_left ht0
          have hlt : qs.length < zs.length := by
            have := congrArg List.length HZ.out
            simp at this
            omega
          have hzq : zs[qs.length]?.getD 0 = z := by
            rw [HZ.out, List.getElem?_append_right (by simp)]
            simp
          rcases hv.below hbY (Nat.le_refl _) with ⟨_, _, _, h⟩ | ⟨b, off, cap, hsl, hb, hc⟩
          · rw [h] at hlt; simp at hlt
          have hcz := hc _ hlt
          rw [hzq] at hcz
          simp only [Value.slice.injEq] at hsl
          obtain ⟨rfl, _, rfl⟩ := hsl
          have hnp := noPt hzn
          obtain ⟨m, hm⟩ : ∃ m, m = qs.length := ⟨_, rfl⟩
          rw [← hm] at hcz hlt ⊢
          clear hm hzq hzn hc htl HZ
          rcases hnp with hn | hn | ⟨hn1, hn2⟩
          · go_wp2_with fail
            refine (awake_any wy hty).mono ?_
            rintro e wq ⟨rfl, hbq⟩
            go_wp2_with fail
            go_ret
            exact ⟨rfl, below_two hbY hbq⟩
          · have hn' : ¬ z < 0 := by omega
            go_wp2_with fail
            refine (awake_any wy hty).mono ?_
            rintro e wq ⟨rfl, hbq⟩
            go_wp2_with fail
            go_ret
            exact ⟨rfl, below_two hbY hbq⟩
          · have hn' : ¬ z < 0 := by omega
            have hn'' : ¬ 1114111 < z := by omega
            go_wp2_with fail
            refine (awake_any wy hty).mono ?_
            rintro e wq ⟨rfl, hbq⟩
            go_wp2_with fail
            go_ret
            exact ⟨rfl, below_two hbY hbq⟩
      · have hk : (encs ps).length < s.size := by
          have h2 := Lib.size_eq s
          rw [HS.out, List.length_append] at h2
          have h3 : rest.length ≠ 0 := fun h => hr (List.eq_nil_of_length_eq_zero h)
          omega
        have hkf : (s.extract 0 (encs ps).length).data.toList = encs ps ++ [] := by
          rw [Lib.extract_data, List.drop_zero, HS.out, List.append_nil]
          simp
        obtain ⟨k, hkk⟩ : ∃ k, k = (encs ps).length := ⟨_, rfl⟩
        rw [← hkk] at hk hkf ⊢
        have HKF : Hid ((s.extract 0 k).data.toList = encs ps ++ []) := hkf
        have HKK : Hid (k = (encs ps).length) := hkk
        clear hkf hkk
        go_wp2_with fail
        refine (check_any s (by omega) ps rest HS.out hps hrest w1 ht1).mono ?_
        rintro e w2 ⟨rfl, hb2⟩
        rw [show chkOf ps rest = (k : Int) by rw [chkOf, if_neg hr, HKK.out]]
        have ht2 := ht1.own hb2
        go_wp2_with fail
        refine (check_any (s.extract 0 k) (by simp; omega) ps [] HKF.out hps (.inl rfl) w2 ht2).mono ?_
        rintro e wz ⟨rfl, hb3⟩
        rw [show chkOf ps [] = -1 by rw [chkOf, if_pos rfl]]
        have hbz : Below w.heap.size w wz := below_two (below_two hb1 hb2) hb3
        have htz : Tabs wz := ht.own hbz
        have hvz := hv.below hbz (Nat.le_refl _)
        clear hb2 hb3 ht2
        go_wp2_with fail
        refine (text_any (.slice va zs.length vc) zs (by omega) qs tl HZ.out hqs htl wz htz (hvz.mono hbz.size)).mono ?_
        rintro e wy ⟨⟨ht0, rfl⟩ | ⟨ht0, rfl⟩, hby⟩
        · have hbY := below_two hbz hby
          have hty := ht.own hbY
          have HSZ : Hid ((bs (encs qs)).size ≤ 4294967296) := by
            show _ ≤ _
            rw [bs_size]
            have h1 := encs_length_le qs
            have h2 := HLEN.out
            omega
          go_wp2_with fail
          refine (points_any (bs (encs qs)) HSZ.out qs [] (by rw [bs_data, List.append_nil]) hqs (.inl rfl) wy hty).mono ?_
          rintro e wx ⟨⟨_, vx, rfl, hvx⟩ | ⟨h, _⟩, hbx⟩
          rotate_left
          · exact absurd rfl h
          obtain ⟨ax, cx, rfl⟩ := hvx.ints.val
          have hix := hvx.ints
          rw [List.length_map] at hix
          have hbX := below_two hbY hbx
          have hvX := hv.below hbX (Nat.le_refl _)
          have htX := ht.own hbX
          clear hvx hbx hty hby htz hvz
          go_wp2_with fail
          refine (sameInts_any (.slice ax qs.length cx) (.slice va zs.length vc) (qs.map fun p : Nat => (p : Int)) zs _ _ wx hix hvX (by have := HLEN.out; simp; omega) (by omega)).mono ?_
          rintro e wu ⟨rfl, hbu⟩
          rw [show decide ((qs.map fun p : Nat => (p : Int)) = zs) = true by rw [HZ.out, ht0]; simp]
          have htU := htX.own hbu
          go_wp2_with fail
          refine (awake_any wu htU).mono ?_
          rintro e wq ⟨rfl, hbq⟩
          go_wp2_with fail
          go_ret
          exact ⟨rfl, below_two (below_two hbX hbu) hbq⟩
        · have hbY := below_two hbz hby
          have hty := ht.own hbY
          obtain ⟨z, r, rfl, hzn⟩ := htl.resolve_left ht0
          have hlt : qs.length < zs.length := by
            have := congrArg List.length HZ.out
            simp at this
            omega
          have hzq : zs[qs.length]?.getD 0 = z := by
            rw [HZ.out, List.getElem?_append_right (by simp)]
            simp
          rcases hv.below hbY (Nat.le_refl _) with ⟨_, _, _, h⟩ | ⟨b, off, cap, hsl, hb, hc⟩
          · rw [h] at hlt; simp at hlt
          have hcz := hc _ hlt
          rw [hzq] at hcz
          simp only [Value.slice.injEq] at hsl
          obtain ⟨rfl, _, rfl⟩ := hsl
          have hnp := noPt hzn
          obtain ⟨m, hm⟩ : ∃ m, m = qs.length := ⟨_, rfl⟩
          rw [← hm] at hcz hlt ⊢
          clear hm hzq hzn hc htl HZ
          rcases hnp with hn | hn | ⟨hn1, hn2⟩
          · go_wp2_with fail
            refine (awake_any wy hty).mono ?_
            rintro e wq ⟨rfl, hbq⟩
            go_wp2_with fail
            go_ret
            exact ⟨rfl, below_two hbY hbq⟩
          · have hn' : ¬ z < 0 := by omega
            go_wp2_with fail
            refine (awake_any wy hty).mono ?_
            rintro e wq ⟨rfl, hbq⟩
            go_wp2_with fail
            go_ret
            exact ⟨rfl, below_two hbY hbq⟩
          · have hn' : ¬ z < 0 := by omega
            have hn'' : ¬ 1114111 < z := by omega
            go_wp2_with fail
            refine (awake_any wy hty).mono ?_
            rintro e wq ⟨rfl, hbq⟩
            go_wp2_with fail
            go_ret
            exact ⟨rfl, below_two hbY hbq⟩

end Go.Proofs.YtjlgmoakdaeinaaDoor
