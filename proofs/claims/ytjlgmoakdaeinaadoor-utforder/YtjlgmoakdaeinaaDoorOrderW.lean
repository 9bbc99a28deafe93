/- What UtfOrder does (a contract; nothing is claimed here). -/
import Derived.Test.YtjlgmoakdaeinaaDoorAwake
import Derived.Test.YtjlgmoakdaeinaaDoorSpl
namespace Go.Vf
theorem less_cmp (a b : List UInt8) : Op.bytesLess a b = decide (cmpL a b = -1) := by
  fun_induction cmpL a b
  · rfl
  · rfl
  · rfl
  · rename_i h; simp [Op.bytesLess, h]
  · rename_i a x b y h1 h2
    have : ¬ a = b := fun e => by subst e; exact absurd h2 (UInt8.lt_irrefl _)
    simp [Op.bytesLess, h1, this]
  · rename_i a x b y h1 h2 ih
    have e : a = b := UInt8.le_antisymm (UInt8.not_lt.1 h2) (UInt8.not_lt.1 h1)
    subst e
    simp [Op.bytesLess, ih]

theorem cmpP_three (x y : List Nat) : cmpP x y = -1 ∨ cmpP x y = 0 ∨ cmpP x y = 1 := by
  fun_induction cmpP x y <;> simp_all

theorem drop_getD_nat (l : List Nat) (k : Nat) (h : k < l.length) : l.drop k = (l[k]?.getD 0) :: l.drop (k + 1) := by
  rw [List.drop_eq_getElem_cons h, List.getElem?_eq_getElem h]; rfl
theorem map_getD (l : List Nat) (k : Nat) (h : k < l.length) : (l.map fun p : Nat => (p : Int))[k]?.getD 0 = ((l[k]?.getD 0 : Nat) : Int) := by
  rw [List.getElem?_map, List.getElem?_eq_getElem h]; rfl
end Go.Vf
namespace Go.Proofs.YtjlgmoakdaeinaaDoor
open Go.RowKit Go.Vf

theorem Ints.cell {n₀ : Nat} {W : World} {a : Option Addr} {c : Nat} {qs : List Nat} (h : Ints n₀ W (.slice a qs.length c) (qs.map fun p : Nat => (p : Int))) (k : Nat) (hk : k < qs.length) :
    ∃ b o, a = some ⟨b, o, none⟩ ∧ W.cell? ⟨b, o + k, none⟩ = some (.int .i64 ((qs[k]?.getD 0 : Nat) : Int)) := by
  rcases h with ⟨_, _, _, h⟩ | ⟨b, o, cap, e, _, hc⟩
  · rw [List.map_eq_nil_iff] at h; rw [h] at hk; simp at hk
  · simp only [Value.slice.injEq] at e
    refine ⟨b, o, e.1, ?_⟩
    rw [hc k (by simpa using hk), map_getD _ _ hk]

set_option maxHeartbeats 1000000 in
set_option maxRecDepth 20000 in
theorem order_walk (s : ByteArray) (_hs : s.size ≤ maxLen) (t : ByteArray) (_ht : t.size ≤ maxLen) (w : World) (ht : Tabs w) :
    Calls Tryd.prog 6 #[.string s, .string t] w fun e w' => e = .returned (.bool true) ∧ Below w.heap.size w w' := by
  by_cases hbig : (536870911 : Int) < (s.size : Int)
  · go_enter Tryd.func6, Tryd.ntmps6
    go_wp2_with fail
    go_ret
    exact ⟨rfl, Below.refl _ _⟩
  · by_cases hbig2 : (536870911 : Int) < (t.size : Int)
    · go_enter Tryd.func6, Tryd.ntmps6
      go_wp2_with fail
      go_ret
      exact ⟨rfl, Below.refl _ _⟩
    · obtain ⟨ps, rest, hs, hps, hrest⟩ := split_bytes s.data.toList
      obtain ⟨qs, rest2, hq, hqs, hrest2⟩ := split_bytes t.data.toList
      have HS : Hid (s.data.toList = encs ps ++ rest) := hs
      have HQ : Hid (t.data.toList = encs qs ++ rest2) := hq
      clear hs hq
      go_enter Tryd.func6, Tryd.ntmps6
      go_wp2_with fail
      refine (points_any s (by omega) ps rest HS.out hps hrest w ht).mono ?_
      rintro e w1 ⟨hpts, hb1⟩
      have ht1 := ht.own hb1
      rcases hpts with ⟨hr, v1, rfl, hv1⟩ | ⟨hr, rfl⟩
      rotate_left
      · go_wp2_with fail
        refine (points_any t (by omega) qs rest2 HQ.out hqs hrest2 w1 ht1).mono ?_
        rintro e w2 ⟨hpts2, hb2⟩
        have ht2 := ht1.own hb2
        rcases hpts2 with ⟨hr2, v2, rfl, hv2⟩ | ⟨hr2, rfl⟩
        all_goals
          go_wp2_with fail
          refine (awake_any w2 ht2).mono ?_
          rintro e w3 ⟨rfl, hb3⟩
          go_wp2_with fail
          go_ret
          exact ⟨rfl, below_two (below_two hb1 hb2) hb3⟩
      obtain ⟨a1, c1, rfl⟩ := hv1.ints.val
      have i1 := hv1.ints
      rw [List.length_map] at i1 ⊢
      clear hv1
      go_wp2_with fail
      refine (points_any t (by omega) qs rest2 HQ.out hqs hrest2 w1 ht1).mono ?_
      rintro e w2 ⟨hpts2, hb2⟩
      have ht2 := ht1.own hb2
      rcases hpts2 with ⟨hr2, v2, rfl, hv2⟩ | ⟨hr2, rfl⟩
      rotate_left
      · go_wp2_with fail
        refine (awake_any w2 ht2).mono ?_
        rintro e w3 ⟨rfl, hb3⟩
        go_wp2_with fail
        go_ret
        exact ⟨rfl, below_two (below_two hb1 hb2) hb3⟩
      obtain ⟨a2, c2, rfl⟩ := hv2.ints.val
      have i2 := hv2.ints
      rw [List.length_map] at i2 ⊢
      have i1' := i1.below hb2 (Nat.le_refl _)
      clear hv2 i1
      have hbW := below_two hb1 hb2
      obtain ⟨C, HC⟩ : ∃ C, Hid (C = cmpP ps qs) := ⟨_, rfl⟩
      have hcmp : cmpL s.data.toList t.data.toList = C := by
        rw [HS.out, HQ.out, hr, hr2, List.append_nil, List.append_nil, HC.out]
        exact cmp_points ps qs hps hqs
      have hC3 : C = -1 ∨ C = 0 ∨ C = 1 := by rw [HC.out]; exact cmpP_three _ _
      have hl1 : Op.bytesLess s.toList t.toList = decide (C = -1) := by rw [ByteArray.toList_eq, ByteArray.toList_eq, less_cmp, hcmp]
      have hl2 : Op.bytesLess t.toList s.toList = decide (C = 1) := by
        rw [ByteArray.toList_eq, ByteArray.toList_eq, less_cmp, cmpL_neg, hcmp]
        rcases hC3 with h | h | h <;> rw [h] <;> decide
      have he : (s.toList == t.toList) = decide (C = 0) := by
        rw [ByteArray.toList_eq, ByteArray.toList_eq, ← hcmp, Bool.eq_iff_iff, beq_iff_eq, decide_eq_true_eq, cmpL_eq]
      have x1 := i1'.cell
      have x2 := i2.cell
      obtain ⟨P, hP⟩ : ∃ P, P = ps.length := ⟨_, rfl⟩
      obtain ⟨Q, hQ⟩ : ∃ Q, Q = qs.length := ⟨_, rfl⟩
      have hPl : P ≤ 536870911 := by
        have h1 := encs_length_ge ps
        have h2 := Lib.size_eq s
        rw [HS.out, List.length_append] at h2
        omega
      have hQl : Q ≤ 536870911 := by
        have h1 := encs_length_ge qs
        have h2 := Lib.size_eq t
        rw [HQ.out, List.length_append] at h2
        omega
      rw [← hP] at x1 ⊢
      rw [← hQ] at x2 ⊢
      have HP : Hid (P = ps.length) := hP
      have HQQ : Hid (Q = qs.length) := hQ
      clear i1' i2 hP hQ hcmp hrest hrest2 hr hr2
      go_wp2_with fail
      go_loopw [12] (fun i wr => ∃ k : Nat, k ≤ P ∧ k ≤ Q ∧ i = .int .i64 k ∧ Hid (C = cmpP (ps.drop k) (qs.drop k)) ∧ Below w.heap.size w wr ∧ (∀ a, wr.cell? a = w2.cell? a)) (fun i _ => P - (intOf i).toNat)
      case atStart => exact ⟨0, Nat.zero_le _, Nat.zero_le _, rfl, HC, hbW, fun _ => rfl⟩
      case round =>
        obtain ⟨k, hk1, hk2, rfl, HK, hbel, hsame⟩ := hrel
        have HSAME : Hid (∀ a, wr.cell? a = w2.cell? a) := hsame
        have hbel' : Below w.heap.size w wr.drew := hbel.drew
        have htr : Tabs wr.drew := ht.own hbel'
        have htr2 : Tabs wr.drew.drew := ht.own hbel'.drew
        by_cases hlp : k < P
        · by_cases hlq : k < Q
          · obtain ⟨b1, o1, rfl, y1⟩ := x1 k hlp
            obtain ⟨b2, o2, rfl, y2⟩ := x2 k hlq
            have hK := HK.out
            rw [drop_getD_nat ps k (by rw [← HP.out]; exact hlp), drop_getD_nat qs k (by rw [← HQQ.out]; exact hlq)] at hK
            obtain ⟨p, hp⟩ : ∃ p, p = ps[k]?.getD 0 := ⟨_, rfl⟩
            obtain ⟨q, hq⟩ : ∃ q, q = qs[k]?.getD 0 := ⟨_, rfl⟩
            rw [← hp] at y1 hK
            rw [← hq] at y2 hK
            rw [← hsame] at y1 y2
            clear hp hq HK x1 x2 hsame
            have t1 : decide ((k : Int) < (P : Int)) = true := by simp; omega
            have t2 : decide ((k : Int) < (Q : Int)) = true := by simp; omega
            by_cases hpq : p = q
            · have HK2 : Hid (C = cmpP (ps.drop (k + 1)) (qs.drop (k + 1))) := by show _ = _; rw [hK]; simp [cmpP, hpq]
              have t3 : ((p : Int) == (q : Int)) = true := by rw [hpq]; simp
              clear hK hpq
              go_wp2_with fail
              go_region
              go_wp2
              go_roundw
              case rel => exact ⟨k + 1, by omega, by omega, by go_num, HK2, hbel', HSAME.out⟩
              case measure => simp [intOf]; omega
            · have t3 : ((p : Int) == (q : Int)) = false := by simp; omega
              by_cases hlt : p < q
              · have hC : C = -1 := by rw [hK]; simp [cmpP, hpq, hlt]
                have t4 : decide ((p : Int) < (q : Int)) = true := by simp; omega
                subst hC
                have hl1 : Op.bytesLess s.toList t.toList = true := by rw [hl1]; decide
                have hl2 : Op.bytesLess t.toList s.toList = false := by rw [hl2]; decide
                have he : (s.toList == t.toList) = false := by rw [he]; decide
                clear hC3 HC
                clear hK hpq
                go_wp2_with fail
                go_region
                go_wp2_with fail
                go_region
                go_wp2_with fail
                refine (awake_any _ htr2).mono ?_
                rintro e w3 ⟨rfl, hb3⟩
                go_wp2_with fail
                go_ret
                exact ⟨rfl, below_two hbel'.drew hb3⟩
              · have hC : C = 1 := by rw [hK]; simp [cmpP, hpq, hlt]
                have t4 : decide ((p : Int) < (q : Int)) = false := by simp; omega
                subst hC
                have hl1 : Op.bytesLess s.toList t.toList = false := by rw [hl1]; decide
                have hl2 : Op.bytesLess t.toList s.toList = true := by rw [hl2]; decide
                have he : (s.toList == t.toList) = false := by rw [he]; decide
                clear hC3 HC
                clear hK hpq
                go_wp2_with fail
                go_region
                go_wp2_with fail
                go_region
                go_wp2_with fail
                refine (awake_any _ htr2).mono ?_
                rintro e w3 ⟨rfl, hb3⟩
                go_wp2_with fail
                go_ret
                exact ⟨rfl, below_two hbel'.drew hb3⟩
          · have t1 : decide ((k : Int) < (P : Int)) = true := by simp; omega
            have t2 : decide ((k : Int) < (Q : Int)) = false := by simp; omega
            have hC : C = 1 := by
              rw [HK.out, drop_getD_nat ps k (by rw [← HP.out]; exact hlp), show List.drop k qs = [] from List.drop_eq_nil_of_le (by rw [← HQQ.out]; omega)]; rfl
            subst hC
            have hl1 : Op.bytesLess s.toList t.toList = false := by rw [hl1]; decide
            have hl2 : Op.bytesLess t.toList s.toList = true := by rw [hl2]; decide
            have he : (s.toList == t.toList) = false := by rw [he]; decide
            clear hC3 HC
            clear HK x1 x2 hsame
            go_wp2_with fail
            go_region
            go_wp2_with fail
            refine (awake_any _ htr).mono ?_
            rintro e w3 ⟨rfl, hb3⟩
            go_wp2_with fail
            go_ret
            exact ⟨rfl, below_two hbel' hb3⟩
        · have t1 : decide ((k : Int) < (P : Int)) = false := by simp; omega
          by_cases hlq : k < Q
          · have hC : C = -1 := by
              rw [HK.out, drop_getD_nat qs k (by rw [← HQQ.out]; exact hlq), show List.drop k ps = [] from List.drop_eq_nil_of_le (by rw [← HP.out]; omega)]; rfl
            subst hC
            have hl1 : Op.bytesLess s.toList t.toList = true := by rw [hl1]; decide
            have hl2 : Op.bytesLess t.toList s.toList = false := by rw [hl2]; decide
            have he : (s.toList == t.toList) = false := by rw [he]; decide
            clear hC3 HC
            clear HK x1 x2 hsame
            go_wp2_with fail
            go_region
            go_wp2_with fail
            refine (awake_any _ htr).mono ?_
            rintro e w3 ⟨rfl, hb3⟩
            go_wp2_with fail
            go_ret
            exact ⟨rfl, below_two hbel' hb3⟩
          · have hC : C = 0 := by
              rw [HK.out, show List.drop k qs = [] from List.drop_eq_nil_of_le (by rw [← HQQ.out]; omega), show List.drop k ps = [] from List.drop_eq_nil_of_le (by rw [← HP.out]; omega)]; rfl
            subst hC
            have hl1 : Op.bytesLess s.toList t.toList = false := by rw [hl1]; decide
            have hl2 : Op.bytesLess t.toList s.toList = false := by rw [hl2]; decide
            have he : (s.toList == t.toList) = true := by rw [he]; decide
            clear hC3 HC
            clear HK x1 x2 hsame
            go_wp2_with fail
            go_region
            go_wp2_with fail
            refine (awake_any _ htr).mono ?_
            rintro e w3 ⟨rfl, hb3⟩
            go_wp2_with fail
            go_ret
            exact ⟨rfl, below_two hbel' hb3⟩

end Go.Proofs.YtjlgmoakdaeinaaDoor
