/- What UtfJoined does (a contract; nothing is claimed here). -/
import Derived.Test.YtjlgmoakdaeinaaDoorAwake
import Derived.Test.YtjlgmoakdaeinaaDoorSpl
namespace Go.Proofs.YtjlgmoakdaeinaaDoor
open Go.RowKit Go.Vf

theorem size3 : ∀ w : World, (Go.sizeOf 3).run Tryd.prog w = .ok 1 w := fun w => by kernel_rfl

/-- 'c[:n]' of a list of the call's own. -/
theorem own_front {W : World} {base : Nat} {v : Value} {xs ys : List Int} (h : IOwn W base v (xs ++ ys)) :
    ∃ v1, (∀ w : World, (Instr.slice 25 v none (some (.int .i64 (xs.length : Int))) none).run Tryd.prog w = .ok v1 w) ∧ Ints W.heap.size W v1 xs := by
  have ht' : Tryd.prog.underlying 25 = some (.slice (Tryd.prog.elem 25)) := by simp [Program.elem, Tryd.underlying25]
  have he : Tryd.prog.elem 25 = 3 := by simp [Program.elem, Tryd.underlying25]
  rcases h.form with ⟨rfl, hnil⟩ | ⟨g, cap, rfl, hb, hlt, hcap, hc, _⟩
  · obtain ⟨rfl, rfl⟩ := List.append_eq_nil_iff.1 hnil
    refine ⟨.slice none 0 0, fun w => ?_, .inl ⟨none, 0, rfl, rfl⟩⟩
    rw [run_slice_h w 25 _ _ _ ht' .i64 _ (by simp) (by simp), he, size3]
    rfl
  · by_cases hx : xs = []
    · subst hx
      refine ⟨.slice (some ⟨g, 0, none⟩) 0 cap, fun w => ?_, .inl ⟨_, _, rfl, rfl⟩⟩
      · rw [run_slice_h w 25 _ _ _ ht' .i64 _ (by omega) (by simp), he, size3]
        by_cases hc0 : cap = 0
        · simp [Result.andThen, sliced, hc0]
        · simp [Result.andThen, sliced, Addr.add, hc0]
    · have hpos : 0 < xs.length := Nat.pos_of_ne_zero fun h => hx (List.eq_nil_of_length_eq_zero h)
      have hle : xs.length ≤ cap := by rw [List.length_append] at hcap; omega
      refine ⟨.slice (some ⟨g, 0, none⟩) xs.length cap, fun w => ?_, .inr ⟨g, 0, cap, rfl, hlt, fun j hj => ?_⟩⟩
      · rw [run_slice_h w 25 _ _ _ ht' .i64 _ (by omega) (by omega), he, size3]
        simp [Result.andThen, sliced, Addr.add, show cap ≠ 0 by omega]
      · rw [Nat.zero_add, hc j (by rw [List.length_append]; omega), List.getElem?_append_left hj]

/-- 'c[n:]' of a list of the call's own. -/
theorem own_tail {W : World} {base : Nat} {v : Value} {xs ys : List Int} (h : IOwn W base v (xs ++ ys)) :
    ∃ v1, (∀ w : World, (Instr.slice 25 v (some (.int .i64 (xs.length : Int))) none none).run Tryd.prog w = .ok v1 w) ∧ Ints W.heap.size W v1 ys := by
  have ht' : Tryd.prog.underlying 25 = some (.slice (Tryd.prog.elem 25)) := by simp [Program.elem, Tryd.underlying25]
  have he : Tryd.prog.elem 25 = 3 := by simp [Program.elem, Tryd.underlying25]
  rcases h.form with ⟨rfl, hnil⟩ | ⟨g, cap, rfl, hb, hlt, hcap, hc, _⟩
  · obtain ⟨rfl, rfl⟩ := List.append_eq_nil_iff.1 hnil
    refine ⟨.slice none 0 0, fun w => ?_, .inl ⟨none, 0, rfl, rfl⟩⟩
    rw [run_slice_l w 25 _ _ _ ht' .i64 _ (by simp) (by simp), he, size3]
    rfl
  · rw [List.length_append] at hcap
    by_cases hn : cap = xs.length
    · have hy : ys = [] := List.eq_nil_of_length_eq_zero (by omega)
      subst hy
      refine ⟨.slice (some ⟨g, 0, none⟩) 0 0, fun w => ?_, .inl ⟨_, _, rfl, rfl⟩⟩
      rw [run_slice_l w 25 _ _ _ ht' .i64 _ (by omega) (by simp), he, size3]
      simp [Result.andThen, sliced, hn]
    · refine ⟨.slice (some ⟨g, xs.length, none⟩) ys.length (cap - xs.length), fun w => ?_, .inr ⟨g, xs.length, cap - xs.length, rfl, hlt, fun j hj => ?_⟩⟩
      · rw [run_slice_l w 25 _ _ _ ht' .i64 _ (by omega) (by rw [List.length_append]; omega), he, size3]
        by_cases h1 : xs.length = 0
        · simp [Result.andThen, sliced, Addr.add, h1]
        · simp [Result.andThen, sliced, Addr.add, h1]; omega
      · rw [hc (xs.length + j) (by rw [List.length_append]; omega), List.getElem?_append_right (by omega)]
        simp


theorem append_data (a b : ByteArray) : (a ++ b).data.toList = a.data.toList ++ b.data.toList := by simp
theorem append_size (a b : ByteArray) : (a ++ b).size = a.size + b.size := by simp

set_option maxHeartbeats 1000000 in
set_option maxRecDepth 20000 in
theorem join_walk (s : ByteArray) (_hs : s.size ≤ maxLen) (t : ByteArray) (_ht : t.size ≤ maxLen) (w : World) (ht : Tabs w) :
    Calls Tryd.prog 7 #[.string s, .string t] w fun e w' => e = .returned (.bool true) ∧ Below w.heap.size w w' := by
  by_cases hbig : (268435455 : Int) < (s.size : Int)
  · go_enter Tryd.func7, Tryd.ntmps7
    go_wp2_with fail
    go_ret
    exact ⟨rfl, Below.refl _ _⟩
  · by_cases hbig2 : (268435455 : Int) < (t.size : Int)
    · go_enter Tryd.func7, Tryd.ntmps7
      go_wp2_with fail
      go_ret
      exact ⟨rfl, Below.refl _ _⟩
    · obtain ⟨ps, rest, hs, hps, hrest⟩ := split_bytes s.data.toList
      obtain ⟨qs, rest2, hq, hqs, hrest2⟩ := split_bytes t.data.toList
      have HS : Hid (s.data.toList = encs ps ++ rest) := hs
      have HQ : Hid (t.data.toList = encs qs ++ rest2) := hq
      clear hs hq
      go_enter Tryd.func7, Tryd.ntmps7
      go_wp2_with fail
      refine (points_any t (by omega) qs rest2 HQ.out hqs hrest2 w ht).mono ?_
      rintro e w1 ⟨hpts, hb1⟩
      have ht1 := ht.own hb1
      rcases hpts with ⟨hr2, v1, rfl, hv1⟩ | ⟨hr2, rfl⟩
      rotate_left
      · go_wp2_with fail
        refine (check_any s (by omega) ps rest HS.out hps hrest w1 ht1).mono ?_
        rintro e w2 ⟨rfl, hb2⟩
        have ht2 := ht1.own hb2
        go_wp2_with fail
        refine (awake_any w2 ht2).mono ?_
        rintro e w3 ⟨rfl, hb3⟩
        go_wp2_with fail
        go_ret
        exact ⟨rfl, below_two (below_two hb1 hb2) hb3⟩
      obtain ⟨a1, c1, rfl⟩ := hv1.ints.val
      have i1 := hv1.ints
      rw [List.length_map] at i1 ⊢
      clear hv1
      go_wp2_with fail
      refine (check_any s (by omega) ps rest HS.out hps hrest w1 ht1).mono ?_
      rintro e w2 ⟨rfl, hb2⟩
      have hb2' := below_two hb1 hb2
      have ht2 := ht1.own hb2
      have i2 := i1.below hb2 (Nat.le_refl _)
      clear i1
      by_cases hr : rest = []
      · rw [show chkOf ps rest = -1 by rw [chkOf, if_pos hr]]
        have HS1 : Hid (s.data.toList = encs ps ++ []) := by show _ = _; rw [HS.out, hr]
        have HJ : Hid ((s ++ t).data.toList = encs (ps ++ qs) ++ []) := by
          show _ = _
          rw [append_data, HS1.out, HQ.out, hr2, encs_append]
          simp
        have hszS : s.size ≤ 268435455 := by omega
        go_wp2_with fail
        refine (points_any s (by omega) ps [] HS1.out hps (.inl rfl) w2 ht2).mono ?_
        rintro e w3 ⟨⟨_, v3, rfl, hv3⟩ | ⟨h, _⟩, hb3⟩
        rotate_left
        · exact absurd rfl h
        have hb3' := below_two hb2' hb3
        have ht3 := ht.own hb3'
        obtain ⟨a3, c3, rfl⟩ := hv3.ints.val
        have i3 := hv3.ints
        rw [List.length_map] at i3 ⊢
        have i23 := i2.below hb3 hb2.size
        clear hv3 i2
        go_wp2_with fail
        refine (points_any (s ++ t) (by rw [append_size]; omega) (ps ++ qs) [] HJ.out (fun p hp => (List.mem_append.1 hp).elim (hps p) (hqs p)) (.inl rfl) w3 ht3).mono ?_
        rintro e w4 ⟨⟨_, v4, rfl, hv4⟩ | ⟨h, _⟩, hb4⟩
        rotate_left
        · exact absurd rfl h
        have hb4' := below_two hb3' hb4
        have ht4 := ht.own hb4'
        have i24 := i23.below hb4 (Nat.le_trans hb2.size hb3.size)
        have i34 := i3.below hb4 (Nat.le_refl _)
        rw [List.map_append] at hv4
        obtain ⟨x, hx, jx⟩ := own_front hv4
        obtain ⟨y, hy, jy⟩ := own_tail hv4
        obtain ⟨a4, c4, rfl⟩ := hv4.ints.val
        have hl4 : ((ps.map fun p : Nat => (p : Int)) ++ (qs.map fun p : Nat => (p : Int))).length = ps.length + qs.length := by simp
        rw [hl4] at hx hy ⊢
        rw [List.length_map] at hx hy
        have hPl : ps.length ≤ 268435455 := by
          have h1 := encs_length_ge ps
          have h2 := Lib.size_eq s
          rw [HS1.out, List.append_nil] at h2
          omega
        have hQl : qs.length ≤ 268435455 := by
          have h1 := encs_length_ge qs
          have h2 := Lib.size_eq t
          rw [HQ.out, List.length_append] at h2
          omega
        clear hv4 hl4 i3 i23
        go_wp2_with fail
        refine (sameInts_any x (.slice a3 ps.length c3) (ps.map fun p : Nat => (p : Int)) (ps.map fun p : Nat => (p : Int)) _ _ w4 jx i34 (by simp; omega) (by simp; omega)).mono ?_
        rintro e w5 ⟨rfl, hb5⟩
        rw [show decide ((ps.map fun p : Nat => (p : Int)) = (ps.map fun p : Nat => (p : Int))) = true from decide_eq_true rfl]
        have hb5' := below_two hb4' hb5
        have jy5 := jy.below hb5 (Nat.le_refl _)
        have i25 := i24.below hb5 (Nat.le_trans (Nat.le_trans hb2.size hb3.size) hb4.size)
        go_wp2_with fail
        refine (sameInts_any y (.slice a1 qs.length c1) (qs.map fun p : Nat => (p : Int)) (qs.map fun p : Nat => (p : Int)) _ _ w5 jy5 i25 (by simp; omega) (by simp; omega)).mono ?_
        rintro e w6 ⟨rfl, hb6⟩
        rw [show decide ((qs.map fun p : Nat => (p : Int)) = (qs.map fun p : Nat => (p : Int))) = true from decide_eq_true rfl]
        have hb6' := below_two hb5' hb6
        have ht6 := ht.own hb6'
        go_wp2_with fail
        refine (check_any (s ++ t) (by rw [append_size]; omega) (ps ++ qs) [] HJ.out (fun p hp => (List.mem_append.1 hp).elim (hps p) (hqs p)) (.inl rfl) w6 ht6).mono ?_
        rintro e w7 ⟨rfl, hb7⟩
        rw [show chkOf (ps ++ qs) [] = -1 by rw [chkOf, if_pos rfl]]
        have hb7' := below_two hb6' hb7
        have ht7 := ht.own hb7'
        go_wp2_with fail
        refine (awake_any w7 ht7).mono ?_
        rintro e w8 ⟨rfl, hb8⟩
        go_wp2_with fail
        go_ret
        exact ⟨rfl, below_two hb7' hb8⟩
      · have hk : (encs ps).length < s.size := by
          have h2 := Lib.size_eq s
          rw [HS.out, List.length_append] at h2
          have h3 : rest.length ≠ 0 := fun h => hr (List.eq_nil_of_length_eq_zero h)
          omega
        have hkf : (s.extract 0 (encs ps).length).data.toList = encs ps ++ [] := by
          rw [Lib.extract_data, List.drop_zero, HS.out, List.append_nil]
          simp
        obtain ⟨k, hkk⟩ : ∃ k, k = (encs ps).length := ⟨_, rfl⟩
        rw [show chkOf ps rest = (k : Int) by rw [chkOf, if_neg hr, hkk]]
        rw [← hkk] at hk hkf
        have HS1 : Hid ((s.extract 0 k).data.toList = encs ps ++ []) := hkf
        have HSZ : Hid ((s.extract 0 k).size ≤ 268435455) := by show _ ≤ _; simp; omega
        clear hkf hkk
        go_wp2_with fail
        have HJ : Hid ((s.extract 0 k ++ t).data.toList = encs (ps ++ qs) ++ []) := by
          show _ = _
          rw [append_data, HS1.out, HQ.out, hr2, encs_append]
          simp
        have hszS := HSZ.out
        generalize s.extract 0 k = s at HS1 HJ hszS ⊢
        refine (points_any s (by omega) ps [] HS1.out hps (.inl rfl) w2 ht2).mono ?_
        rintro e w3 ⟨⟨_, v3, rfl, hv3⟩ | ⟨h, _⟩, hb3⟩
        rotate_left
        · exact absurd rfl h
        have hb3' := below_two hb2' hb3
        have ht3 := ht.own hb3'
        obtain ⟨a3, c3, rfl⟩ := hv3.ints.val
        have i3 := hv3.ints
        rw [List.length_map] at i3 ⊢
        have i23 := i2.below hb3 hb2.size
        clear hv3 i2
        go_wp2_with fail
        refine (points_any (s ++ t) (by rw [append_size]; omega) (ps ++ qs) [] HJ.out (fun p hp => (List.mem_append.1 hp).elim (hps p) (hqs p)) (.inl rfl) w3 ht3).mono ?_
        rintro e w4 ⟨⟨_, v4, rfl, hv4⟩ | ⟨h, _⟩, hb4⟩
        rotate_left
        · exact absurd rfl h
        have hb4' := below_two hb3' hb4
        have ht4 := ht.own hb4'
        have i24 := i23.below hb4 (Nat.le_trans hb2.size hb3.size)
        have i34 := i3.below hb4 (Nat.le_refl _)
        rw [List.map_append] at hv4
        obtain ⟨x, hx, jx⟩ := own_front hv4
        obtain ⟨y, hy, jy⟩ := own_tail hv4
        obtain ⟨a4, c4, rfl⟩ := hv4.ints.val
        have hl4 : ((ps.map fun p : Nat => (p : Int)) ++ (qs.map fun p : Nat => (p : Int))).length = ps.length + qs.length := by simp
        rw [hl4] at hx hy ⊢
        rw [List.length_map] at hx hy
        have hPl : ps.length ≤ 268435455 := by
          have h1 := encs_length_ge ps
          have h2 := Lib.size_eq s
          rw [HS1.out, List.append_nil] at h2
          omega
        have hQl : qs.length ≤ 268435455 := by
          have h1 := encs_length_ge qs
          have h2 := Lib.size_eq t
          rw [HQ.out, List.length_append] at h2
          omega
        clear hv4 hl4 i3 i23
        go_wp2_with fail
        refine (sameInts_any x (.slice a3 ps.length c3) (ps.map fun p : Nat => (p : Int)) (ps.map fun p : Nat => (p : Int)) _ _ w4 jx i34 (by simp; omega) (by simp; omega)).mono ?_
        rintro e w5 ⟨rfl, hb5⟩
        rw [show decide ((ps.map fun p : Nat => (p : Int)) = (ps.map fun p : Nat => (p : Int))) = true from decide_eq_true rfl]
        have hb5' := below_two hb4' hb5
        have jy5 := jy.below hb5 (Nat.le_refl _)
        have i25 := i24.below hb5 (Nat.le_trans (Nat.le_trans hb2.size hb3.size) hb4.size)
        go_wp2_with fail
        refine (sameInts_any y (.slice a1 qs.length c1) (qs.map fun p : Nat => (p : Int)) (qs.map fun p : Nat => (p : Int)) _ _ w5 jy5 i25 (by simp; omega) (by simp; omega)).mono ?_
        rintro e w6 ⟨rfl, hb6⟩
        rw [show decide ((qs.map fun p : Nat => (p : Int)) = (qs.map fun p : Nat => (p : Int))) = true from decide_eq_true rfl]
        have hb6' := below_two hb5' hb6
        have ht6 := ht.own hb6'
        go_wp2_with fail
        refine (check_any (s ++ t) (by rw [append_size]; omega) (ps ++ qs) [] HJ.out (fun p hp => (List.mem_append.1 hp).elim (hps p) (hqs p)) (.inl rfl) w6 ht6).mono ?_
        rintro e w7 ⟨rfl, hb7⟩
        rw [show chkOf (ps ++ qs) [] = -1 by rw [chkOf, if_pos rfl]]
        have hb7' := below_two hb6' hb7
        have ht7 := ht.own hb7'
        go_wp2_with fail
        refine (awake_any w7 ht7).mono ?_
        rintro e w8 ⟨rfl, hb8⟩
        go_wp2_with fail
        go_ret
        exact ⟨rfl, below_two hb7' hb8⟩

end Go.Proofs.YtjlgmoakdaeinaaDoor
