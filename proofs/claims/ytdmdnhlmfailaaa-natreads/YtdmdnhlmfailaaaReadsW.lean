/- What NatReads comes to (a walk; nothing is claimed here). -/
import Derived.Test.YtdmdnhlmfailaaaBackW
namespace Go.Proofs.Ytdmdnhlmfailaaa
open Go.ChangeShapes Go.WideShapes Go.ChangeAt Go.RowKit Go.Vf

set_option maxHeartbeats 2000000 in
theorem reads_ok (s : ByteArray) (a n : Nat) (b : Bool) (M : ByteArray) (hs : s.size ≤ 2147483647) (han : a + n ≤ s.size)
    (HK : Hid (∀ w : World, Calls Try.prog 15 #[.string s, .int .i64 (a : Int)] w fun e w' => e = .returned (.tuple #[numV b M, .int .i64 ((a : Int) + (n : Int)), .int .i64 0]) ∧ Below w.heap.size w w'))
    (HS : Hid (∀ w : World, Calls Try.prog 13 #[numV b M] w fun e w' => e = .returned (.tuple #[.string (s.extract a (a + n)), .int .i64 0]) ∧ Below w.heap.size w w'))
    (HPP : (∃ (pb : Bool) (PM : ByteArray), Hid (∀ w : World, Calls Try.prog 16 #[.string s] w fun e w' => e = .returned (.tuple #[numV pb PM, .int .i64 0]) ∧ Below w.heap.size w w') ∧ Hid (∀ w : World, Calls Try.prog 14 #[numV pb PM] w fun e w' => e = .returned (.tuple #[.string s, .int .i64 0]) ∧ Below w.heap.size w w')) ∨
      ∃ e : Int, (e = 20 ∨ e = 21) ∧ Hid (∀ w : World, Calls Try.prog 16 #[.string s] w fun r w' => r = .returned (.tuple #[numV false ⟨#[]⟩, .int .i64 e]) ∧ Below w.heap.size w w')) (w : World) :
    Calls Try.prog 6 #[.string s, .int .i64 (a : Int)] w fun e w' => e = .returned (.bool true) ∧ Below w.heap.size w w' := by
  have heq : ∀ w : World, (Op.equalIn 10000 26 (.agg #[.bool false, .string ⟨#[]⟩]) (.agg #[.bool false, .string ⟨#[]⟩])).run Try.prog w = .ok true w := fun w => by rw [num_eq]; simp
  go_enter Try.func6, Try.ntmps6
  go_wp2_with fail
  refine (HK.out _).mono ?_
  rintro e w1 ⟨rfl, hW⟩
  replace hW := hW.alloc hW.size (.cells #[.bool b, .string M] 26)
  clear HK
  go_wp2_with fail
  refine (HS.out _).mono ?_
  rintro e w2 ⟨rfl, hb2⟩
  replace hW := hW.trans (hb2.mono hW.size)
  clear hb2 HS
  rcases HPP with ⟨pb, PM, HP, HT⟩ | ⟨c, hc, HP⟩
  · go_wp2_with fail
    refine (HP.out _).mono ?_
    rintro e w5 ⟨rfl, hb5⟩
    replace hW := hW.trans (hb5.mono hW.size)
    clear hb5 HP
    replace hW := hW.alloc hW.size (.cells #[.bool pb, .string PM] 26)
    go_wp2_with fail
    refine (HT.out _).mono ?_
    rintro e w6 ⟨rfl, hb6⟩
    replace hW := hW.trans (hb6.mono hW.size)
    clear hb6 HT
    go_wp2_with fail
    refine (awake_any _).mono ?_
    rintro e w8 ⟨rfl, hb8⟩
    go_wp2_with fail
    go_ret
    exact ⟨rfl, hW.trans (hb8.mono hW.size)⟩
  · go_wp2_with fail
    refine (HP.out _).mono ?_
    rintro e w5 ⟨rfl, hb5⟩
    replace hW := hW.trans (hb5.mono hW.size)
    clear hb5 HP
    replace hW := hW.alloc hW.size (.cells #[.bool false, .string ⟨#[]⟩] 26)
    rcases hc with rfl | rfl
    · go_wp2_with fail
      refine (awake_any _).mono ?_
      rintro e w8 ⟨rfl, hb8⟩
      go_wp2_with fail
      go_ret
      exact ⟨rfl, hW.trans (hb8.mono hW.size)⟩
    · go_wp2_with fail
      refine (awake_any _).mono ?_
      rintro e w8 ⟨rfl, hb8⟩
      go_wp2_with fail
      go_ret
      exact ⟨rfl, hW.trans (hb8.mono hW.size)⟩

set_option maxHeartbeats 2000000 in
theorem reads_bad (s : ByteArray) (a n : Nat) (hs : s.size ≤ 2147483647) (han : a + n ≤ s.size)
    (HK : Hid (∀ w : World, Calls Try.prog 15 #[.string s, .int .i64 (a : Int)] w fun e w' => e = .returned (.tuple #[numV false ⟨#[]⟩, .int .i64 ((a : Int) + (n : Int)), .int .i64 20]) ∧ Below w.heap.size w w'))
    (HPP : (∃ (pb : Bool) (PM : ByteArray), Hid (∀ w : World, Calls Try.prog 16 #[.string s] w fun e w' => e = .returned (.tuple #[numV pb PM, .int .i64 0]) ∧ Below w.heap.size w w') ∧ Hid (∀ w : World, Calls Try.prog 14 #[numV pb PM] w fun e w' => e = .returned (.tuple #[.string s, .int .i64 0]) ∧ Below w.heap.size w w')) ∨
      ∃ e : Int, (e = 20 ∨ e = 21) ∧ Hid (∀ w : World, Calls Try.prog 16 #[.string s] w fun r w' => r = .returned (.tuple #[numV false ⟨#[]⟩, .int .i64 e]) ∧ Below w.heap.size w w')) (w : World) :
    Calls Try.prog 6 #[.string s, .int .i64 (a : Int)] w fun e w' => e = .returned (.bool true) ∧ Below w.heap.size w w' := by
  have heq : ∀ w : World, (Op.equalIn 10000 26 (.agg #[.bool false, .string ⟨#[]⟩]) (.agg #[.bool false, .string ⟨#[]⟩])).run Try.prog w = .ok true w := fun w => by rw [num_eq]; simp
  go_enter Try.func6, Try.ntmps6
  go_wp2_with fail
  refine (HK.out _).mono ?_
  rintro e w1 ⟨rfl, hW⟩
  replace hW := hW.alloc hW.size (.cells #[.bool false, .string ⟨#[]⟩] 26)
  clear HK
  rcases HPP with ⟨pb, PM, HP, HT⟩ | ⟨c, hc, HP⟩
  · go_wp2_with fail
    refine (HP.out _).mono ?_
    rintro e w5 ⟨rfl, hb5⟩
    replace hW := hW.trans (hb5.mono hW.size)
    clear hb5 HP
    replace hW := hW.alloc hW.size (.cells #[.bool pb, .string PM] 26)
    go_wp2_with fail
    refine (HT.out _).mono ?_
    rintro e w6 ⟨rfl, hb6⟩
    replace hW := hW.trans (hb6.mono hW.size)
    clear hb6 HT
    go_wp2_with fail
    refine (awake_any _).mono ?_
    rintro e w8 ⟨rfl, hb8⟩
    go_wp2_with fail
    go_ret
    exact ⟨rfl, hW.trans (hb8.mono hW.size)⟩
  · go_wp2_with fail
    refine (HP.out _).mono ?_
    rintro e w5 ⟨rfl, hb5⟩
    replace hW := hW.trans (hb5.mono hW.size)
    clear hb5 HP
    replace hW := hW.alloc hW.size (.cells #[.bool false, .string ⟨#[]⟩] 26)
    rcases hc with rfl | rfl
    · go_wp2_with fail
      refine (awake_any _).mono ?_
      rintro e w8 ⟨rfl, hb8⟩
      go_wp2_with fail
      go_ret
      exact ⟨rfl, hW.trans (hb8.mono hW.size)⟩
    · go_wp2_with fail
      refine (awake_any _).mono ?_
      rintro e w8 ⟨rfl, hb8⟩
      go_wp2_with fail
      go_ret
      exact ⟨rfl, hW.trans (hb8.mono hW.size)⟩

set_option maxHeartbeats 2000000 in
theorem reads_arg (s : ByteArray) (i : Int) (hs : s.size ≤ 2147483647) (hi : i < 0 ∨ (s.size : Int) < i)
    (HK : Hid (∀ w : World, Calls Try.prog 15 #[.string s, .int .i64 i] w fun e w' => e = .returned (.tuple #[numV false ⟨#[]⟩, .int .i64 0, .int .i64 1]) ∧ Below w.heap.size w w'))
    (HPP : (∃ (pb : Bool) (PM : ByteArray), Hid (∀ w : World, Calls Try.prog 16 #[.string s] w fun e w' => e = .returned (.tuple #[numV pb PM, .int .i64 0]) ∧ Below w.heap.size w w') ∧ Hid (∀ w : World, Calls Try.prog 14 #[numV pb PM] w fun e w' => e = .returned (.tuple #[.string s, .int .i64 0]) ∧ Below w.heap.size w w')) ∨
      ∃ e : Int, (e = 20 ∨ e = 21) ∧ Hid (∀ w : World, Calls Try.prog 16 #[.string s] w fun r w' => r = .returned (.tuple #[numV false ⟨#[]⟩, .int .i64 e]) ∧ Below w.heap.size w w')) (w : World) :
    Calls Try.prog 6 #[.string s, .int .i64 i] w fun e w' => e = .returned (.bool true) ∧ Below w.heap.size w w' := by
  have heq : ∀ w : World, (Op.equalIn 10000 26 (.agg #[.bool false, .string ⟨#[]⟩]) (.agg #[.bool false, .string ⟨#[]⟩])).run Try.prog w = .ok true w := fun w => by rw [num_eq]; simp
  by_cases hneg : i < 0
  · clear hi
    go_enter Try.func6, Try.ntmps6
    go_wp2_with fail
    refine (HK.out _).mono ?_
    rintro e w1 ⟨rfl, hW⟩
    replace hW := hW.alloc hW.size (.cells #[.bool false, .string ⟨#[]⟩] 26)
    clear HK
    rcases HPP with ⟨pb, PM, HP, HT⟩ | ⟨c, hc, HP⟩
    · go_wp2_with fail
      refine (HP.out _).mono ?_
      rintro e w5 ⟨rfl, hb5⟩
      replace hW := hW.trans (hb5.mono hW.size)
      clear hb5 HP
      replace hW := hW.alloc hW.size (.cells #[.bool pb, .string PM] 26)
      go_wp2_with fail
      refine (HT.out _).mono ?_
      rintro e w6 ⟨rfl, hb6⟩
      replace hW := hW.trans (hb6.mono hW.size)
      clear hb6 HT
      go_wp2_with fail
      refine (awake_any _).mono ?_
      rintro e w8 ⟨rfl, hb8⟩
      go_wp2_with fail
      go_ret
      exact ⟨rfl, hW.trans (hb8.mono hW.size)⟩
    · go_wp2_with fail
      refine (HP.out _).mono ?_
      rintro e w5 ⟨rfl, hb5⟩
      replace hW := hW.trans (hb5.mono hW.size)
      clear hb5 HP
      replace hW := hW.alloc hW.size (.cells #[.bool false, .string ⟨#[]⟩] 26)
      rcases hc with rfl | rfl
      · go_wp2_with fail
        refine (awake_any _).mono ?_
        rintro e w8 ⟨rfl, hb8⟩
        go_wp2_with fail
        go_ret
        exact ⟨rfl, hW.trans (hb8.mono hW.size)⟩
      · go_wp2_with fail
        refine (awake_any _).mono ?_
        rintro e w8 ⟨rfl, hb8⟩
        go_wp2_with fail
        go_ret
        exact ⟨rfl, hW.trans (hb8.mono hW.size)⟩
  · have hgt : (s.size : Int) < i := by omega
    clear hi
    go_enter Try.func6, Try.ntmps6
    go_wp2_with fail
    refine (HK.out _).mono ?_
    rintro e w1 ⟨rfl, hW⟩
    replace hW := hW.alloc hW.size (.cells #[.bool false, .string ⟨#[]⟩] 26)
    clear HK
    rcases HPP with ⟨pb, PM, HP, HT⟩ | ⟨c, hc, HP⟩
    · go_wp2_with fail
      refine (HP.out _).mono ?_
      rintro e w5 ⟨rfl, hb5⟩
      replace hW := hW.trans (hb5.mono hW.size)
      clear hb5 HP
      replace hW := hW.alloc hW.size (.cells #[.bool pb, .string PM] 26)
      go_wp2_with fail
      refine (HT.out _).mono ?_
      rintro e w6 ⟨rfl, hb6⟩
      replace hW := hW.trans (hb6.mono hW.size)
      clear hb6 HT
      go_wp2_with fail
      refine (awake_any _).mono ?_
      rintro e w8 ⟨rfl, hb8⟩
      go_wp2_with fail
      go_ret
      exact ⟨rfl, hW.trans (hb8.mono hW.size)⟩
    · go_wp2_with fail
      refine (HP.out _).mono ?_
      rintro e w5 ⟨rfl, hb5⟩
      replace hW := hW.trans (hb5.mono hW.size)
      clear hb5 HP
      replace hW := hW.alloc hW.size (.cells #[.bool false, .string ⟨#[]⟩] 26)
      rcases hc with rfl | rfl
      · go_wp2_with fail
        refine (awake_any _).mono ?_
        rintro e w8 ⟨rfl, hb8⟩
        go_wp2_with fail
        go_ret
        exact ⟨rfl, hW.trans (hb8.mono hW.size)⟩
      · go_wp2_with fail
        refine (awake_any _).mono ?_
        rintro e w8 ⟨rfl, hb8⟩
        go_wp2_with fail
        go_ret
        exact ⟨rfl, hW.trans (hb8.mono hW.size)⟩

set_option maxHeartbeats 400000 in
theorem reads_big (s : ByteArray) (i : Int) (hs : ¬ s.size ≤ 2147483647) (w : World) :
    Calls Try.prog 6 #[.string s, .int .i64 i] w fun e w' => e = .returned (.bool true) ∧ Below w.heap.size w w' := by
  go_enter Try.func6, Try.ntmps6
  go_wp2_with fail
  go_ret
  exact ⟨rfl, Below.refl _ _⟩

theorem reads_walk (s : ByteArray) (_w0 : s.size ≤ maxLen) (i : Int) (_w1 : (Lit.int .i64 i).wf = true) (w : World) :
    Calls Try.prog 6 #[.string s, .int .i64 i] w fun e w' => e = .returned (.bool true) ∧ Below w.heap.size w w' := by
  by_cases hs : s.size ≤ 2147483647
  · have hs' : s.size ≤ 17179869184 := by omega
    have hsl : s.data.toList.length = s.size := (Lib.size_eq s).symm
    have HPP : (∃ (pb : Bool) (PM : ByteArray), Hid (∀ w : World, Calls Try.prog 16 #[.string s] w fun e w' => e = .returned (.tuple #[numV pb PM, .int .i64 0]) ∧ Below w.heap.size w w') ∧ Hid (∀ w : World, Calls Try.prog 14 #[numV pb PM] w fun e w' => e = .returned (.tuple #[.string s, .int .i64 0]) ∧ Below w.heap.size w w')) ∨
        ∃ e : Int, (e = 20 ∨ e = 21) ∧ Hid (∀ w : World, Calls Try.prog 16 #[.string s] w fun r w' => r = .returned (.tuple #[numV false ⟨#[]⟩, .int .i64 e]) ∧ Below w.heap.size w w') := by
      obtain ⟨r, hr⟩ : ∃ r, parseR s.data.toList = r := ⟨_, rfl⟩
      cases r with
      | ok z =>
        obtain ⟨pb, PM⟩ := z
        obtain ⟨hc, hp⟩ := print_parse hr
        refine .inl ⟨pb, bs PM, fun w => ?_, fun w => ?_⟩
        · have h := parse_any s hs' w
          rw [hr] at h
          exact h
        · refine print_is pb (bs PM) ?_ 0 (by show _ = _; rw [bs_data]; exact hc) s (by show _ = _; rw [if_pos rfl, bs_data, hp]) w
          rw [bs_size]
          have := (chk_zero hc).1
          omega
      | error e =>
        refine .inr ⟨e, parse_err hr, fun w => ?_⟩
        have h := parse_any s hs' w
        rw [hr] at h
        exact h
    by_cases hi : i < 0 ∨ (s.size : Int) < i
    · exact reads_arg s i hs hi (fun w => take_arg s i hi w) HPP w
    · obtain ⟨a, rfl⟩ := Int.eq_ofNat_of_zero_le (show 0 ≤ i by omega)
      have ha : a ≤ s.size := by omega
      have hle := tk_le (s.data.toList.drop a)
      obtain ⟨⟨n, o⟩, hd⟩ : ∃ r, tk (s.data.toList.drop a) = r := ⟨_, rfl⟩
      rw [hd, List.length_drop, hsl] at hle
      have hle' : a + n ≤ s.size := by have : n ≤ s.size - a := hle; omega
      cases o with
      | none =>
        refine reads_bad s a n hs hle' (fun w => ?_) HPP w
        have h := take_any s a ha hs' w
        rw [hd] at h
        exact h
      | some z =>
        obtain ⟨b, M⟩ := z
        obtain ⟨hc, r, hl, hn⟩ := tk_inv hd
        refine reads_ok s a n b (bs M) hs hle' (fun w => ?_) (fun w => ?_) HPP w
        · have h := take_any s a ha hs' w
          rw [hd] at h
          exact h
        · refine put_is b (bs M) ?_ 0 (by show _ = _; rw [bs_data]; exact hc) _ ?_ w
          · rw [bs_size]
            have := (chk_zero hc).1
            omega
          · show _ = _
            rw [if_pos rfl, bs_data]
            have : (s.extract a (a + n)).data.toList = (s.data.toList.drop a).take n := by simp
            rw [this, hl, hn, List.take_left]
  · exact reads_big s i hs w
end Go.Proofs.Ytdmdnhlmfailaaa
