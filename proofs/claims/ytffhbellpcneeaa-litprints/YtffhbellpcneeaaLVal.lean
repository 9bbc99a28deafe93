/- What lit's readValue does (contracts; nothing is claimed here). -/
import Derived.Test.YtffhbellpcneeaaLLoop
namespace Go.Proofs.Ytffhbellpcneeaa
open Go.RowKit Go.Vf
theorem calls_lost {P : Program} {f : FuncId} {args : Array Value} {w : World} {F : Ending → World → Prop} {e0 : Ending} {R : World → Prop} (v0 : Value) (hc : Calls P f args w fun e w' => e = e0 ∧ R w') (hF : ∀ w', R w' → F e0 w') (_fake : Hid False → F (.returned v0) w) : Calls P f args w F :=
  hc.mono (by rintro e w' ⟨rfl, h⟩; exact hF w' h)
theorem need_q (i : Int) (w : World) : Calls Try.prog 31 #[.bool true, .int .i64 i] w fun e w' => e = .returned (.tuple #[]) ∧ w' = w := (need_yes i w).mono fun _ _ h => ⟨h.1, h.2.symm⟩
theorem RdE.after {B k : Nat} {s : ByteArray} {g : Got} {w w3 : World} {e : Ending} {w' : World} (h : RdE B s g w3 e w') (hr : Rk B s k w w3) : RdE B s g w e w' := by
  unfold RdE at h ⊢
  split at h
  · obtain ⟨v, k', h1, h2, h3, h4, h5⟩ := h
    exact ⟨v, k', h1, h2, h3, h4.mono (Nat.le_refl _) hr.size, hr.trans h5⟩
  · obtain ⟨k', h1, h2, h3, h4⟩ := h
    exact ⟨k', h1, h2, h3, hr.below.trans h4⟩
theorem RdE.cases {B : Nat} {s : ByteArray} {g : Got} {w : World} {e : Ending} {w' : World} (h : RdE B s g w e w') : (∃ v, e = .returned v) ∨ ∃ i : Int, e = lostL 100 i := by
  unfold RdE at h
  split at h
  · obtain ⟨v, k', h1, h2, h3, h4, h5⟩ := h
    exact .inl ⟨v, h3⟩
  · obtain ⟨k', h1, h2, h3, h4⟩ := h
    exact .inr ⟨_, h3⟩
theorem dig_cases {c : UInt8} (h : isDig c = true) : c = 48 ∨ c = 49 ∨ c = 50 ∨ c = 51 ∨ c = 52 ∨ c = 53 ∨ c = 54 ∨ c = 55 ∨ c = 56 ∨ c = 57 := by
  have := all_bytes (P := fun c => !isDig c || decide (c = 48 ∨ c = 49 ∨ c = 50 ∨ c = 51 ∨ c = 52 ∨ c = 53 ∨ c = 54 ∨ c = 55 ∨ c = 56 ∨ c = 57)) (by kernel_rfl) c
  rw [h] at this
  simpa using this
set_option maxHeartbeats 8000000 in
set_option maxRecDepth 20000 in
theorem readValue_step (f : List UInt8 → Got) (D : Nat) (hD : D ≤ 16) (B : Nat) (s : ByteArray) (hs : s.size ≤ 65536)
    (hlist : ∀ (k : Nat) (hk : k < s.size), s[k] = 40 → ∀ (w : World), Rdr w B s k → Calls Try.prog 52 #[.pointer (some ⟨B, 0, none⟩), .int .i64 ((D : Int) + 1)] w (RdE B s (f (s.data.toList.drop (k + 1))) w))
    (k : Nat) (hk : k ≤ s.size) (w : World) (h : Rdr w B s k) : Calls Try.prog 30 #[.pointer (some ⟨B, 0, none⟩), .int .i64 (D : Int)] w (RdE B s (rdV f (s.data.toList.drop k)) w) := by
  obtain ⟨c0, c1, f1⟩ := h.two
  obtain ⟨G, hG⟩ : ∃ G, rdV f (s.data.toList.drop k) = G := ⟨_, rfl⟩
  have HG : Hid (rdV f (s.data.toList.drop k) = G) := hG
  have HR : Hid (Rdr w B s k) := h
  rw [hG]
  clear hG h
  by_cases hlt : k < s.size
  · have hj : (k : Int) < (s.size : Int) := by omega
    have hd := drop_at s k hlt
    have HRD : Hid (G = rdV f (s[k] :: s.data.toList.drop (k + 1))) := by show _ = _; rw [← HG.out, hd]
    have HDR : Hid (s[k] :: s.data.toList.drop (k + 1) = s.data.toList.drop k) := hd.symm
    clear HG hd
    go_enter Try.func30, Try.ntmps30
    go_wp2_with fail
    go_quiet (first | (go_at_call 31; refine Calls.quiet_of_same (need_q _ _)))
    have hr2 := (Rk.refl HR.out).draws nq
    generalize w.drewN nq = w2 at *
    obtain ⟨c0, c1, f1⟩ := hr2.rdr.two
    go_wp2_with fail
    go_quiet (fail)
    have hr3 := hr2.draws nq
    generalize w2.drewN nq = w3 at *
    clear hr2 c0 c1 f1
    by_cases h45 : s[k] = 45
    · have t45 : ((s[k].toNat : Int) == 45) = true := u8_eqn _ 45 (by omega) h45
      have HGEQ : G = numR s[k] (s.data.toList.drop (k + 1)) := by rw [HRD.out, rdV, if_pos (by rw [h45]; decide)]
      clear h45
      have hcall := readNumber_any B k s hs hlt w3 hr3.rdr
      have HGN : Hid (G = numR s[k] (s.data.toList.drop (k + 1))) := HGEQ
      clear HGEQ HRD hlist HDR
      go_wp2_with fail
      refine hcall.mono ?_
      rintro e w4 hE
      rcases hE.cases with ⟨v, rfl⟩ | ⟨i, rfl⟩
      · go_wp2_with fail
        go_ret
        rw [HGN.out]
        exact hE.after hr3
      · refine ⟨rfl, ?_⟩
        rw [HGN.out]
        exact hE.after hr3
    have t45 : ((s[k].toNat : Int) == 45) = false := u8_nen _ 45 h45
    by_cases h48 : s[k] = 48
    · have t48 : ((s[k].toNat : Int) == 48) = true := u8_eqn _ 48 (by omega) h48
      have HGEQ : G = numR s[k] (s.data.toList.drop (k + 1)) := by rw [HRD.out, rdV, if_pos (by rw [h48]; decide)]
      clear h45 h48
      have hcall := readNumber_any B k s hs hlt w3 hr3.rdr
      have HGN : Hid (G = numR s[k] (s.data.toList.drop (k + 1))) := HGEQ
      clear HGEQ HRD hlist HDR
      go_wp2_with fail
      refine hcall.mono ?_
      rintro e w4 hE
      rcases hE.cases with ⟨v, rfl⟩ | ⟨i, rfl⟩
      · go_wp2_with fail
        go_ret
        rw [HGN.out]
        exact hE.after hr3
      · refine ⟨rfl, ?_⟩
        rw [HGN.out]
        exact hE.after hr3
    have t48 : ((s[k].toNat : Int) == 48) = false := u8_nen _ 48 h48
    by_cases h49 : s[k] = 49
    · have t49 : ((s[k].toNat : Int) == 49) = true := u8_eqn _ 49 (by omega) h49
      have HGEQ : G = numR s[k] (s.data.toList.drop (k + 1)) := by rw [HRD.out, rdV, if_pos (by rw [h49]; decide)]
      clear h45 h48 h49
      have hcall := readNumber_any B k s hs hlt w3 hr3.rdr
      have HGN : Hid (G = numR s[k] (s.data.toList.drop (k + 1))) := HGEQ
      clear HGEQ HRD hlist HDR
      go_wp2_with fail
      refine hcall.mono ?_
      rintro e w4 hE
      rcases hE.cases with ⟨v, rfl⟩ | ⟨i, rfl⟩
      · go_wp2_with fail
        go_ret
        rw [HGN.out]
        exact hE.after hr3
      · refine ⟨rfl, ?_⟩
        rw [HGN.out]
        exact hE.after hr3
    have t49 : ((s[k].toNat : Int) == 49) = false := u8_nen _ 49 h49
    by_cases h50 : s[k] = 50
    · have t50 : ((s[k].toNat : Int) == 50) = true := u8_eqn _ 50 (by omega) h50
      have HGEQ : G = numR s[k] (s.data.toList.drop (k + 1)) := by rw [HRD.out, rdV, if_pos (by rw [h50]; decide)]
      clear h45 h48 h49 h50
      have hcall := readNumber_any B k s hs hlt w3 hr3.rdr
      have HGN : Hid (G = numR s[k] (s.data.toList.drop (k + 1))) := HGEQ
      clear HGEQ HRD hlist HDR
      go_wp2_with fail
      refine hcall.mono ?_
      rintro e w4 hE
      rcases hE.cases with ⟨v, rfl⟩ | ⟨i, rfl⟩
      · go_wp2_with fail
        go_ret
        rw [HGN.out]
        exact hE.after hr3
      · refine ⟨rfl, ?_⟩
        rw [HGN.out]
        exact hE.after hr3
    have t50 : ((s[k].toNat : Int) == 50) = false := u8_nen _ 50 h50
    by_cases h51 : s[k] = 51
    · have t51 : ((s[k].toNat : Int) == 51) = true := u8_eqn _ 51 (by omega) h51
      have HGEQ : G = numR s[k] (s.data.toList.drop (k + 1)) := by rw [HRD.out, rdV, if_pos (by rw [h51]; decide)]
      clear h45 h48 h49 h50 h51
      have hcall := readNumber_any B k s hs hlt w3 hr3.rdr
      have HGN : Hid (G = numR s[k] (s.data.toList.drop (k + 1))) := HGEQ
      clear HGEQ HRD hlist HDR
      go_wp2_with fail
      refine hcall.mono ?_
      rintro e w4 hE
      rcases hE.cases with ⟨v, rfl⟩ | ⟨i, rfl⟩
      · go_wp2_with fail
        go_ret
        rw [HGN.out]
        exact hE.after hr3
      · refine ⟨rfl, ?_⟩
        rw [HGN.out]
        exact hE.after hr3
    have t51 : ((s[k].toNat : Int) == 51) = false := u8_nen _ 51 h51
    by_cases h52 : s[k] = 52
    · have t52 : ((s[k].toNat : Int) == 52) = true := u8_eqn _ 52 (by omega) h52
      have HGEQ : G = numR s[k] (s.data.toList.drop (k + 1)) := by rw [HRD.out, rdV, if_pos (by rw [h52]; decide)]
      clear h45 h48 h49 h50 h51 h52
      have hcall := readNumber_any B k s hs hlt w3 hr3.rdr
      have HGN : Hid (G = numR s[k] (s.data.toList.drop (k + 1))) := HGEQ
      clear HGEQ HRD hlist HDR
      go_wp2_with fail
      refine hcall.mono ?_
      rintro e w4 hE
      rcases hE.cases with ⟨v, rfl⟩ | ⟨i, rfl⟩
      · go_wp2_with fail
        go_ret
        rw [HGN.out]
        exact hE.after hr3
      · refine ⟨rfl, ?_⟩
        rw [HGN.out]
        exact hE.after hr3
    have t52 : ((s[k].toNat : Int) == 52) = false := u8_nen _ 52 h52
    by_cases h53 : s[k] = 53
    · have t53 : ((s[k].toNat : Int) == 53) = true := u8_eqn _ 53 (by omega) h53
      have HGEQ : G = numR s[k] (s.data.toList.drop (k + 1)) := by rw [HRD.out, rdV, if_pos (by rw [h53]; decide)]
      clear h45 h48 h49 h50 h51 h52 h53
      have hcall := readNumber_any B k s hs hlt w3 hr3.rdr
      have HGN : Hid (G = numR s[k] (s.data.toList.drop (k + 1))) := HGEQ
      clear HGEQ HRD hlist HDR
      go_wp2_with fail
      refine hcall.mono ?_
      rintro e w4 hE
      rcases hE.cases with ⟨v, rfl⟩ | ⟨i, rfl⟩
      · go_wp2_with fail
        go_ret
        rw [HGN.out]
        exact hE.after hr3
      · refine ⟨rfl, ?_⟩
        rw [HGN.out]
        exact hE.after hr3
    have t53 : ((s[k].toNat : Int) == 53) = false := u8_nen _ 53 h53
    by_cases h54 : s[k] = 54
    · have t54 : ((s[k].toNat : Int) == 54) = true := u8_eqn _ 54 (by omega) h54
      have HGEQ : G = numR s[k] (s.data.toList.drop (k + 1)) := by rw [HRD.out, rdV, if_pos (by rw [h54]; decide)]
      clear h45 h48 h49 h50 h51 h52 h53 h54
      have hcall := readNumber_any B k s hs hlt w3 hr3.rdr
      have HGN : Hid (G = numR s[k] (s.data.toList.drop (k + 1))) := HGEQ
      clear HGEQ HRD hlist HDR
      go_wp2_with fail
      refine hcall.mono ?_
      rintro e w4 hE
      rcases hE.cases with ⟨v, rfl⟩ | ⟨i, rfl⟩
      · go_wp2_with fail
        go_ret
        rw [HGN.out]
        exact hE.after hr3
      · refine ⟨rfl, ?_⟩
        rw [HGN.out]
        exact hE.after hr3
    have t54 : ((s[k].toNat : Int) == 54) = false := u8_nen _ 54 h54
    by_cases h55 : s[k] = 55
    · have t55 : ((s[k].toNat : Int) == 55) = true := u8_eqn _ 55 (by omega) h55
      have HGEQ : G = numR s[k] (s.data.toList.drop (k + 1)) := by rw [HRD.out, rdV, if_pos (by rw [h55]; decide)]
      clear h45 h48 h49 h50 h51 h52 h53 h54 h55
      have hcall := readNumber_any B k s hs hlt w3 hr3.rdr
      have HGN : Hid (G = numR s[k] (s.data.toList.drop (k + 1))) := HGEQ
      clear HGEQ HRD hlist HDR
      go_wp2_with fail
      refine hcall.mono ?_
      rintro e w4 hE
      rcases hE.cases with ⟨v, rfl⟩ | ⟨i, rfl⟩
      · go_wp2_with fail
        go_ret
        rw [HGN.out]
        exact hE.after hr3
      · refine ⟨rfl, ?_⟩
        rw [HGN.out]
        exact hE.after hr3
    have t55 : ((s[k].toNat : Int) == 55) = false := u8_nen _ 55 h55
    by_cases h56 : s[k] = 56
    · have t56 : ((s[k].toNat : Int) == 56) = true := u8_eqn _ 56 (by omega) h56
      have HGEQ : G = numR s[k] (s.data.toList.drop (k + 1)) := by rw [HRD.out, rdV, if_pos (by rw [h56]; decide)]
      clear h45 h48 h49 h50 h51 h52 h53 h54 h55 h56
      have hcall := readNumber_any B k s hs hlt w3 hr3.rdr
      have HGN : Hid (G = numR s[k] (s.data.toList.drop (k + 1))) := HGEQ
      clear HGEQ HRD hlist HDR
      go_wp2_with fail
      refine hcall.mono ?_
      rintro e w4 hE
      rcases hE.cases with ⟨v, rfl⟩ | ⟨i, rfl⟩
      · go_wp2_with fail
        go_ret
        rw [HGN.out]
        exact hE.after hr3
      · refine ⟨rfl, ?_⟩
        rw [HGN.out]
        exact hE.after hr3
    have t56 : ((s[k].toNat : Int) == 56) = false := u8_nen _ 56 h56
    by_cases h57 : s[k] = 57
    · have t57 : ((s[k].toNat : Int) == 57) = true := u8_eqn _ 57 (by omega) h57
      have HGEQ : G = numR s[k] (s.data.toList.drop (k + 1)) := by rw [HRD.out, rdV, if_pos (by rw [h57]; decide)]
      clear h45 h48 h49 h50 h51 h52 h53 h54 h55 h56 h57
      have hcall := readNumber_any B k s hs hlt w3 hr3.rdr
      have HGN : Hid (G = numR s[k] (s.data.toList.drop (k + 1))) := HGEQ
      clear HGEQ HRD hlist HDR
      go_wp2_with fail
      refine hcall.mono ?_
      rintro e w4 hE
      rcases hE.cases with ⟨v, rfl⟩ | ⟨i, rfl⟩
      · go_wp2_with fail
        go_ret
        rw [HGN.out]
        exact hE.after hr3
      · refine ⟨rfl, ?_⟩
        rw [HGN.out]
        exact hE.after hr3
    have t57 : ((s[k].toNat : Int) == 57) = false := u8_nen _ 57 h57
    have hnum : ¬ (s[k] = 45 ∨ isDig s[k] = true) := by
      rintro (h | h)
      · exact h45 h
      · rcases dig_cases h with h | h | h | h | h | h | h | h | h | h <;> contradiction
    by_cases h120 : s[k] = 120
    · have t120 : ((s[k].toNat : Int) == 120) = true := u8_eqn _ 120 (by omega) h120
      have HGEQ : G = bytesR (s.data.toList.drop (k + 1)) := by rw [HRD.out, rdV, if_neg hnum, if_pos h120]
      clear hnum h45 h48 h49 h50 h51 h52 h53 h54 h55 h56 h57 h120
      have hcall := readBytes_any B k s hs hlt w3 hr3.rdr
      have HGN : Hid (G = bytesR (s.data.toList.drop (k + 1))) := HGEQ
      clear HGEQ HRD hlist HDR
      go_wp2_with fail
      refine hcall.mono ?_
      rintro e w4 hE
      rcases hE.cases with ⟨v, rfl⟩ | ⟨i, rfl⟩
      · go_wp2_with fail
        go_ret
        rw [HGN.out]
        exact hE.after hr3
      · refine ⟨rfl, ?_⟩
        rw [HGN.out]
        exact hE.after hr3
    have t120 : ((s[k].toNat : Int) == 120) = false := u8_nen _ 120 h120
    by_cases h35 : s[k] = 35
    · have t35 : ((s[k].toNat : Int) == 35) = true := u8_eqn _ 35 (by omega) h35
      have HGEQ : G = idR (s.data.toList.drop (k + 1)) := by rw [HRD.out, rdV, if_neg hnum, if_neg h120, if_pos h35]
      clear hnum h45 h48 h49 h50 h51 h52 h53 h54 h55 h56 h57 h120 h35
      have hcall := readID_any B k s hs hlt w3 hr3.rdr
      have HGN : Hid (G = idR (s.data.toList.drop (k + 1))) := HGEQ
      clear HGEQ HRD hlist HDR
      go_wp2_with fail
      refine hcall.mono ?_
      rintro e w4 hE
      rcases hE.cases with ⟨v, rfl⟩ | ⟨i, rfl⟩
      · go_wp2_with fail
        go_ret
        rw [HGN.out]
        exact hE.after hr3
      · refine ⟨rfl, ?_⟩
        rw [HGN.out]
        exact hE.after hr3
    have t35 : ((s[k].toNat : Int) == 35) = false := u8_nen _ 35 h35
    by_cases h39 : s[k] = 39
    · have t39 : ((s[k].toNat : Int) == 39) = true := u8_eqn _ 39 (by omega) h39
      have HGEQ : G = quoR 5 39 (s.data.toList.drop (k + 1)) := by rw [HRD.out, rdV, if_neg hnum, if_neg h120, if_neg h35, if_pos h39]
      have hcq := readQuoted_any 5 39 (.inl rfl) B k s hs hlt h39 w3 hr3.rdr
      clear hnum h45 h48 h49 h50 h51 h52 h53 h54 h55 h56 h57 h120 h35 h39
      have hcall := hcq
      have HGN : Hid (G = quoR 5 39 (s.data.toList.drop (k + 1))) := HGEQ
      clear HGEQ HRD hlist HDR
      go_wp2_with fail
      refine hcall.mono ?_
      rintro e w4 hE
      rcases hE.cases with ⟨v, rfl⟩ | ⟨i, rfl⟩
      · go_wp2_with fail
        go_ret
        rw [HGN.out]
        exact hE.after hr3
      · refine ⟨rfl, ?_⟩
        rw [HGN.out]
        exact hE.after hr3
    have t39 : ((s[k].toNat : Int) == 39) = false := u8_nen _ 39 h39
    by_cases h34 : s[k] = 34
    · have t34 : ((s[k].toNat : Int) == 34) = true := u8_eqn _ 34 (by omega) h34
      have HGEQ : G = quoR 6 34 (s.data.toList.drop (k + 1)) := by rw [HRD.out, rdV, if_neg hnum, if_neg h120, if_neg h35, if_neg h39, if_pos h34]
      have hcq := readQuoted_any 6 34 (.inr rfl) B k s hs hlt h34 w3 hr3.rdr
      clear hnum h45 h48 h49 h50 h51 h52 h53 h54 h55 h56 h57 h120 h35 h39 h34
      have hcall := hcq
      have HGN : Hid (G = quoR 6 34 (s.data.toList.drop (k + 1))) := HGEQ
      clear HGEQ HRD hlist HDR
      go_wp2_with fail
      refine hcall.mono ?_
      rintro e w4 hE
      rcases hE.cases with ⟨v, rfl⟩ | ⟨i, rfl⟩
      · go_wp2_with fail
        go_ret
        rw [HGN.out]
        exact hE.after hr3
      · refine ⟨rfl, ?_⟩
        rw [HGN.out]
        exact hE.after hr3
    have t34 : ((s[k].toNat : Int) == 34) = false := u8_nen _ 34 h34
    by_cases h40 : s[k] = 40
    · have t40 : ((s[k].toNat : Int) == 40) = true := u8_eqn _ 40 (by omega) h40
      have HGEQ : G = f (s.data.toList.drop (k + 1)) := by rw [HRD.out, rdV, if_neg hnum, if_neg h120, if_neg h35, if_neg h39, if_neg h34, if_pos h40]
      have hcq := hlist k hlt h40 w3 hr3.rdr
      clear hnum h45 h48 h49 h50 h51 h52 h53 h54 h55 h56 h57 h120 h35 h39 h34 h40
      have hcall := hcq
      have HGN : Hid (G = f (s.data.toList.drop (k + 1))) := HGEQ
      clear HGEQ HRD hlist HDR
      go_wp2_with fail
      refine hcall.mono ?_
      rintro e w4 hE
      rcases hE.cases with ⟨v, rfl⟩ | ⟨i, rfl⟩
      · go_wp2_with fail
        go_ret
        rw [HGN.out]
        exact hE.after hr3
      · refine ⟨rfl, ?_⟩
        rw [HGN.out]
        exact hE.after hr3
    have t40 : ((s[k].toNat : Int) == 40) = false := u8_nen _ 40 h40
    have HGEQ : G = wordR (s.data.toList.drop k) := by rw [HRD.out, rdV, if_neg hnum, if_neg h120, if_neg h35, if_neg h39, if_neg h34, if_neg h40, HDR.out]
    clear hnum h45 h48 h49 h50 h51 h52 h53 h54 h55 h56 h57 h120 h35 h39 h34 h40
    have hcall := readWord_any B k s hs hk w3 hr3.rdr
    have HGN : Hid (G = wordR (s.data.toList.drop k)) := HGEQ
    clear HGEQ HRD hlist HDR
    go_wp2_with fail
    refine hcall.mono ?_
    rintro e w4 hE
    rcases hE.cases with ⟨v, rfl⟩ | ⟨i, rfl⟩
    · go_wp2_with fail
      go_ret
      rw [HGN.out]
      exact hE.after hr3
    · refine ⟨rfl, ?_⟩
      rw [HGN.out]
      exact hE.after hr3
  · have hj : decide ((k : Int) < (s.size : Int)) = false := decide_eq_false (by omega)
    have hj2 : decide (k < s.size) = false := decide_eq_false hlt
    have HGN : Hid (G = .error (s.size - k)) := by
      show _ = _
      rw [← HG.out, drop_end s k (by omega), rdV, show s.size - k = 0 by omega]
    clear HG hlist
    go_enter Try.func30, Try.ntmps30
    go_wp2_with fail
    go_region_with (first | (go_at_call 31; refine calls_lost (.tuple #[]) (need_not _ _) (fun x hx => ?_) ?_; (· subst hx; exact ⟨rfl, by rw [HGN.out]; exact ⟨k, hk, rfl, rfl, (Below.refl _ _).drew⟩⟩); intro hX))
    all_goals exact (Hid.out (p := False) (by assumption)).elim

theorem readValue_any (B : Nat) (s : ByteArray) (hs : s.size ≤ 65536) : ∀ (n D : Nat), D + n = 16 → ∀ (k : Nat), k ≤ s.size → ∀ (w : World), Rdr w B s k → Calls Try.prog 30 #[.pointer (some ⟨B, 0, none⟩), .int .i64 (D : Int)] w (RdE B s (rd n (s.data.toList.drop k)) w)
  | 0, D, hD, k, hk, w, h => by
    refine readValue_step (fun t => .error (t.length + 1)) D (by omega) B s hs (fun k hk hq w h => ?_) k hk w h
    refine (list_deep B k (D + 1) s (by omega) (by omega) w h).mono ?_
    rintro _ w' ⟨rfl, hb⟩
    refine ⟨k, by omega, ?_, rfl, hb⟩
    rw [drop_len]; omega
  | n + 1, D, hD, k, hk, w, h => by
    refine readValue_step (fun t => tupR (rd n) (t.length + 1) [] t) D (by omega) B s hs (fun k hk hq w h => ?_) k hk w h
    exact readList_any n (D + 1) (by omega) (by omega) B s hs (fun k hk w h => readValue_any B s hs n (D + 1) (by omega) k hk w h) k hk hq w h
end Go.Proofs.Ytffhbellpcneeaa
