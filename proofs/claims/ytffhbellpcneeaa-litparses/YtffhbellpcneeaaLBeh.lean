/- LitBehind's walk (contracts; nothing is claimed here). -/
import Derived.Test.YtffhbellpcneeaaLLaw
namespace Go.Proofs.Ytffhbellpcneeaa
open Go.RowKit Go.Vf
theorem may_fits : ∀ (p : Prt), may p = true → Fits p := by
  intro p
  induction p using Prt.ind with
  | h k y b m r l ih =>
    intro hm
    have hs := may_shape hm
    generalize hp : Prt.mk k y b m r l = p at hs hm ⊢
    cases hs with
    | null => exact leafFits (by decide) (by decide) (by decide)
    | truth y => exact leafFits (by decide) (by decide) (by decide)
    | num b m =>
      have hn : numOk b m = true := by
        rw [may_eq] at hm
        simp [own2, Prt.kind, Prt.neg, Prt.mag] at hm
        exact hm.1.2
      have := (chk_zero (numOk_chk hn)).1
      exact leafFits (by decide) (by rw [Lib.size_eq]; omega) (by decide)
    | raw k r hk =>
      have hk' : k = 3 ∨ k = 4 ∨ k = 5 ∨ k = 6 := by simpa [isRawK, or_assoc] using hk
      have hrl : r.size ≤ 65536 := by
        rw [may_mk] at hm
        simp only [Bool.and_eq_true, Bool.or_eq_true, beq_iff_eq, decide_eq_true_eq] at hm
        rcases hm.2.1 with ((((q | q) | q) | q) | q) | q
        · omega
        · omega
        · omega
        · exact q.2
        · omega
        · omega
      exact leafFits (by omega) (by decide) hrl
    | tup l' hlen hall =>
      injection hp with e1 e2 e3 e4 e5 e6
      subst e6
      exact .mk (show (0 : Int) ≤ 7 by decide) (show (⟨#[]⟩ : ByteArray).size ≤ 281474976710656 by decide) (show (⟨#[]⟩ : ByteArray).size ≤ 281474976710656 by decide) (by simp only [Prt.items]; omega) (fun x hx => ih x hx (List.all_eq_true.1 hall x hx))
theorem cat_data (a b : ByteArray) : (a ++ b).data.toList = a.data.toList ++ b.data.toList := by simp
theorem cat_size (a b : ByteArray) : (a ++ b).size = a.size + b.size := by simp

set_option maxHeartbeats 4000000 in
set_option maxRecDepth 20000 in
theorem behind_any (s : ByteArray) (hs : s.size < 9223372036854775808) (b : ByteArray) (hb : b.size < 9223372036854775808) (w : World) : Calls Try.prog 6 #[.string s, .string b] w fun e w' => e = .returned (.bool true) ∧ Below w.heap.size w w' := by
  have haw := awake_any w
  have hsl : s.data.toList.length = s.size := (Lib.size_eq s).symm
  have hbl : b.data.toList.length = b.size := (Lib.size_eq b).symm
  by_cases h1 : 134217728 < s.size
  · have t1 : decide ((134217728 : Int) < (s.size : Int)) = true := decide_eq_true (by omega)
    clear hsl hbl
    go_enter Try.func6, Try.ntmps6
    go_wp2_with fail
    refine haw.mono ?_
    rintro _ w1 ⟨rfl, hb1⟩
    go_wp2_with fail
    go_ret
    exact ⟨rfl, hb1⟩
  have t1 : decide ((134217728 : Int) < (s.size : Int)) = false := decide_eq_false (by omega)
  by_cases h2 : 134217728 < b.size
  · have t2 : decide ((134217728 : Int) < (b.size : Int)) = true := decide_eq_true (by omega)
    clear hsl hbl
    go_enter Try.func6, Try.ntmps6
    go_wp2_with fail
    refine haw.mono ?_
    rintro _ w1 ⟨rfl, hb1⟩
    go_wp2_with fail
    go_ret
    exact ⟨rfl, hb1⟩
  have t2 : decide ((134217728 : Int) < (b.size : Int)) = false := decide_eq_false (by omega)
  have hps := fun w' => lparse_any s (by omega) w'
  cases hp : parseL s.data.toList with
  | error x =>
    obtain ⟨why, i⟩ := x
    rw [hp] at hps
    have hw : (why != 0) = true := by
      rcases parseL_err hp with ⟨rfl, _⟩ | ⟨rfl, _⟩ <;> rfl
    clear hp hsl hbl
    go_enter Try.func6, Try.ntmps6
    go_wp2_with fail
    refine haw.mono ?_
    rintro _ w1 ⟨rfl, hb1⟩
    have hp1 := hps w1
    clear hps
    go_wp2_with fail
    refine hp1.mono ?_
    rintro _ w2 ⟨hb2, rfl⟩
    go_wp2_with fail
    go_ret
    exact ⟨rfl, hb1.trans (hb2.mono hb1.size)⟩
  | ok p =>
    rw [hp] at hps
    obtain ⟨hti, hmay, hdep, hle⟩ := parse_inv hp
    rw [hsl] at hle
    by_cases h3 : 65536 < s.size + b.size + 3
    · have t3 : decide ((65536 : Int) < (s.size : Int) + (b.size : Int) + 3) = true := decide_eq_true (by omega)
      clear hp hsl hbl hti
      go_enter Try.func6, Try.ntmps6
      go_wp2_with fail
      refine haw.mono ?_
      rintro _ w1 ⟨rfl, hb1⟩
      have hp1 := hps w1
      clear hps
      go_wp2_with fail
      refine hp1.mono ?_
      rintro _ w2 ⟨hb2, v, rfl, hv⟩
      clear hv
      go_wp2_with fail
      go_ret
      exact ⟨rfl, hb1.trans (hb2.mono hb1.size)⟩
    · have t3 : decide ((65536 : Int) < (s.size : Int) + (b.size : Int) + 3) = false := decide_eq_false (by omega)
      have k1 : parseL ((s ++ ⟨#[32]⟩) ++ b).data.toList = .error (100, s.size) := by
        have e : ((s ++ ⟨#[32]⟩) ++ b).data.toList = s.data.toList ++ 32 :: b.data.toList := by rw [cat_data, cat_data, List.append_assoc]; rfl
        rw [e, ← hsl]
        exact parse_behind (.inl rfl) hp (by rw [hsl, hbl]; omega)
      have k2 : parseL ((s ++ ⟨#[41]⟩) ++ b).data.toList = .error (100, s.size) := by
        have e : ((s ++ ⟨#[41]⟩) ++ b).data.toList = s.data.toList ++ 41 :: b.data.toList := by rw [cat_data, cat_data, List.append_assoc]; rfl
        rw [e, ← hsl]
        exact parse_behind (.inr rfl) hp (by rw [hsl, hbl]; omega)
      have o1 : (⟨#[32]⟩ : ByteArray).size = 1 := rfl
      have o2 : (⟨#[41]⟩ : ByteArray).size = 1 := rfl
      have o3 : (⟨#[40]⟩ : ByteArray).size = 1 := rfl
      have e3 : (((⟨#[40]⟩ : ByteArray) ++ s) ++ ⟨#[41]⟩).data.toList = 40 :: (s.data.toList ++ [41]) := by
        rw [cat_data, cat_data]; rfl
      obtain ⟨k3, k4⟩ := parse_within hp (by rw [hsl]; omega)
      have z1 : ((s ++ ⟨#[32]⟩) ++ b).size ≤ 17179869184 := by rw [cat_size, cat_size]; omega
      have z2 : ((s ++ ⟨#[41]⟩) ++ b).size ≤ 17179869184 := by rw [cat_size, cat_size]; omega
      have z3 : (((⟨#[40]⟩ : ByteArray) ++ s) ++ ⟨#[41]⟩).size ≤ 17179869184 := by rw [cat_size, cat_size]; omega
      have hq1 := fun w' => lparse_any ((s ++ ⟨#[32]⟩) ++ b) z1 w'
      have hq2 := fun w' => lparse_any ((s ++ ⟨#[41]⟩) ++ b) z2 w'
      have hq3 := fun w' => lparse_any (((⟨#[40]⟩ : ByteArray) ++ s) ++ ⟨#[41]⟩) z3 w'
      rw [k1] at hq1
      rw [k2] at hq2
      rw [e3] at hq3
      have HK3 : Hid _ := k3
      have HK4 : Hid _ := k4
      clear hp hsl hbl hti k1 k2 e3 k3 k4 z1 z2 z3 o1 o2 o3
      go_enter Try.func6, Try.ntmps6
      go_wp2_with fail
      refine haw.mono ?_
      rintro _ w1 ⟨rfl, hb1⟩
      have hp1 := hps w1
      clear hps
      go_wp2_with fail
      refine hp1.mono ?_
      rintro _ w2 ⟨hb2, v, rfl, hv⟩
      have HV : Hid (VIn w2 w1.heap.size w2.heap.size v p) := hv
      have hq1' := hq1 w2
      clear hv hp1 hq1
      go_wp2_with fail
      refine hq1'.mono ?_
      rintro _ w3 ⟨hb3, rfl⟩
      have hq2' := hq2 w3
      clear hq1' hq2
      go_wp2_with fail
      refine hq2'.mono ?_
      rintro _ w4 ⟨hb4, rfl⟩
      have hq3' := hq3 w4
      clear hq2' hq3
      go_wp2_with fail
      by_cases hd : dep p = 16
      · obtain ⟨i, hi⟩ := HK3.out hd
        rw [hi] at hq3'
        have t4 : ((dep p : Int) == 16) = true := by rw [beq_iff_eq]; omega
        clear HK3 HK4 hi hd
        refine hq3'.mono ?_
        rintro _ w5 ⟨hb5, rfl⟩
        have hb25 : Below w2.heap.size w2 w5 := hb3.trans ((hb4.mono hb3.size).trans (hb5.mono (Nat.le_trans hb3.size hb4.size)))
        have hdp := (Depth_any v p _ _ w5 (HV.out.old hb25 (Nat.le_refl _))).mono (R' := fun e w' => e = .returned (.int .i64 (dep p : Nat)) ∧ w5 = w') fun _ _ h => ⟨h.1, h.2.symm⟩
        have hfin : Below w.heap.size w w5 := hb1.trans ((hb2.mono hb1.size).trans (hb25.mono (Nat.le_trans hb1.size hb2.size)))
        clear hq3'
        generalize dep p = dp at *
        go_wp2_with fail
        refine hdp.mono ?_
        rintro _ _ ⟨rfl, rfl⟩
        go_wp2_with fail
        go_ret
        exact ⟨rfl, hfin⟩
      · rw [HK4.out hd] at hq3'
        have t4 : ((dep p : Int) == 16) = false := by rw [beq_eq_false_iff_ne]; omega
        clear HK3 HK4 hd
        refine hq3'.mono ?_
        rintro _ w5 ⟨hb5, u, rfl, hu⟩
        have hb25 : Below w2.heap.size w2 w5 := hb3.trans ((hb4.mono hb3.size).trans (hb5.mono (Nat.le_trans hb3.size hb4.size)))
        have hv5 := HV.out.old hb25 (Nat.le_refl _)
        have hdp := (Depth_any v p _ _ w5 hv5).mono (R' := fun e w' => e = .returned (.int .i64 (dep p : Nat)) ∧ w5 = w') fun _ _ h => ⟨h.1, h.2.symm⟩
        have hfin : Below w.heap.size w w5 := hb1.trans ((hb2.mono hb1.size).trans (hb25.mono (Nat.le_trans hb1.size hb2.size)))
        have hf := may_fits p hmay
        obtain ⟨g, h', off, cc, V, rfl, hc0, hc1, hV⟩ : ∃ g h' off cc V, u = .iface 78 (.pointer (some ⟨g, 0, none⟩)) ∧ w5.cell? ⟨g, 0, none⟩ = some (.slice (some ⟨h', off, none⟩) 1 cc) ∧ w5.cell? ⟨h', off + 0, none⟩ = some V ∧ VIn w5 w4.heap.size w5.heap.size V p := by
          cases hu with
          | @tup _ g cc a V q1 q2 q3 q4 q5 =>
            obtain ⟨h', off, e, r1, r2, r3⟩ := q4 0 (by simp)
            subst e
            exact ⟨g, h', off, cc, V 0, rfl, q3.cell 0, r3, q5 0 (by simp)⟩
        have hal := (asList_tup ⟨g, 0, none⟩ w5).mono (R' := fun e w' => e = .returned (.tuple #[.iface 78 (.pointer (some ⟨g, 0, none⟩)), .bool true]) ∧ w5 = w') fun _ _ h => ⟨h.1, h.2.symm⟩
        have n1 := (len_any g _ 1 cc w5 hc0 (by omega)).mono (R' := fun e w' => e = .returned (.int .i64 1) ∧ w5 = w') fun _ _ h => ⟨h.1, h.2.symm⟩
        have n2 := (at_in g h' off 1 cc 0 V w5 (by omega) (by omega) hc0 hc1).mono (R' := fun e w' => e = .returned V ∧ w5 = w') fun _ _ h => ⟨h.1, h.2.symm⟩
        have m1 := mLen ⟨g, 0, none⟩
        have m2 := mAt ⟨g, 0, none⟩
        have hsm := Same_any p p hf hf V v _ _ _ _ w5 (Nat.le_refl _) hb25.size hV hv5
        rw [eqP_self] at hsm
        clear hq3' hu hv5 hV hf HV hc0 hc1
        generalize dep p = dp at *
        go_wp2_with fail
        refine hdp.mono ?_
        rintro _ _ ⟨rfl, rfl⟩
        go_wp2_with fail
        refine hal.mono ?_
        rintro _ _ ⟨rfl, rfl⟩
        go_wp2_with fail
        refine n1.mono ?_
        rintro _ _ ⟨rfl, rfl⟩
        go_wp2_with fail
        refine n2.mono ?_
        rintro _ _ ⟨rfl, rfl⟩
        go_wp2_with fail
        refine hsm.mono ?_
        rintro _ w6 ⟨rfl, hb6⟩
        go_wp2_with fail
        go_ret
        exact ⟨rfl, hfin.trans (hb6.mono hfin.size)⟩
theorem max_lt {n : Nat} (h : n ≤ maxLen) : n < 9223372036854775808 := by unfold maxLen at h; omega
theorem behind_open (s : ByteArray) (hs : s.size ≤ maxLen) (b : ByteArray) (hb : b.size ≤ maxLen) (w : World) : Calls Try.prog 6 #[.string s, .string b] w fun e w' => e = .returned (.bool true) ∧ Below w.heap.size w w' :=
  behind_any s (max_lt hs) b (max_lt hb) w
end Go.Proofs.Ytffhbellpcneeaa
