/- What the document's unquoted of layer 10 does (contracts; nothing is claimed here). -/
import Derived.Test.YtffhbellpcneeaaJ10
import Derived.Test.YtffhbellpcneeaaJ14
namespace Go.Proofs.Ytffhbellpcneeaa
open Go.RowKit Go.Vf
/-- What unquoted answers. -/
def UqE (s : ByteArray) (g : Option (List UInt8 × List UInt8)) (w : World) (e : Ending) (w' : World) : Prop := Below w.heap.size w w' ∧ match g with
  | some (r, rest) => ∃ k' : Nat, k' ≤ s.size ∧ rest = s.data.toList.drop k' ∧ e = .returned (.tuple #[.string (bs r), .int .i64 (k' : Int)])
  | none => e = .returned (.tuple #[.string ⟨#[]⟩, .int .i64 (-1)])
theorem say_neg (c : UInt8) : (decide (sayV c < 0)) = !isHex c := by
  rcases say_three c with ⟨h1, h2, h3⟩ | ⟨h1, h2, h3, h4⟩ | ⟨h1, h2, h3⟩
  · simp [h1, h2]
  · simp [h3]; omega
  · simp [h2]; omega
theorem map_app (x : Option (List UInt8 × List UInt8)) (acc : List UInt8) (c : UInt8) : ((x.map fun y => (c :: y.1, y.2)).map fun y => (acc ++ y.1, y.2)) = x.map fun y => ((acc ++ [c]) ++ y.1, y.2) := by
  cases x <;> simp
theorem u8_neb {a b : UInt8} (h : a ≠ b) : ((a.toNat : Int) != (b.toNat : Int)) = true := by rw [bne, u8_ne a b h]; rfl
theorem u8_eqb {a b : UInt8} (h : a = b) : ((a.toNat : Int) != (b.toNat : Int)) = false := by rw [bne, u8_eq a b h]; rfl
theorem u8_nenb (a : UInt8) (n : Nat) (h : a ≠ UInt8.ofNat n) : ((a.toNat : Int) != (n : Int)) = true := by rw [bne, u8_nen a n h]; rfl
theorem u8_eqnb (a : UInt8) (n : Nat) (hn : n < 256) (h : a = UInt8.ofNat n) : ((a.toNat : Int) != (n : Int)) = false := by rw [bne, u8_eqn a n hn h]; rfl

theorem quo_eq (q : UInt8) (F T : List UInt8) (j : Nat) (hj : j ≤ T.length) : (q :: (F ++ [q]) = (q :: T).take (j + 1)) ↔ T = F ++ q :: T.drop j := by
  rw [List.take_succ_cons, List.cons.injEq]
  constructor
  · rintro ⟨_, h⟩
    have e := (List.take_append_drop j T).symm
    rw [← h] at e
    simpa using e
  · intro h
    refine ⟨rfl, ?_⟩
    have hl : F.length + 1 = j := by
      have := congrArg List.length h
      simp at this
      omega
    have e : T = (F ++ [q]) ++ T.drop j := by simpa using h
    rw [e, List.take_left' (by simp; omega)]

set_option maxHeartbeats 4000000 in
set_option maxRecDepth 20000 in
theorem runquoted_any (q : UInt8) (hq : q = 39 ∨ q = 34) (s : ByteArray) (hs : s.size ≤ 65536) (k : Nat) (hk : k < s.size) (hqk : s[k] = q) (w : World) :
    Calls Try.prog 58 #[.string s, .int .i64 (k : Int)] w (UqE s (unqF q (s.data.toList.drop (k + 1))) w) := by
  have h92 : (92 : UInt8) ≠ q := by rcases hq with rfl | rfl <;> decide
  obtain ⟨G, hG⟩ : ∃ G, unqF q (s.data.toList.drop (k + 1)) = G := ⟨_, rfl⟩
  have HGn : Hid (skim q (s.data.toList.drop (k + 1)) = none → G = none) := fun h => by rw [← hG]; exact unq_not_none hq h
  have HGy : Hid (∀ l rest, skim q (s.data.toList.drop (k + 1)) = some (l, rest) → s.data.toList.drop (k + 1) = l.flatMap (spelt q) ++ q :: rest → G = some (l, rest)) := fun l rest _ h2 => by rw [← hG]; exact unq_of_skim hq h2
  have HGx : Hid (∀ l rest, skim q (s.data.toList.drop (k + 1)) = some (l, rest) → s.data.toList.drop (k + 1) ≠ l.flatMap (spelt q) ++ q :: rest → G = none) := fun l rest h1 h2 => by rw [← hG]; exact unq_not_so hq h1 h2
  have hdk := drop_at s k hk
  rw [hqk] at hdk
  have HDK : Hid _ := hdk
  rw [hG]
  clear hG hdk
  have hk1 : (k : Int) < (s.size : Int) := by omega
  have H92 : Hid ((92 : UInt8) ≠ q) := h92
  have HQ : Hid (q = 39 ∨ q = 34) := hq
  clear hq h92
  go_enter Try.func58, Try.ntmps58
  go_wp2_with fail
  clear hqk
  go_loopw [7, 8] (fun v iv wr => ∃ (m : Nat) (acc : List UInt8), k + 1 ≤ m ∧ m ≤ s.size ∧ acc.length ≤ m ∧ iv = .int .i64 (m : Int) ∧ BOwn 5 wr w.heap.size v acc ∧ Below w.heap.size w wr ∧ w.heap.size ≤ wr.heap.size ∧ Hid (skim q (s.data.toList.drop (k + 1)) = (skim q (s.data.toList.drop m)).map fun y => (acc ++ y.1, y.2))) (fun _ iv _ => s.size - (intOf iv).toNat)
  case atStart => exact ⟨k + 1, [], Nat.le_refl _, by omega, by simp, by simp, BOwn.nil _ _ _, Below.refl _ _, Nat.le_refl _, by show _ = _; cases skim q (s.data.toList.drop (k + 1)) <;> simp⟩
  case round =>
    obtain ⟨m, acc, hkm, hm, hal, rfl, hown, hb, hle, HU⟩ := hrel
    by_cases hlt : m < s.size
    · have tl : decide ((m : Int) < (s.size : Int)) = true := decide_eq_true (by omega)
      have hd := drop_at s m hlt
      have hml : (m : Int) < (s.size : Int) := by omega
      by_cases hc : s[m] = q
      · have tq : ((s[m].toNat : Int) != (q.toNat : Int)) = false := u8_eqb hc
        have tl2 : decide ((s.size : Int) ≤ (m : Int)) = false := decide_eq_false (by omega)
        have hsk : skim q (s.data.toList.drop (k + 1)) = some (acc, s.data.toList.drop (m + 1)) := by rw [HU.out, hd, hc, skim_end]; simp
        have HY : Hid _ := HGy.out _ _ hsk
        have HX : Hid _ := HGx.out _ _ hsk
        have hcv := run_string_own (P := Try.prog) wr 61 9 5 Try.underlying61 Try.underlying5 Try.underlying9 w.heap.size _ _ hown
        have hqd := rquoted_any q (bs acc) (by rw [bs_size]; omega) wr
        rw [bs_data] at hqd
        have HOW : Hid _ := hown
        have hT : s.data.toList.drop (m + 1) = (s.data.toList.drop (k + 1)).drop (m - k) := by rw [drop_more, show k + 1 + (m - k) = m + 1 by omega]
        have hqe := quo_eq q (acc.flatMap (spelt q)) (s.data.toList.drop (k + 1)) (m - k) (by rw [drop_len]; omega)
        rw [← hT, ← HDK.out, show m - k + 1 = m + 1 - k by omega] at hqe
        have hx : s.extract k (m + 1) = bs ((s.data.toList.drop k).take (m + 1 - k)) := by rw [← ext_mid, show k + (m + 1 - k) = m + 1 by omega]
        have hne : ((bs (q :: (acc.flatMap (spelt q) ++ [q]))).toList != (bs ((s.data.toList.drop k).take (m + 1 - k))).toList) = !decide (q :: (acc.flatMap (spelt q) ++ [q]) = (s.data.toList.drop k).take (m + 1 - k)) := by
          rw [bs_toList, bs_toList, bne]; congr 1
          rw [Bool.eq_iff_iff, beq_iff_eq, decide_eq_true_iff]
        have hcv1 := hcv
        have hDD : ∃ D : Bool, ((bs (q :: (acc.flatMap (spelt q) ++ [q]))).toList != (bs ((s.data.toList.drop k).take (m + 1 - k))).toList) = D ∧ Hid (D = false → G = some (acc, s.data.toList.drop (m + 1))) ∧ Hid (D = true → G = none) := by
          refine ⟨_, hne, fun h => ?_, fun h => ?_⟩
          · simp only [Bool.not_eq_false', decide_eq_true_iff] at h
            exact HY.out (hqe.1 h)
          · simp only [Bool.not_eq_true', decide_eq_false_iff_not] at h
            exact HX.out fun e => h (hqe.2 e)
        obtain ⟨D, hD, HD0, HD1⟩ := hDD
        generalize q :: (acc.flatMap (spelt q) ++ [q]) = Y at *
        generalize bs ((s.data.toList.drop k).take (m + 1 - k)) = X at *
        clear HU HGn HGy HGx hsk hd hown hqe hT hne HY HX
        generalize hAC : bs acc = AC at *
        have HAC : Hid (bs acc = AC) := hAC
        clear hAC
        obtain ⟨av, cv, rfl⟩ := row_val HOW.out
        have hm1 : m + 1 ≤ s.size := hlt
        go_wp2_with fail
        refine hqd.mono ?_
        rintro _ w2 ⟨v2, rfl, ho2, hb2⟩
        have hcv2 := run_string_own (P := Try.prog) w2.drew 61 9 5 Try.underlying61 Try.underlying5 Try.underlying9 wr.heap.size v2 Y ho2
        have hcv3 := run_string_own (P := Try.prog) w2.drew 61 9 5 Try.underlying61 Try.underlying5 Try.underlying9 w.heap.size _ acc (below_own hb2 HOW.out)
        rw [HAC.out] at hcv3
        obtain ⟨a2, c2, rfl⟩ := row_val ho2
        clear hcv hcv1 hqd ho2
        have hfin : Below w.heap.size w w2.drew := (hb.trans (hb2.mono hle)).drew
        have hD2 : ((bs Y).toList == X.toList) = !D := by rw [← hD, bne, Bool.not_not]
        cases hDb : D with
        | true =>
          subst hDb
          rw [Bool.not_true] at hD2
          have HE : Hid (G = none) := HD1.out rfl
          go_wp2_with fail
          go_region
          go_wp2_with fail
          go_ret2
          rw [HE.out]
          exact ⟨hfin, rfl⟩
        | false =>
          subst hDb
          rw [Bool.not_false] at hD2
          have HE : Hid (G = some (acc, s.data.toList.drop (m + 1))) := HD0.out rfl
          go_wp2_with fail
          go_region
          go_wp2_with fail
          go_ret2
          rw [HE.out]
          refine ⟨hfin, m + 1, hlt, rfl, ?_⟩
          rw [HAC.out]
          rfl
      · have tq : ((s[m].toNat : Int) != (q.toNat : Int)) = true := u8_neb hc
        by_cases h92 : s[m] = 92
        · have t92 : ((s[m].toNat : Int) != 92) = false := u8_eqnb _ 92 (by omega) h92
          have HU0 : Hid (skim q (s.data.toList.drop (k + 1)) = (skim q (92 :: s.data.toList.drop (m + 1))).map fun y => (acc ++ y.1, y.2)) := by show _ = _; rw [HU.out, hd, h92]
          clear HU hd HDK
          by_cases hl1 : m + 1 < s.size
          · have tl1 : decide ((s.size : Int) ≤ (m : Int) + 1) = false := decide_eq_false (by omega)
            have hd1 := drop_at s (m + 1) hl1
            have hml1 : (m : Int) + 1 < (s.size : Int) := by omega
            by_cases h120 : s[m + 1] = 120
            · have t120 : ((s[m + 1].toNat : Int) != 120) = false := u8_eqnb _ 120 (by omega) h120
              rw [h120] at hd1
              by_cases hl3 : m + 3 < s.size
              · have tl3 : decide ((s.size : Int) ≤ (m : Int) + 3) = false := decide_eq_false (by omega)
                have hd2 := drop_at s (m + 2) (by omega)
                have hd3 := drop_at s (m + 3) hl3
                have hi2 : m + 2 < s.size := by omega
                have hA : ∀ w, Calls Try.prog 77 #[.int .u8 ((s[m + 2]'hi2).toNat : Int)] w fun e w' => e = .returned (.int .i64 (sayV s[m + 2])) ∧ w = w' := fun w => (says_any _ w).mono fun _ _ q => ⟨q.1, q.2.symm⟩
                have hB : ∀ w, Calls Try.prog 77 #[.int .u8 ((s[m + 3]'hl3).toNat : Int)] w fun e w' => e = .returned (.int .i64 (sayV s[m + 3])) ∧ w = w' := fun w => (says_any _ w).mono fun _ _ q => ⟨q.1, q.2.symm⟩
                have hNA := say_neg s[m + 2]
                have hNB := say_neg s[m + 3]
                have HU1 : Hid (skim q (s.data.toList.drop (k + 1)) = (skim q (92 :: 120 :: s[m + 2] :: s[m + 3] :: s.data.toList.drop (m + 4))).map fun y => (acc ++ y.1, y.2)) := by show _ = _; rw [HU0.out, hd1, hd2, hd3]
                by_cases hhx : isHex s[m + 2] = true ∧ isHex s[m + 3] = true
                · obtain ⟨hu, a0, a1, b0, b1⟩ := say_unh hhx.1 hhx.2
                  have HU2 : Hid (skim q (s.data.toList.drop (k + 1)) = (skim q (s.data.toList.drop (m + 4))).map fun y => ((acc ++ [unh s[m + 2] s[m + 3]]) ++ y.1, y.2)) := by
                    show _ = _
                    rw [HU1.out, skim_four H92.out hhx.1 hhx.2, map_app]
                  rw [hhx.1, Bool.not_true] at hNA
                  rw [hhx.2, Bool.not_true] at hNB
                  generalize unh s[m + 2] s[m + 3] = U at *
                  obtain ⟨VA, eVA⟩ : ∃ VA, sayV s[m + 2] = VA := ⟨_, rfl⟩
                  obtain ⟨VB, eVB⟩ : ∃ VB, sayV s[m + 3] = VB := ⟨_, rfl⟩
                  rw [eVA] at hA hu a0 a1 hNA
                  rw [eVB] at hB hu b0 b1 hNB
                  clear eVA eVB HU0 HU1 hd1 hd2 hd3 hhx HGn HGy HGx
                  have hmi2 : (m : Int) + 2 < (s.size : Int) := by omega
                  have hmi3 : (m : Int) + 3 < (s.size : Int) := by omega
                  go_wp2_with fail
                  refine (hA _).mono ?_
                  rintro _ _ ⟨rfl, rfl⟩
                  go_wp2_with fail
                  refine (hB _).mono ?_
                  rintro _ _ ⟨rfl, rfl⟩
                  go_wp2_with (at_builtin; refine wpList_append_bytes rfl (.tmp 80) (.tmp 86) rfl w.heap.size _ acc rfl hown [U] _ rfl 1 rfl rfl (by simp; omega) hle ?_; intro v' w' ho' hb' hl')
                  go_roundw
                  case rel => exact ⟨m + 4, acc ++ [U], by omega, by omega, by simp; omega, by simp, ho', hb.trans hb', hl', HU2⟩
                  case measure => simp only [intOf]; omega
                · have HE : Hid (G = none) := HGn.out (by rw [HU1.out, skim_bad H92.out hhx]; rfl)
                  obtain ⟨VA, eVA⟩ : ∃ VA, sayV s[m + 2] = VA := ⟨_, rfl⟩
                  obtain ⟨VB, eVB⟩ : ∃ VB, sayV s[m + 3] = VB := ⟨_, rfl⟩
                  rw [eVA] at hA hNA
                  rw [eVB] at hB hNB
                  clear HU0 HU1 hd1 hd2 hd3 HGn HGy HGx eVA eVB
                  have hmi2 : (m : Int) + 2 < (s.size : Int) := by omega
                  have hmi3 : (m : Int) + 3 < (s.size : Int) := by omega
                  cases hxa : isHex s[m + 2] with
                  | false =>
                    rw [hxa, Bool.not_false] at hNA
                    clear hhx hNB hxa
                    go_wp2_with fail
                    refine (hA _).mono ?_
                    rintro _ _ ⟨rfl, rfl⟩
                    go_wp2_with fail
                    refine (hB _).mono ?_
                    rintro _ _ ⟨rfl, rfl⟩
                    go_wp2_with fail
                    go_ret2
                    rw [HE.out]
                    exact ⟨hb, rfl⟩
                  | true =>
                    have hxb : isHex s[m + 3] = false := eq_false_of_ne_true fun e => hhx ⟨hxa, e⟩
                    rw [hxa, Bool.not_true] at hNA
                    rw [hxb, Bool.not_false] at hNB
                    clear hhx hxa hxb
                    go_wp2_with fail
                    refine (hA _).mono ?_
                    rintro _ _ ⟨rfl, rfl⟩
                    go_wp2_with fail
                    refine (hB _).mono ?_
                    rintro _ _ ⟨rfl, rfl⟩
                    go_wp2_with fail
                    go_ret2
                    rw [HE.out]
                    exact ⟨hb, rfl⟩
              · have tl3 : decide ((s.size : Int) ≤ (m : Int) + 3) = true := decide_eq_true (by omega)
                have HE : Hid (G = none) := HGn.out (by rw [HU0.out, hd1, skim_short H92.out (by rw [drop_len]; omega)]; rfl)
                clear HU0 hd1 HGn HGy HGx
                go_wp2_with fail
                go_ret2
                rw [HE.out]
                exact ⟨hb, rfl⟩
            · have t120 : ((s[m + 1].toNat : Int) != 120) = true := u8_nenb _ 120 h120
              have HU2 : Hid (skim q (s.data.toList.drop (k + 1)) = (skim q (s.data.toList.drop (m + 2))).map fun y => ((acc ++ [s[m + 1]]) ++ y.1, y.2)) := by
                show _ = _
                rw [HU0.out, hd1, skim_two H92.out h120, map_app]
              clear HU0 hd1 HGn HGy HGx
              go_wp2_with (at_builtin; refine wpList_append_bytes rfl (.tmp 50) (.tmp 55) rfl w.heap.size _ acc rfl hown [s[m + 1]] _ rfl 1 rfl rfl (by simp; omega) hle ?_; intro v' w' ho' hb' hl')
              go_roundw
              case rel => exact ⟨m + 2, acc ++ [s[m + 1]], by omega, by omega, by simp; omega, by simp, ho', hb.trans hb', hl', HU2⟩
              case measure => simp only [intOf]; omega
          · have tl1 : decide ((s.size : Int) ≤ (m : Int) + 1) = true := decide_eq_true (by omega)
            have HE : Hid (G = none) := HGn.out (by rw [HU0.out, drop_end s (m + 1) (by omega), skim_lone H92.out]; rfl)
            clear HU0 HGn HGy HGx
            go_wp2_with fail
            go_ret2
            rw [HE.out]
            exact ⟨hb, rfl⟩
        · have t92 : ((s[m].toNat : Int) != 92) = true := u8_nenb _ 92 h92
          have HU2 : Hid (skim q (s.data.toList.drop (k + 1)) = (skim q (s.data.toList.drop (m + 1))).map fun y => ((acc ++ [s[m]]) ++ y.1, y.2)) := by
            show _ = _
            rw [HU.out, hd, skim_one hc h92, map_app]
          clear HU hd HDK HGn HGy HGx
          go_wp2_with (at_builtin; refine wpList_append_bytes rfl (.tmp 32) (.tmp 36) rfl w.heap.size _ acc rfl hown [s[m]] _ rfl 1 rfl rfl (by simp; omega) hle ?_; intro v' w' ho' hb' hl')
          go_roundw
          case rel => exact ⟨m + 1, acc ++ [s[m]], by omega, by omega, by simp; omega, by simp, ho', hb.trans hb', hl', HU2⟩
          case measure => simp only [intOf]; omega
    · have tl : decide ((m : Int) < (s.size : Int)) = false := decide_eq_false (by omega)
      have tl2 : decide ((s.size : Int) ≤ (m : Int)) = true := decide_eq_true (by omega)
      have HE : Hid (G = none) := HGn.out (by rw [HU.out, drop_end s m (by omega)]; rfl)
      clear HU HGn HGy HGx
      go_wp2_with fail
      go_ret2
      rw [HE.out]
      exact ⟨hb, rfl⟩
end Go.Proofs.Ytffhbellpcneeaa
