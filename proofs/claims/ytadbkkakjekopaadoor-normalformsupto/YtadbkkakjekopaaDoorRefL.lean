/- What dovetailref04.Number, part, class, Silent do (contracts; nothing is claimed here). -/
import Derived.Test.YtadbkkakjekopaaDoorRefD
namespace Go.Proofs.YtadbkkakjekopaaDoor
open Go.RowKit Go.Vf Go.Maps

theorem results71_run {tmps : Array Value} {w : World} {a b : Value} (t2 : tmps[2]?.getD undef = a) (t3 : tmps[3]?.getD undef = b) : (results Tryd.f60 tmps).run Tryd.prog w = .ok (.tuple #[a, b]) w := by
  simp [results, Tryd.results60, go_sem, t2, t3]
theorem results53_run {tmps : Array Value} {w : World} {a b : Value} (t2 : tmps[2]?.getD undef = a) (t3 : tmps[3]?.getD undef = b) : (results Tryd.f46 tmps).run Tryd.prog w = .ok (.tuple #[a, b]) w := by
  simp [results, Tryd.results46, go_sem, t2, t3]
theorem results54_run {tmps : Array Value} {w : World} {a b : Value} (t2 : tmps[2]?.getD undef = a) (t3 : tmps[3]?.getD undef = b) : (results Tryd.f47 tmps).run Tryd.prog w = .ok (.tuple #[a, b]) w := by
  simp [results, Tryd.results47, go_sem, t2, t3]

theorem pointS_inj {a b : Nat} (h : pointS a = pointS b) : a = b := by
  have e : ∀ u, numB hexV 16 (pointS u) 0 = some u := fun u => by
    rw [pointS_pad, numB_pad, Nat.mod_eq_of_lt (Nat.lt_of_lt_of_le (upHex_lt u _ (Nat.le_refl _)) (Nat.pow_le_pow_right (by omega) (by omega)))]
    simp
  have h1 := e a
  rw [h, e b] at h1
  simpa using h1.symm
/-- What Number answers of a text. -/
def NumOf (l : List UInt8) (x : Int) (b : Bool) : Prop := (b = true ∧ ∃ n : Nat, x = (n : Int) ∧ n < 16 ^ 6 ∧ l = pointS n) ∨ (b = false ∧ pointR l = none)
theorem NumOf.bad {l : List UInt8} (h : ¬ (4 ≤ l.length ∧ l.length ≤ 6) ∨ numB hexV 16 l 0 = none) : NumOf l 0 false := by
  refine .inr ⟨rfl, ?_⟩
  unfold pointR
  split
  · rename_i hs
    rcases h with h | h
    · exact absurd ⟨by omega, by omega⟩ h
    · rw [h]
  · rfl
theorem NumOf.done {l : List UInt8} {n : Nat} (h : numB hexV 16 l 0 = some n) (hn : n < 16 ^ 6) : NumOf l (n : Int) (decide (pointS n = l)) := by
  by_cases e : pointS n = l
  · exact .inl ⟨by simp [e], n, rfl, hn, e.symm⟩
  · refine .inr ⟨by simp [e], ?_⟩
    cases hp : pointR l with
    | none => rfl
    | some p =>
      exfalso
      obtain ⟨u, _, hu, _, hs⟩ := pointS_pointR hp
      have h1 : numB hexV 16 (pointS u) 0 = some u := by
        rw [pointS_pad, numB_pad, Nat.mod_eq_of_lt (Nat.lt_of_lt_of_le (upHex_lt u _ (Nat.le_refl _)) (Nat.pow_le_pow_right (by omega) (by omega)))]
        simp
      rw [← hs, h] at h1
      have : n = u := by simpa using h1
      subst this
      exact e hs.symm

def NumPost (l : List UInt8) (w : World) (e : Ending) (w' : World) : Prop := ∃ x b, e = .returned (.tuple #[.int .i64 x, .bool b]) ∧ NumOf l x b ∧ w = w'
theorem numB_at (s : ByteArray) (k : Nat) (hk : k < s.size) (m : Nat) : numB hexV 16 (s.data.toList.drop k) m = match hexV s[k] with
    | none => none
    | some d => numB hexV 16 (s.data.toList.drop (k + 1)) (m * 16 + d) := by
  rw [drop_at s k hk]
  rfl

set_option maxHeartbeats 2000000 in
set_option maxRecDepth 20000 in
theorem number_any (s : ByteArray) (hs : s.size ≤ 17179869184) (w : World) : Calls Tryd.prog 60 #[.string s] w fun e w' => NumPost s.data.toList w e w' := by
  have HSL : Hid (s.data.toList.length = s.size) := (Lib.size_eq s).symm
  by_cases h4 : s.size < 4
  · have HB : Hid (NumOf s.data.toList 0 false) := NumOf.bad (.inl (by rw [HSL.out]; omega))
    go_enter Tryd.func60, Tryd.ntmps60
    go_wp2_with fail
    refine bodyPost_ret (results71_run rfl rfl) rfl ?_
    exact ⟨0, false, rfl, HB.out, rfl⟩
  · by_cases h6 : 6 < s.size
    · have HB : Hid (NumOf s.data.toList 0 false) := NumOf.bad (.inl (by rw [HSL.out]; omega))
      go_enter Tryd.func60, Tryd.ntmps60
      go_wp2_with fail
      refine bodyPost_ret (results71_run rfl rfl) rfl ?_
      exact ⟨0, false, rfl, HB.out, rfl⟩
    · go_enter Tryd.func60, Tryd.ntmps60
      go_wp2_with fail
      go_loopw [4, 5, 6] (fun x i _ wr => ∃ (k m : Nat), k ≤ s.size ∧ i = .int .i64 k ∧ x = .int .i64 (m : Int) ∧ m < 16777216 ∧ Hid (m < 16 ^ k ∧ numB hexV 16 (s.data.toList.drop k) m = numB hexV 16 s.data.toList 0) ∧ wr = w) (fun _ i _ _ => s.size - (intOf i).toNat)
      case atStart => exact ⟨0, 0, by omega, rfl, rfl, by omega, ⟨by simp, by simp⟩, rfl⟩
      case round =>
        obtain ⟨k, m, hk, rfl, rfl, hm, HM, rfl⟩ := hrel
        by_cases hlt : k < s.size
        · have hstep := numB_at s k hlt m
          have hm6 : m * 16 + 15 < 16777216 := by
            have h1 := HM.out.1
            have h2 : 16 ^ k ≤ 16 ^ 5 := Nat.pow_le_pow_right (by omega) (by omega)
            omega
          have h256 : (s[k]).toNat < 256 := (s[k]).toNat_lt
          have HN : Hid (∀ d, hexV s[k] = some d → numB hexV 16 (s.data.toList.drop (k + 1)) (m * 16 + d) = numB hexV 16 s.data.toList 0) := fun d hd => by
            rw [← HM.out.2, hstep, hd]
          have HF : Hid (hexV s[k] = none → numB hexV 16 s.data.toList 0 = none) := fun hd => by
            rw [← HM.out.2, hstep, hd]
          have HP : Hid (∀ d, d < 16 → m * 16 + d < 16 ^ (k + 1)) := fun d hd => by
            have h1 := HM.out.1
            rw [Nat.pow_succ]; omega
          have hx : hexV s[k] = if 65 ≤ (s[k]).toNat ∧ (s[k]).toNat ≤ 70 then some ((s[k]).toNat - 55) else if 48 ≤ (s[k]).toNat ∧ (s[k]).toNat ≤ 57 then some ((s[k]).toNat - 48) else none := rfl
          have HX : Hid (hexV s[k] = if 65 ≤ (s[k]).toNat ∧ (s[k]).toNat ≤ 70 then some ((s[k]).toNat - 55) else if 48 ≤ (s[k]).toNat ∧ (s[k]).toNat ≤ 57 then some ((s[k]).toNat - 48) else none) := hx
          clear hstep hx HM
          by_cases hA : 65 ≤ (s[k]).toNat ∧ (s[k]).toNat ≤ 70
          · obtain ⟨hA1, hA2⟩ := hA
            go_wp2_with fail
            exact ⟨⟨k + 1, m * 16 + ((s[k]).toNat - 55), by omega, by go_num, congrArg (Value.int .i64) (by omega), by omega, ⟨HP.out _ (by omega), HN.out _ (by rw [HX.out, if_pos ⟨hA1, hA2⟩])⟩, trivial⟩, by simp only [intOf]; omega⟩
          · by_cases hB : 48 ≤ (s[k]).toNat ∧ (s[k]).toNat ≤ 57
            · obtain ⟨hB1, hB2⟩ := hB
              have HXB : Hid (hexV s[k] = some ((s[k]).toNat - 48)) := by show _ = _; rw [HX.out, if_neg hA, if_pos ⟨hB1, hB2⟩]
              have hA' : ¬ 65 ≤ (s[k]).toNat := by omega
              clear hA
              go_wp2_with fail
              exact ⟨⟨k + 1, m * 16 + ((s[k]).toNat - 48), by omega, by go_num, congrArg (Value.int .i64) (by omega), by omega, ⟨HP.out _ (by omega), HN.out _ HXB.out⟩, trivial⟩, by simp only [intOf]; omega⟩
            · have HB : Hid (NumOf s.data.toList 0 false) := NumOf.bad (.inr (HF.out (by rw [HX.out, if_neg hA, if_neg hB])))
              clear HX HN HF HP
              by_cases h1 : (s[k]).toNat < 48
              · clear hA hB
                go_wp2_with fail
                refine bodyPost_ret (results71_run rfl rfl) rfl ?_
                exact ⟨0, false, rfl, HB.out, rfl⟩
              · by_cases h2 : 70 < (s[k]).toNat
                · clear hA hB
                  go_wp2_with fail
                  refine bodyPost_ret (results71_run rfl rfl) rfl ?_
                  exact ⟨0, false, rfl, HB.out, rfl⟩
                · have h3 : 57 < (s[k]).toNat ∧ (s[k]).toNat < 65 := by omega
                  obtain ⟨h3a, h3b⟩ := h3
                  clear hA hB
                  by_cases h4' : 64 ≤ (s[k]).toNat
                  · skip
                    go_wp2_with fail
                    refine bodyPost_ret (results71_run rfl rfl) rfl ?_
                    exact ⟨0, false, rfl, HB.out, rfl⟩
                  · have h5 : (s[k]).toNat ≤ 63 := by omega
                    go_wp2_with fail
                    refine bodyPost_ret (results71_run rfl rfl) rfl ?_
                    exact ⟨0, false, rfl, HB.out, rfl⟩
        · obtain rfl : k = s.size := by omega
          have HNB : Hid (numB hexV 16 s.data.toList 0 = some m) := by
            show _ = _
            rw [← HM.out.2, drop_end s s.size (Nat.le_refl _)]
            rfl
          have hdm := digits_any m (by omega) wr
          have HD : Hid (NumOf s.data.toList (m : Int) (decide (pointS m = s.data.toList))) := NumOf.done HNB.out (by omega)
          go_wp2_with fail
          refine hdm.mono ?_
          rintro e w1 ⟨rfl, rfl⟩
          go_wp2_with fail
          refine bodyPost_ret (results71_run rfl rfl) rfl ?_
          have e1 : (pointS m == s.toList) = decide (pointS m = s.data.toList) := by rw [ByteArray.toList_eq]; exact Bool.eq_iff_iff.2 (by simp)
          exact ⟨m, decide (pointS m = s.data.toList), by rw [← e1]; rfl, HD.out, rfl⟩

/-- What part answers. -/
def PartPost (l : List UInt8) (w : World) (e : Ending) (w' : World) : Prop := ∃ x b, e = .returned (.tuple #[.int .i64 x, .bool b]) ∧ ((b = true ∧ pointR l = some x) ∨ (b = false ∧ pointR l = none)) ∧ w = w'

set_option maxHeartbeats 2000000 in
set_option maxRecDepth 20000 in
theorem part_any (s : ByteArray) (hs : s.size ≤ 17179869184) (w : World) : Calls Tryd.prog 46 #[.string s] w fun e w' => PartPost s.data.toList w e w' := by
  go_enter Tryd.func46, Tryd.ntmps46
  go_wp2_with fail
  refine (number_any s hs w).mono ?_
  rintro e w1 ⟨x, b, rfl, hnum, rfl⟩
  rcases hnum with ⟨rfl, n, rfl, hn, hl⟩ | ⟨rfl, hno⟩
  · have HL : Hid (s.data.toList = pointS n) := hl
    clear hl
    have hP := isPoint_any (n : Int) w
    have hS := syllable_any (n : Int) w
    cases g1 : isPt (n : Int) with
    | false =>
      rw [g1] at hP
      have HN : Hid (pointR s.data.toList = none) := by
        show _ = _
        cases hp : pointR s.data.toList with
        | none => rfl
        | some p =>
          exfalso
          obtain ⟨u, _, _, hm, hs'⟩ := pointS_pointR hp
          have := pointS_inj (HL.out.symm.trans hs')
          subst this
          rw [mayB_eq, g1] at hm
          simp at hm
      go_wp2_with fail
      refine hP.mono ?_
      rintro e w2 ⟨rfl, rfl⟩
      go_wp2_with fail
      refine bodyPost_ret (results53_run rfl rfl) rfl ?_
      exact ⟨n, false, rfl, .inr ⟨rfl, HN.out⟩, rfl⟩
    | true =>
      rw [g1] at hP
      cases g2 : isSyl (n : Int) with
      | true =>
        rw [g2] at hS
        have HN : Hid (pointR s.data.toList = none) := by
          show _ = _
          cases hp : pointR s.data.toList with
          | none => rfl
          | some p =>
            exfalso
            obtain ⟨u, _, _, hm, hs'⟩ := pointS_pointR hp
            have := pointS_inj (HL.out.symm.trans hs')
            subst this
            rw [mayB_eq, g2] at hm
            simp at hm
        go_wp2_with fail
        refine hP.mono ?_
        rintro e w2 ⟨rfl, rfl⟩
        go_wp2_with fail
        refine hS.mono ?_
        rintro e w2 ⟨rfl, rfl⟩
        go_wp2_with fail
        refine bodyPost_ret (results53_run rfl rfl) rfl ?_
        exact ⟨n, false, rfl, .inr ⟨rfl, HN.out⟩, rfl⟩
      | false =>
        rw [g2] at hS
        have HY : Hid (pointR s.data.toList = some (n : Int)) := by
          show _ = _
          rw [HL.out]
          refine pointR_pointS ?_ (by rw [mayB_eq, g1, g2]; rfl)
          unfold isPt at g1
          simp at g1
          omega
        go_wp2_with fail
        refine hP.mono ?_
        rintro e w2 ⟨rfl, rfl⟩
        go_wp2_with fail
        refine hS.mono ?_
        rintro e w2 ⟨rfl, rfl⟩
        go_wp2_with fail
        refine bodyPost_ret (results53_run rfl rfl) rfl ?_
        exact ⟨n, true, rfl, .inl ⟨rfl, HY.out⟩, rfl⟩
  · have HN : Hid (pointR s.data.toList = none) := hno
    clear hno
    go_wp2_with fail
    refine bodyPost_ret (results53_run rfl rfl) rfl ?_
    exact ⟨x, false, rfl, .inr ⟨rfl, HN.out⟩, rfl⟩

/-- What class answers. -/
def ClassPost (l : List UInt8) (w : World) (e : Ending) (w' : World) : Prop := ∃ x b, e = .returned (.tuple #[.int .i64 x, .bool b]) ∧ ((b = true ∧ classR l = some x) ∨ (b = false ∧ classR l = none)) ∧ Below w.heap.size w w'

set_option maxHeartbeats 2000000 in
set_option maxRecDepth 20000 in
theorem refClass_any (s : ByteArray) (w : World) : Calls Tryd.prog 47 #[.string s] w fun e w' => ClassPost s.data.toList w e w' := by
  go_enter Tryd.func47, Tryd.ntmps47
  go_wp2_with fail
  go_loopw [4] (fun i wr => ∃ k : Nat, k ≤ 255 ∧ i = .int .i64 k ∧ Hid (∀ c, c < k → Lib.itoa (c : Int) ≠ s.data.toList) ∧ Below w.heap.size w wr) (fun i _ => 255 - (intOf i).toNat)
  case atStart => exact ⟨0, by omega, rfl, fun c hc => absurd hc (by omega), Below.refl _ _⟩
  case round =>
    obtain ⟨k, hk, rfl, HK, hbel⟩ := hrel
    by_cases hlt : k ≤ 254
    · have ht := ten_any k hlt wr
      by_cases he : Lib.itoa (k : Int) = s.data.toList
      · have HY : Hid (classR s.data.toList = some (k : Int)) := by
          show _ = _
          rw [← he]
          exact (classR_itoa hlt).1
        have heq : (Lib.itoa (k : Int) == s.toList) = true := by rw [ByteArray.toList_eq]; simp [he]
        clear he
        go_wp2_with fail
        refine ht.mono ?_
        rintro e w1 ⟨rfl, hb1⟩
        go_wp2_with fail
        refine bodyPost_ret (results54_run rfl rfl) rfl ?_
        exact ⟨k, true, rfl, .inl ⟨rfl, HY.out⟩, hbel.trans (hb1.mono hbel.size)⟩
      · have heq : (Lib.itoa (k : Int) == s.toList) = false := by rw [ByteArray.toList_eq]; simp [he]
        have HK2 : Hid (∀ c, c < k + 1 → Lib.itoa (c : Int) ≠ s.data.toList) := fun c hc => by
          rcases Nat.lt_or_ge c k with h | h
          · exact HK.out c h
          · obtain rfl : c = k := by omega
            exact he
        clear he HK
        go_wp2_with fail
        refine ht.mono ?_
        rintro e w1 ⟨rfl, hb1⟩
        go_wp2_with fail
        go_roundw
        case rel => exact ⟨k + 1, by omega, by go_num, HK2, hbel.trans (hb1.mono hbel.size)⟩
        case measure => simp only [intOf]; omega
    · have HN : Hid (classR s.data.toList = none) := by
        show _ = _
        cases hc : classR s.data.toList with
        | none => rfl
        | some x =>
          exfalso
          obtain ⟨c, _, hc2, hs⟩ := itoa_classR hc
          exact HK.out c (by omega) hs.symm
      go_wp2_with fail
      refine bodyPost_ret (results54_run rfl rfl) rfl ?_
      exact ⟨0, false, rfl, .inr ⟨rfl, HN.out⟩, hbel⟩

theorem silent_any (s : ByteArray) (w : World) : Calls Tryd.prog 27 #[.string s] w fun e w' => e = .returned (.bool (silentL s.data.toList)) ∧ w = w' := by
  by_cases hemp : s.data.toList = []
  · have hemp' : s.toList.isEmpty = true := by rw [ByteArray.toList_eq, hemp]; rfl
    go_enter Tryd.func27, Tryd.ntmps27
    go_wp2_with fail
    go_ret
    exact ⟨by simp [silentL, hemp], rfl⟩
  · have hemp' : s.toList.isEmpty = false := by rw [ByteArray.toList_eq]; simpa using hemp
    have hsz : 0 < s.size := by rw [Lib.size_eq]; exact List.length_pos_iff.2 hemp
    have hhd := head_at s hsz
    by_cases h35 : (s[0]).toNat = 35
    · have h35' : (((s[0]).toNat : Int) == 35) = true := by simp [h35]
      go_enter Tryd.func27, Tryd.ntmps27
      go_wp2_with fail
      go_ret
      have e : s[0] = 35 := UInt8.toNat_inj.1 h35
      exact ⟨by simp [silentL, hhd, e], rfl⟩
    · have h35' : (((s[0]).toNat : Int) == 35) = false := by simp; omega
      go_enter Tryd.func27, Tryd.ntmps27
      go_wp2_with fail
      go_ret
      have e : s[0] ≠ 35 := fun e => h35 (by rw [e]; rfl)
      exact ⟨by simp [silentL, hhd, e]; simpa using hemp, rfl⟩

end Go.Proofs.YtadbkkakjekopaaDoor
