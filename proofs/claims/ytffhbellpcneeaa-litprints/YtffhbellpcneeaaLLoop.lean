/- What lit's readList does (contracts; nothing is claimed here). -/
import Derived.Test.YtffhbellpcneeaaLLst
namespace Go.Proofs.Ytffhbellpcneeaa
open Go.RowKit Go.Vf
set_option maxHeartbeats 4000000 in
set_option maxRecDepth 20000 in
theorem readList_any (n D : Nat) (hD : D + n = 16) (hD1 : 1 ≤ D) (B : Nat) (s : ByteArray) (hs : s.size ≤ 65536) (hrv : ∀ (k : Nat), k ≤ s.size → ∀ (w : World), Rdr w B s k → Calls Try.prog 30 #[.pointer (some ⟨B, 0, none⟩), .int .i64 (D : Int)] w (RdE B s (rd n (s.data.toList.drop k)) w))
    (k : Nat) (hk : k < s.size) (hq : s[k] = 40) (w : World) (h : Rdr w B s k) :
    Calls Try.prog 52 #[.pointer (some ⟨B, 0, none⟩), .int .i64 (D : Int)] w (RdE B s (tupR (rd n) ((s.data.toList.drop (k + 1)).length + 1) [] (s.data.toList.drop (k + 1))) w) := by
  obtain ⟨c0, c1, f1⟩ := h.two
  have hB := h.lt
  have t16 : decide ((D : Int) ≤ 16) = true := decide_eq_true (by omega)
  have hD16 : D ≤ 16 := by omega
  obtain ⟨G, hG⟩ : ∃ G, tupR (rd n) ((s.data.toList.drop (k + 1)).length + 1) [] (s.data.toList.drop (k + 1)) = G := ⟨_, rfl⟩
  have HG0 : Hid (G = tupR (rd n) (s.size - (k + 1) + 1) [] (s.data.toList.drop (k + 1))) := by show _ = _; rw [← hG, drop_len]
  rw [hG]
  clear hG
  have hpre : [40].isPrefixOf (s.data.toList.drop k) = true := by rw [drop_at s k hk, hq]; simp [List.isPrefixOf]
  have hnd := need_yes (k : Int) w
  have hy1 := skip_yes B k s ⟨#[40]⟩ hs (by omega) (by decide) w h hpre
  have hsy := fun m (hm : m ≤ s.size) w' (h' : Rdr w' B s m) hp => skip_yes B m s ⟨#[41]⟩ hs hm (by decide) w' h' hp
  have hsn := fun m (hm : m ≤ s.size) w' (h' : Rdr w' B s m) hp => skip_no B m s ⟨#[41]⟩ hs hm (by decide) w' h' hp
  clear hpre hq h
  go_enter Try.func52, Try.ntmps52
  go_wp2_with fail
  refine hnd.mono ?_
  rintro _ _ ⟨rfl, rfl⟩
  go_wp2_with fail
  refine hy1.mono ?_
  rintro _ w2 ⟨rfl, hw2, -⟩
  clear hy1 hnd c0 c1 f1
  go_wp2_with fail
  go_loopw [6] (fun v wr => ∃ (m F : Nat) (acc : List Prt), k + 1 ≤ m ∧ m ≤ s.size ∧ s.size - m < F ∧ Itm B w wr v acc n ∧ Rk B s m w wr ∧ Hid (G = tupR (rd n) F acc (s.data.toList.drop m))) (fun _ wr => s.size - atOf wr B)
  case atStart => exact ⟨k + 1, _, [], Nat.le_refl _, by omega, by omega, Itm.nil _ _ _ _, hw2, HG0⟩
  case round =>
    clear hw2 HG0
    obtain ⟨m, F, acc, hkm, hm, hF, hit, hrk, HG⟩ := hrel
    obtain ⟨F, rfl⟩ : ∃ f, F = f + 1 := ⟨F - 1, by omega⟩
    have HA : Hid (atOf wr B = m) := hrk.rdr.atOf
    obtain ⟨a, c, hva⟩ := hit.len_eq
    subst hva
    have hacc := hit.len
    obtain ⟨na, hna⟩ : ∃ na, acc.length = na := ⟨_, rfl⟩
    have HNA : Hid (acc.length = na) := hna
    rw [hna] at hit hacc ⊢
    clear hna
    by_cases hp : [41].isPrefixOf (s.data.toList.drop m) = true
    · have hy := hsy m hm wr hrk.rdr hp
      have hle := pre_len hp
      rw [drop_len] at hle
      have HR : Hid (G = .ok (tupP acc, s.data.toList.drop (m + 1))) := by show _ = _; rw [HG.out, tupR, if_pos hp, drop_more]
      clear hsy hsn hp HG hrv
      go_wp2_with fail
      refine hy.mono ?_
      rintro _ w3 ⟨rfl, hr3, -⟩
      have hw3 := hrk.trans hr3
      have hit3 := hit.rk hB hr3
      have hdl : depL acc ≤ 15 := by
        have hx := hit3.dep
        have hn15 : n ≤ 15 := by omega
        clear hit hit3 HR HNA
        induction acc with
        | nil => simp [depL]
        | cons x r ih =>
          rw [depL]
          have h1 := hx x (by simp)
          have h2 := ih (fun y hy => hx y (by simp [hy]))
          omega
      obtain ⟨⟨vs, hvl, ho, hva⟩, _, _⟩ := hit3
      have hof := of_any _ vs acc (by rw [HNA.out]; exact hacc) hvl hdl w.heap.size w.heap.size w3 hw3.size ho (fun j hj => (hva j hj).to fun b q => ⟨q.1, q.2.1⟩)
      clear hy hit ho hva hdl
      go_wp2_with fail
      refine hof.mono ?_
      rintro _ w4 ⟨g, rfl, hv4, hb4⟩
      have hn4 := need_yes (k : Int) w4
      have HV4 : Hid _ := hv4
      clear hof hv4
      go_wp2_with fail
      refine hn4.mono ?_
      rintro _ _ ⟨rfl, rfl⟩
      go_wp2_with fail
      go_ret
      rw [HR.out]
      exact ⟨_, m + 1, by simp at hle; omega, rfl, rfl, HV4.out, hw3.old hb4⟩
    · have hp' : [41].isPrefixOf (s.data.toList.drop m) = false := eq_false_of_ne_true hp
      have hy := hsn m hm wr hrk.rdr hp'
      by_cases h0 : na = 0
      · have HSTE : Hid (∀ r, rd n (s.data.toList.drop m) = .error r → G = .error r) := fun r hr => by rw [HG.out, tupR, if_neg hp, if_pos (by rw [HNA.out]; exact h0), hr]
        have HSTO : Hid (∀ p rest, rd n (s.data.toList.drop m) = .ok (p, rest) → G = tupR (rd n) F (acc ++ [p]) rest) := fun p rest hr => by rw [HG.out, tupR, if_neg hp, if_pos (by rw [HNA.out]; exact h0), hr]
        have t0 : decide ((0 : Int) < (na : Int)) = false := decide_eq_false (by omega)
        have t1 : decide (0 < na) = false := decide_eq_false (by omega)
        have haL : acc.length < 1024 := by rw [HNA.out]; omega
        clear hp hp' h0
        go_wp2_with fail
        refine hy.mono ?_
        rintro _ w4 ⟨rfl, hr4, -⟩
        have hw4 := hrk.trans hr4
        have hit4 := hit.rk hB hr4
        clear hy hit
        have hitem := hrv m (by omega) w4 hw4.rdr
        cases hg : rd n (s.data.toList.drop m) with
        | error r =>
          rw [hg] at hitem
          have HR : Hid (G = .error r) := HSTE.out r hg
          clear hrv HG hg HSTO HSTE hsy hsn
          go_wp2_with fail
          refine hitem.mono ?_
          rintro _ w5 ⟨k5, hk5, hr5, rfl, hb5⟩
          refine ⟨rfl, ?_⟩
          rw [HR.out]
          exact ⟨k5, hk5, hr5, rfl, hw4.below.trans hb5⟩
        | ok pr =>
          obtain ⟨p, rest⟩ := pr
          rw [hg] at hitem
          obtain ⟨e1, e2, e3⟩ := rd_inv n _ _ _ (by rw [drop_len]; omega) hg
          have hpos := txt_pos e2
          have hst := HSTO.out p rest hg
          clear hrv hg HSTO HSTE HG hsy hsn
          go_wp2_with fail
          refine hitem.mono ?_
          rintro _ w5 ⟨v5, k5, hk5, hr5, rfl, hv5, hrk5⟩
          have hlen5 : s.size - k5 + (txt p).length = s.size - m := by
            have := congrArg List.length e1
            rw [hr5, List.length_append, drop_len, drop_len] at this
            omega
          have hlt5 : m < k5 := by omega
          have hrk6 := hw4.trans hrk5
          have hit5 := hit4.rk hB hrk5
          have hrow5 := hit4.row_lt
          have hsz4 := hw4.size
          have hsz5 := hrk5.size
          have HST : Hid (G = tupR (rd n) F (acc ++ [p]) (s.data.toList.drop k5)) := by
            show _ = _
            rw [hst, hr5]
          have hform := hv5.form
          have HIT : Hid _ := hit5
          have HV5 : Hid _ := hv5
          have HROW : Hid _ := hrow5
          clear e1 hst hlen5 hitem hit5 hv5 hrow5 hpos
          rcases hform with rfl | ⟨tv, xv, rfl⟩
          all_goals
            go_wp2_with (at_builtin; refine Itm.more HIT.out hsz4 hsz5 HROW.out haL e3 HV5.out (.tmp 29) (.tmp 33) rfl rfl rfl rfl ?_; intro v' w6 hit6 hb6)
            go_roundw
            case rel => exact ⟨k5, F, acc ++ [p], by omega, hk5, by omega, hit6, hrk6.base hb6 hB, HST⟩
            case measure =>
              rw [HA.out, (hrk6.base hb6 hB).rdr.atOf]
              omega
      · have t0 : decide ((0 : Int) < (na : Int)) = true := decide_eq_true (by omega)
        have t1 : decide (0 < na) = true := decide_eq_true (by omega)
        by_cases hnb : na < 1024
        · by_cases hb : [32].isPrefixOf (s.data.toList.drop m) = true
          · have hcond : acc.length < 1024 ∧ [32].isPrefixOf (s.data.toList.drop m) = true := ⟨by rw [HNA.out]; exact hnb, hb⟩
            have HSTE : Hid (∀ r, rd n (s.data.toList.drop (m + 1)) = .error r → G = .error r) := fun r hr => by rw [HG.out, tupR, if_neg hp, if_neg (by rw [HNA.out]; exact h0), if_pos hcond, drop_more, hr]
            have HSTO : Hid (∀ p rest, rd n (s.data.toList.drop (m + 1)) = .ok (p, rest) → G = tupR (rd n) F (acc ++ [p]) rest) := fun p rest hr => by rw [HG.out, tupR, if_neg hp, if_neg (by rw [HNA.out]; exact h0), if_pos hcond, drop_more, hr]
            have hle := pre_len hb
            rw [drop_len] at hle
            have hle' : 1 ≤ s.size - m := by simpa using hle
            have hbk := fun w' (h' : Rdr w' B s m) => blank_yes B m na s hs hm hnb w' h' hb
            have haL : acc.length < 1024 := hcond.1
            clear hp hp' h0 hb hle hcond
            go_wp2_with fail
            refine hy.mono ?_
            rintro _ w3 ⟨rfl, hr3, -⟩
            have hw3 := hrk.trans hr3
            have hit3 := hit.rk hB hr3
            have hbk3 := hbk w3 hw3.rdr
            clear hy hit hbk
            go_wp2_with fail
            refine hbk3.mono ?_
            rintro _ w4 ⟨rfl, hr4, -⟩
            have hw4 := hw3.trans hr4
            have hit4 := hit3.rk hB hr4
            clear hbk3 hit3
            have hitem := hrv (m + 1) (by omega) w4 hw4.rdr
            cases hg : rd n (s.data.toList.drop (m + 1)) with
            | error r =>
              rw [hg] at hitem
              have HR : Hid (G = .error r) := HSTE.out r hg
              clear hrv HG hg HSTO HSTE hsy hsn
              go_wp2_with fail
              refine hitem.mono ?_
              rintro _ w5 ⟨k5, hk5, hr5, rfl, hb5⟩
              refine ⟨rfl, ?_⟩
              rw [HR.out]
              exact ⟨k5, hk5, hr5, rfl, hw4.below.trans hb5⟩
            | ok pr =>
              obtain ⟨p, rest⟩ := pr
              rw [hg] at hitem
              obtain ⟨e1, e2, e3⟩ := rd_inv n _ _ _ (by rw [drop_len]; omega) hg
              have hpos := txt_pos e2
              have hst := HSTO.out p rest hg
              clear hrv hg HSTO HSTE HG hsy hsn
              go_wp2_with fail
              refine hitem.mono ?_
              rintro _ w5 ⟨v5, k5, hk5, hr5, rfl, hv5, hrk5⟩
              have hlen5 : s.size - k5 + (txt p).length = s.size - (m + 1) := by
                have := congrArg List.length e1
                rw [hr5, List.length_append, drop_len, drop_len] at this
                omega
              have hlt5 : (m + 1) < k5 := by omega
              have hrk6 := hw4.trans hrk5
              have hit5 := hit4.rk hB hrk5
              have hrow5 := hit4.row_lt
              have hsz4 := hw4.size
              have hsz5 := hrk5.size
              have HST : Hid (G = tupR (rd n) F (acc ++ [p]) (s.data.toList.drop k5)) := by
                show _ = _
                rw [hst, hr5]
              have hform := hv5.form
              have HIT : Hid _ := hit5
              have HV5 : Hid _ := hv5
              have HROW : Hid _ := hrow5
              clear e1 hst hlen5 hitem hit5 hv5 hrow5 hpos
              rcases hform with rfl | ⟨tv, xv, rfl⟩
              all_goals
                go_wp2_with (at_builtin; refine Itm.more HIT.out hsz4 hsz5 HROW.out haL e3 HV5.out (.tmp 29) (.tmp 33) rfl rfl rfl rfl ?_; intro v' w6 hit6 hb6)
                go_roundw
                case rel => exact ⟨k5, F, acc ++ [p], by omega, hk5, by omega, hit6, hrk6.base hb6 hB, HST⟩
                case measure =>
                  rw [HA.out, (hrk6.base hb6 hB).rdr.atOf]
                  omega
          · have hb' : [32].isPrefixOf (s.data.toList.drop m) = false := eq_false_of_ne_true hb
            have HR : Hid (G = .error (s.size - m)) := by
              show _ = _
              rw [HG.out, tupR, if_neg hp, if_neg (by rw [HNA.out]; exact h0), if_neg (by rintro ⟨_, q⟩; exact hb q), drop_len]
            have hbk := fun w' (h' : Rdr w' B s m) => blank_no B m na s hs hm hnb w' h' hb'
            clear hp hp' h0 hb hb' hsy hsn hrv HG
            go_wp2_with fail
            refine hy.mono ?_
            rintro _ w3 ⟨rfl, hr3, -⟩
            have hw3 := hrk.trans hr3
            have hbk3 := hbk w3 hw3.rdr
            clear hy hit hbk
            go_wp2_with fail
            refine hbk3.mono ?_
            rintro _ w4 ⟨rfl, hr4⟩
            refine ⟨rfl, ?_⟩
            rw [HR.out]
            exact ⟨m, hm, rfl, rfl, (hw3.trans hr4).below⟩
        · have HR : Hid (G = .error (s.size - m)) := by
            show _ = _
            rw [HG.out, tupR, if_neg hp, if_neg (by rw [HNA.out]; exact h0), if_neg (by rintro ⟨q, _⟩; rw [HNA.out] at q; exact hnb q), drop_len]
          have hbk := fun w' (h' : Rdr w' B s m) => blank_many B m na s hnb (by omega) w' h'
          clear hp hp' h0 hsy hsn hrv HG
          go_wp2_with fail
          refine hy.mono ?_
          rintro _ w3 ⟨rfl, hr3, -⟩
          have hw3 := hrk.trans hr3
          have hbk3 := hbk w3 hw3.rdr
          clear hy hit hbk
          go_wp2_with fail
          refine hbk3.mono ?_
          rintro _ w4 ⟨rfl, hr4⟩
          refine ⟨rfl, ?_⟩
          rw [HR.out]
          exact ⟨m, hm, rfl, rfl, (hw3.trans hr4).below⟩
end Go.Proofs.Ytffhbellpcneeaa
