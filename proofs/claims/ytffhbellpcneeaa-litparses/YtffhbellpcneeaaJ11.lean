/- What lit's readList does (contracts; nothing is claimed here). · What lit's readValue does (contracts; nothing is claimed here). · What lit.Parse does (contracts; nothing is claimed here). -/
import Derived.Test.YtffhbellpcneeaaLLst
namespace Go.Proofs.Ytffhbellpcneeaa
open Go.RowKit Go.Vf
set_option maxHeartbeats 4000000 in
set_option maxRecDepth 20000 in
theorem readList_any (n D : Nat) (hD : D + n = 16) (hD1 : 1 ≤ D) (B : Nat) (s : ByteArray) (hs : s.size ≤ 65536) (hrv : ∀ (k : Nat), k ≤ s.size → ∀ (w : World), Rdr w B s k → Calls Try.prog 30 #[.pointer (some ⟨B, 0, none⟩), .int .i64 (D : Int)] w (RdE B s (rd n (s.data.toList.drop k)) w))
    (k : Nat) (hk : k < s.size) (hq : s[k] = 40) (w : World) (h : Rdr w B s k) :
    Calls Try.prog 52 #[.pointer (some ⟨B, 0, none⟩), .int .i64 (D : Int)] w (RdE B s (tupR (rd n) ((s.data.toList.drop (k + 1)).length + 1) [] (s.data.toList.drop (k + 1))) w) := by
  obtain ⟨c0, c1, f1⟩ := h.two
  have hB := h.lt
  have t16 : decide ((D : Int) ≤ 16) = true := decide_eq_true (by omega)
  have hD16 : D ≤ 16 := by omega
  obtain ⟨G, hG⟩ : ∃ G, tupR (rd n) ((s.data.toList.drop (k + 1)).length + 1) [] (s.data.toList.drop (k + 1)) = G := ⟨_, rfl⟩
  have HG0 : Hid (G = tupR (rd n) (s.size - (k + 1) + 1) [] (s.data.toList.drop (k + 1))) := by show _ = _; rw [← hG, drop_len]
  rw [hG]
  clear hG
  have hpre : [40].isPrefixOf (s.data.toList.drop k) = true := by rw [drop_at s k hk, hq]; simp [List.isPrefixOf]
  have hnd := need_yes (k : Int) w
  have hy1 := skip_yes B k s ⟨#[40]⟩ hs (by omega) (by decide) w h hpre
  have hsy := fun m (hm : m ≤ s.size) w' (h' : Rdr w' B s m) hp => skip_yes B m s ⟨#[41]⟩ hs hm (by decide) w' h' hp
  have hsn := fun m (hm : m ≤ s.size) w' (h' : Rdr w' B s m) hp => skip_no B m s ⟨#[41]⟩ hs hm (by decide) w' h' hp
  clear hpre hq h
  go_enter Try.func52, Try.ntmps52
  go_wp2_with fail
  refine hnd.mono ?_
  rintro _ _ ⟨rfl, rfl⟩
  go_wp2_with fail
  refine hy1.mono ?_
  rintro _ w2 ⟨rfl, hw2, -⟩
  clear hy1 hnd c0 c1 f1
  go_wp2_with fail
  go_loopw [6] (fun v wr => ∃ (m F : Nat) (acc : List Prt), k + 1 ≤ m ∧ m ≤ s.size ∧ s.size - m < F ∧ Itm B w wr v acc n ∧ Rk B s m w wr ∧ Hid (G = tupR (rd n) F acc (s.data.toList.drop m))) (fun _ wr => s.size - atOf wr B)
  case atStart => exact ⟨k + 1, _, [], Nat.le_refl _, by omega, by omega, Itm.nil _ _ _ _, hw2, HG0⟩
  case round =>
    clear hw2 HG0
    obtain ⟨m, F, acc, hkm, hm, hF, hit, hrk, HG⟩ := hrel
    obtain ⟨F, rfl⟩ : ∃ f, F = f + 1 := ⟨F - 1, by omega⟩
    have HA : Hid (atOf wr B = m) := hrk.rdr.atOf
    obtain ⟨a, c, hva⟩ := hit.len_eq
    subst hva
    have hacc := hit.len
    obtain ⟨na, hna⟩ : ∃ na, acc.length = na := ⟨_, rfl⟩
    have HNA : Hid (acc.length = na) := hna
    rw [hna] at hit hacc ⊢
    clear hna
    by_cases hp : [41].isPrefixOf (s.data.toList.drop m) = true
    · have hy := hsy m hm wr hrk.rdr hp
      have hle := pre_len hp
      rw [drop_len] at hle
      have HR : Hid (G = .ok (tupP acc, s.data.toList.drop (m + 1))) := by show _ = _; rw [HG.out, tupR, if_pos hp, drop_more]
      clear hsy hsn hp HG hrv
      go_wp2_with fail
      refine hy.mono ?_
      rintro _ w3 ⟨rfl, hr3, -⟩
      have hw3 := hrk.trans hr3
      have hit3 := hit.rk hB hr3
      have hdl : depL acc ≤ 15 := by
        have hx := hit3.dep
        have hn15 : n ≤ 15 := by omega
        clear hit hit3 HR HNA
        induction acc with
        | nil => simp [depL]
        | cons x r ih =>
          rw [depL]
          have h1 := hx x (by simp)
          have h2 := ih (fun y hy => hx y (by simp [hy]))
          omega
      obtain ⟨⟨vs, hvl, ho, hva⟩, _, _⟩ := hit3
      have hof := of_any _ vs acc (by rw [HNA.out]; exact hacc) hvl hdl w.heap.size w.heap.size w3 hw3.size ho (fun j hj => (hva j hj).to fun b q => ⟨q.1, q.2.1⟩)
      clear hy hit ho hva hdl
      go_wp2_with fail
      refine hof.mono ?_
      rintro _ w4 ⟨g, rfl, hv4, hb4⟩
      have hn4 := need_yes (k : Int) w4
      have HV4 : Hid _ := hv4
      clear hof hv4
      go_wp2_with fail
      refine hn4.mono ?_
      rintro _ _ ⟨rfl, rfl⟩
      go_wp2_with fail
      go_ret
      rw [HR.out]
      exact ⟨_, m + 1, by simp at hle; omega, rfl, rfl, HV4.out, hw3.old hb4⟩
    · have hp' : [41].isPrefixOf (s.data.toList.drop m) = false := eq_false_of_ne_true hp
      have hy := hsn m hm wr hrk.rdr hp'
      by_cases h0 : na = 0
      · have HSTE : Hid (∀ r, rd n (s.data.toList.drop m) = .error r → G = .error r) := fun r hr => by rw [HG.out, tupR, if_neg hp, if_pos (by rw [HNA.out]; exact h0), hr]
        have HSTO : Hid (∀ p rest, rd n (s.data.toList.drop m) = .ok (p, rest) → G = tupR (rd n) F (acc ++ [p]) rest) := fun p rest hr => by rw [HG.out, tupR, if_neg hp, if_pos (by rw [HNA.out]; exact h0), hr]
        have t0 : decide ((0 : Int) < (na : Int)) = false := decide_eq_false (by omega)
        have t1 : decide (0 < na) = false := decide_eq_false (by omega)
        have haL : acc.length < 1024 := by rw [HNA.out]; omega
        clear hp hp' h0
        go_wp2_with fail
        refine hy.mono ?_
        rintro _ w4 ⟨rfl, hr4, -⟩
        have hw4 := hrk.trans hr4
        have hit4 := hit.rk hB hr4
        clear hy hit
        have hitem := hrv m (by omega) w4 hw4.rdr
        cases hg : rd n (s.data.toList.drop m) with
        | error r =>
          rw [hg] at hitem
          have HR : Hid (G = .error r) := HSTE.out r hg
          clear hrv HG hg HSTO HSTE hsy hsn
          go_wp2_with fail
          refine hitem.mono ?_
          rintro _ w5 ⟨k5, hk5, hr5, rfl, hb5⟩
          refine ⟨rfl, ?_⟩
          rw [HR.out]
          exact ⟨k5, hk5, hr5, rfl, hw4.below.trans hb5⟩
        | ok pr =>
          obtain ⟨p, rest⟩ := pr
          rw [hg] at hitem
          obtain ⟨e1, e2, e3⟩ := rd_inv n _ _ _ (by rw [drop_len]; omega) hg
          have hpos := txt_pos e2
          have hst := HSTO.out p rest hg
          clear hrv hg HSTO HSTE HG hsy hsn
          go_wp2_with fail
          refine hitem.mono ?_
          rintro _ w5 ⟨v5, k5, hk5, hr5, rfl, hv5, hrk5⟩
          have hlen5 : s.size - k5 + (txt p).length = s.size - m := by
            have := congrArg List.length e1
            rw [hr5, List.length_append, drop_len, drop_len] at this
            omega
          have hlt5 : m < k5 := by omega
          have hrk6 := hw4.trans hrk5
          have hit5 := hit4.rk hB hrk5
          have hrow5 := hit4.row_lt
          have hsz4 := hw4.size
          have hsz5 := hrk5.size
          have HST : Hid (G = tupR (rd n) F (acc ++ [p]) (s.data.toList.drop k5)) := by
            show _ = _
            rw [hst, hr5]
          have hform := hv5.form
          have HIT : Hid _ := hit5
          have HV5 : Hid _ := hv5
          have HROW : Hid _ := hrow5
          clear e1 hst hlen5 hitem hit5 hv5 hrow5 hpos
          rcases hform with rfl | ⟨tv, xv, rfl⟩
          all_goals
            go_wp2_with (at_builtin; refine Itm.more HIT.out hsz4 hsz5 HROW.out haL e3 HV5.out (.tmp 29) (.tmp 33) rfl rfl rfl rfl ?_; intro v' w6 hit6 hb6)
            go_roundw
            case rel => exact ⟨k5, F, acc ++ [p], by omega, hk5, by omega, hit6, hrk6.base hb6 hB, HST⟩
            case measure =>
              rw [HA.out, (hrk6.base hb6 hB).rdr.atOf]
              omega
      · have t0 : decide ((0 : Int) < (na : Int)) = true := decide_eq_true (by omega)
        have t1 : decide (0 < na) = true := decide_eq_true (by omega)
        by_cases hnb : na < 1024
        · by_cases hb : [32].isPrefixOf (s.data.toList.drop m) = true
          · have hcond : acc.length < 1024 ∧ [32].isPrefixOf (s.data.toList.drop m) = true := ⟨by rw [HNA.out]; exact hnb, hb⟩
            have HSTE : Hid (∀ r, rd n (s.data.toList.drop (m + 1)) = .error r → G = .error r) := fun r hr => by rw [HG.out, tupR, if_neg hp, if_neg (by rw [HNA.out]; exact h0), if_pos hcond, drop_more, hr]
            have HSTO : Hid (∀ p rest, rd n (s.data.toList.drop (m + 1)) = .ok (p, rest) → G = tupR (rd n) F (acc ++ [p]) rest) := fun p rest hr => by rw [HG.out, tupR, if_neg hp, if_neg (by rw [HNA.out]; exact h0), if_pos hcond, drop_more, hr]
            have hle := pre_len hb
            rw [drop_len] at hle
            have hle' : 1 ≤ s.size - m := by simpa using hle
            have hbk := fun w' (h' : Rdr w' B s m) => blank_yes B m na s hs hm hnb w' h' hb
            have haL : acc.length < 1024 := hcond.1
            clear hp hp' h0 hb hle hcond
            go_wp2_with fail
            refine hy.mono ?_
            rintro _ w3 ⟨rfl, hr3, -⟩
            have hw3 := hrk.trans hr3
            have hit3 := hit.rk hB hr3
            have hbk3 := hbk w3 hw3.rdr
            clear hy hit hbk
            go_wp2_with fail
            refine hbk3.mono ?_
            rintro _ w4 ⟨rfl, hr4, -⟩
            have hw4 := hw3.trans hr4
            have hit4 := hit3.rk hB hr4
            clear hbk3 hit3
            have hitem := hrv (m + 1) (by omega) w4 hw4.rdr
            cases hg : rd n (s.data.toList.drop (m + 1)) with
            | error r =>
              rw [hg] at hitem
              have HR : Hid (G = .error r) := HSTE.out r hg
              clear hrv HG hg HSTO HSTE hsy hsn
              go_wp2_with fail
              refine hitem.mono ?_
              rintro _ w5 ⟨k5, hk5, hr5, rfl, hb5⟩
              refine ⟨rfl, ?_⟩
              rw [HR.out]
              exact ⟨k5, hk5, hr5, rfl, hw4.below.trans hb5⟩
            | ok pr =>
              obtain ⟨p, rest⟩ := pr
              rw [hg] at hitem
              obtain ⟨e1, e2, e3⟩ := rd_inv n _ _ _ (by rw [drop_len]; omega) hg
              have hpos := txt_pos e2
              have hst := HSTO.out p rest hg
              clear hrv hg HSTO HSTE HG hsy hsn
              go_wp2_with fail
              refine hitem.mono ?_
              rintro _ w5 ⟨v5, k5, hk5, hr5, rfl, hv5, hrk5⟩
              have hlen5 : s.size - k5 + (txt p).length = s.size - (m + 1) := by
                have := congrArg List.length e1
                rw [hr5, List.length_append, drop_len, drop_len] at this
                omega
              have hlt5 : (m + 1) < k5 := by omega
              have hrk6 := hw4.trans hrk5
              have hit5 := hit4.rk hB hrk5
              have hrow5 := hit4.row_lt
              have hsz4 := hw4.size
              have hsz5 := hrk5.size
              have HST : Hid (G = tupR (rd n) F (acc ++ [p]) (s.data.toList.drop k5)) := by
                show _ = _
                rw [hst, hr5]
              have hform := hv5.form
              have HIT : Hid _ := hit5
              have HV5 : Hid _ := hv5
              have HROW : Hid _ := hrow5
              clear e1 hst hlen5 hitem hit5 hv5 hrow5 hpos
              rcases hform with rfl | ⟨tv, xv, rfl⟩
              all_goals
                go_wp2_with (at_builtin; refine Itm.more HIT.out hsz4 hsz5 HROW.out haL e3 HV5.out (.tmp 29) (.tmp 33) rfl rfl rfl rfl ?_; intro v' w6 hit6 hb6)
                go_roundw
                case rel => exact ⟨k5, F, acc ++ [p], by omega, hk5, by omega, hit6, hrk6.base hb6 hB, HST⟩
                case measure =>
                  rw [HA.out, (hrk6.base hb6 hB).rdr.atOf]
                  omega
          · have hb' : [32].isPrefixOf (s.data.toList.drop m) = false := eq_false_of_ne_true hb
            have HR : Hid (G = .error (s.size - m)) := by
              show _ = _
              rw [HG.out, tupR, if_neg hp, if_neg (by rw [HNA.out]; exact h0), if_neg (by rintro ⟨_, q⟩; exact hb q), drop_len]
            have hbk := fun w' (h' : Rdr w' B s m) => blank_no B m na s hs hm hnb w' h' hb'
            clear hp hp' h0 hb hb' hsy hsn hrv HG
            go_wp2_with fail
            refine hy.mono ?_
            rintro _ w3 ⟨rfl, hr3, -⟩
            have hw3 := hrk.trans hr3
            have hbk3 := hbk w3 hw3.rdr
            clear hy hit hbk
            go_wp2_with fail
            refine hbk3.mono ?_
            rintro _ w4 ⟨rfl, hr4⟩
            refine ⟨rfl, ?_⟩
            rw [HR.out]
            exact ⟨m, hm, rfl, rfl, (hw3.trans hr4).below⟩
        · have HR : Hid (G = .error (s.size - m)) := by
            show _ = _
            rw [HG.out, tupR, if_neg hp, if_neg (by rw [HNA.out]; exact h0), if_neg (by rintro ⟨q, _⟩; rw [HNA.out] at q; exact hnb q), drop_len]
          have hbk := fun w' (h' : Rdr w' B s m) => blank_many B m na s hnb (by omega) w' h'
          clear hp hp' h0 hsy hsn hrv HG
          go_wp2_with fail
          refine hy.mono ?_
          rintro _ w3 ⟨rfl, hr3, -⟩
          have hw3 := hrk.trans hr3
          have hbk3 := hbk w3 hw3.rdr
          clear hy hit hbk
          go_wp2_with fail
          refine hbk3.mono ?_
          rintro _ w4 ⟨rfl, hr4⟩
          refine ⟨rfl, ?_⟩
          rw [HR.out]
          exact ⟨m, hm, rfl, rfl, (hw3.trans hr4).below⟩
end Go.Proofs.Ytffhbellpcneeaa

namespace Go.Proofs.Ytffhbellpcneeaa
open Go.RowKit Go.Vf
theorem calls_lost {P : Program} {f : FuncId} {args : Array Value} {w : World} {F : Ending → World → Prop} {e0 : Ending} {R : World → Prop} (v0 : Value) (hc : Calls P f args w fun e w' => e = e0 ∧ R w') (hF : ∀ w', R w' → F e0 w') (_fake : Hid False → F (.returned v0) w) : Calls P f args w F :=
  hc.mono (by rintro e w' ⟨rfl, h⟩; exact hF w' h)
theorem need_q (i : Int) (w : World) : Calls Try.prog 31 #[.bool true, .int .i64 i] w fun e w' => e = .returned (.tuple #[]) ∧ w' = w := (need_yes i w).mono fun _ _ h => ⟨h.1, h.2.symm⟩
theorem RdE.after {B k : Nat} {s : ByteArray} {g : Got} {w w3 : World} {e : Ending} {w' : World} (h : RdE B s g w3 e w') (hr : Rk B s k w w3) : RdE B s g w e w' := by
  unfold RdE at h ⊢
  split at h
  · obtain ⟨v, k', h1, h2, h3, h4, h5⟩ := h
    exact ⟨v, k', h1, h2, h3, h4.mono (Nat.le_refl _) hr.size, hr.trans h5⟩
  · obtain ⟨k', h1, h2, h3, h4⟩ := h
    exact ⟨k', h1, h2, h3, hr.below.trans h4⟩
theorem RdE.cases {B : Nat} {s : ByteArray} {g : Got} {w : World} {e : Ending} {w' : World} (h : RdE B s g w e w') : (∃ v, e = .returned v) ∨ ∃ i : Int, e = lostL 100 i := by
  unfold RdE at h
  split at h
  · obtain ⟨v, k', h1, h2, h3, h4, h5⟩ := h
    exact .inl ⟨v, h3⟩
  · obtain ⟨k', h1, h2, h3, h4⟩ := h
    exact .inr ⟨_, h3⟩
theorem dig_cases {c : UInt8} (h : isDig c = true) : c = 48 ∨ c = 49 ∨ c = 50 ∨ c = 51 ∨ c = 52 ∨ c = 53 ∨ c = 54 ∨ c = 55 ∨ c = 56 ∨ c = 57 := by
  have := all_bytes (P := fun c => !isDig c || decide (c = 48 ∨ c = 49 ∨ c = 50 ∨ c = 51 ∨ c = 52 ∨ c = 53 ∨ c = 54 ∨ c = 55 ∨ c = 56 ∨ c = 57)) (by kernel_rfl) c
  rw [h] at this
  simpa using this
set_option maxHeartbeats 8000000 in
set_option maxRecDepth 20000 in
theorem readValue_step (f : List UInt8 → Got) (D : Nat) (hD : D ≤ 16) (B : Nat) (s : ByteArray) (hs : s.size ≤ 65536)
    (hlist : ∀ (k : Nat) (hk : k < s.size), s[k] = 40 → ∀ (w : World), Rdr w B s k → Calls Try.prog 52 #[.pointer (some ⟨B, 0, none⟩), .int .i64 ((D : Int) + 1)] w (RdE B s (f (s.data.toList.drop (k + 1))) w))
    (k : Nat) (hk : k ≤ s.size) (w : World) (h : Rdr w B s k) : Calls Try.prog 30 #[.pointer (some ⟨B, 0, none⟩), .int .i64 (D : Int)] w (RdE B s (rdV f (s.data.toList.drop k)) w) := by
  obtain ⟨c0, c1, f1⟩ := h.two
  obtain ⟨G, hG⟩ : ∃ G, rdV f (s.data.toList.drop k) = G := ⟨_, rfl⟩
  have HG : Hid (rdV f (s.data.toList.drop k) = G) := hG
  have HR : Hid (Rdr w B s k) := h
  rw [hG]
  clear hG h
  by_cases hlt : k < s.size
  · have hj : (k : Int) < (s.size : Int) := by omega
    have hd := drop_at s k hlt
    have HRD : Hid (G = rdV f (s[k] :: s.data.toList.drop (k + 1))) := by show _ = _; rw [← HG.out, hd]
    have HDR : Hid (s[k] :: s.data.toList.drop (k + 1) = s.data.toList.drop k) := hd.symm
    clear HG hd
    go_enter Try.func30, Try.ntmps30
    go_wp2_with fail
    go_quiet (first | (go_at_call 31; refine Calls.quiet_of_same (need_q _ _)))
    have hr2 := (Rk.refl HR.out).draws nq
    generalize w.drewN nq = w2 at *
    obtain ⟨c0, c1, f1⟩ := hr2.rdr.two
    go_wp2_with fail
    go_quiet (fail)
    have hr3 := hr2.draws nq
    generalize w2.drewN nq = w3 at *
    clear hr2 c0 c1 f1
    by_cases h45 : s[k] = 45
    · have t45 : ((s[k].toNat : Int) == 45) = true := u8_eqn _ 45 (by omega) h45
      have HGEQ : G = numR s[k] (s.data.toList.drop (k + 1)) := by rw [HRD.out, rdV, if_pos (by rw [h45]; decide)]
      clear h45
      have hcall := readNumber_any B k s hs hlt w3 hr3.rdr
      have HGN : Hid (G = numR s[k] (s.data.toList.drop (k + 1))) := HGEQ
      clear HGEQ HRD hlist HDR
      go_wp2_with fail
      refine hcall.mono ?_
      rintro e w4 hE
      rcases hE.cases with ⟨v, rfl⟩ | ⟨i, rfl⟩
      · go_wp2_with fail
        go_ret
        rw [HGN.out]
        exact hE.after hr3
      · refine ⟨rfl, ?_⟩
        rw [HGN.out]
        exact hE.after hr3
    have t45 : ((s[k].toNat : Int) == 45) = false := u8_nen _ 45 h45
    by_cases h48 : s[k] = 48
    · have t48 : ((s[k].toNat : Int) == 48) = true := u8_eqn _ 48 (by omega) h48
      have HGEQ : G = numR s[k] (s.data.toList.drop (k + 1)) := by rw [HRD.out, rdV, if_pos (by rw [h48]; decide)]
      clear h45 h48
      have hcall := readNumber_any B k s hs hlt w3 hr3.rdr
      have HGN : Hid (G = numR s[k] (s.data.toList.drop (k + 1))) := HGEQ
      clear HGEQ HRD hlist HDR
      go_wp2_with fail
      refine hcall.mono ?_
      rintro e w4 hE
      rcases hE.cases with ⟨v, rfl⟩ | ⟨i, rfl⟩
      · go_wp2_with fail
        go_ret
        rw [HGN.out]
        exact hE.after hr3
      · refine ⟨rfl, ?_⟩
        rw [HGN.out]
        exact hE.after hr3
    have t48 : ((s[k].toNat : Int) == 48) = false := u8_nen _ 48 h48
    by_cases h49 : s[k] = 49
    · have t49 : ((s[k].toNat : Int) == 49) = true := u8_eqn _ 49 (by omega) h49
      have HGEQ : G = numR s[k] (s.data.toList.drop (k + 1)) := by rw [HRD.out, rdV, if_pos (by rw [h49]; decide)]
      clear h45 h48 h49
      have hcall := readNumber_any B k s hs hlt w3 hr3.rdr
      have HGN : Hid (G = numR s[k] (s.data.toList.drop (k + 1))) := HGEQ
      clear HGEQ HRD hlist HDR
      go_wp2_with fail
      refine hcall.mono ?_
      rintro e w4 hE
      rcases hE.cases with ⟨v, rfl⟩ | ⟨i, rfl⟩
      · go_wp2_with fail
        go_ret
        rw [HGN.out]
        exact hE.after hr3
      · refine ⟨rfl, ?_⟩
        rw [HGN.out]
        exact hE.after hr3
    have t49 : ((s[k].toNat : Int) == 49) = false := u8_nen _ 49 h49
    by_cases h50 : s[k] = 50
    · have t50 : ((s[k].toNat : Int) == 50) = true := u8_eqn _ 50 (by omega) h50
      have HGEQ : G = numR s[k] (s.data.toList.drop (k + 1)) := by rw [HRD.out, rdV, if_pos (by rw [h50]; decide)]
      clear h45 h48 h49 h50
      have hcall := readNumber_any B k s hs hlt w3 hr3.rdr
      have HGN : Hid (G = numR s[k] (s.data.toList.drop (k + 1))) := HGEQ
      clear HGEQ HRD hlist HDR
      go_wp2_with fail
      refine hcall.mono ?_
      rintro e w4 hE
      rcases hE.cases with ⟨v, rfl⟩ | ⟨i, rfl⟩
      · go_wp2_with fail
        go_ret
        rw [HGN.out]
        exact hE.after hr3
      · refine ⟨rfl, ?_⟩
        rw [HGN.out]
        exact hE.after hr3
    have t50 : ((s[k].toNat : Int) == 50) = false := u8_nen _ 50 h50
    by_cases h51 : s[k] = 51
    · have t51 : ((s[k].toNat : Int) == 51) = true := u8_eqn _ 51 (by omega) h51
      have HGEQ : G = numR s[k] (s.data.toList.drop (k + 1)) := by rw [HRD.out, rdV, if_pos (by rw [h51]; decide)]
      clear h45 h48 h49 h50 h51
      have hcall := readNumber_any B k s hs hlt w3 hr3.rdr
      have HGN : Hid (G = numR s[k] (s.data.toList.drop (k + 1))) := HGEQ
      clear HGEQ HRD hlist HDR
      go_wp2_with fail
      refine hcall.mono ?_
      rintro e w4 hE
      rcases hE.cases with ⟨v, rfl⟩ | ⟨i, rfl⟩
      · go_wp2_with fail
        go_ret
        rw [HGN.out]
        exact hE.after hr3
      · refine ⟨rfl, ?_⟩
        rw [HGN.out]
        exact hE.after hr3
    have t51 : ((s[k].toNat : Int) == 51) = false := u8_nen _ 51 h51
    by_cases h52 : s[k] = 52
    · have t52 : ((s[k].toNat : Int) == 52) = true := u8_eqn _ 52 (by omega) h52
      have HGEQ : G = numR s[k] (s.data.toList.drop (k + 1)) := by rw [HRD.out, rdV, if_pos (by rw [h52]; decide)]
      clear h45 h48 h49 h50 h51 h52
      have hcall := readNumber_any B k s hs hlt w3 hr3.rdr
      have HGN : Hid (G = numR s[k] (s.data.toList.drop (k + 1))) := HGEQ
      clear HGEQ HRD hlist HDR
      go_wp2_with fail
      refine hcall.mono ?_
      rintro e w4 hE
      rcases hE.cases with ⟨v, rfl⟩ | ⟨i, rfl⟩
      · go_wp2_with fail
        go_ret
        rw [HGN.out]
        exact hE.after hr3
      · refine ⟨rfl, ?_⟩
        rw [HGN.out]
        exact hE.after hr3
    have t52 : ((s[k].toNat : Int) == 52) = false := u8_nen _ 52 h52
    by_cases h53 : s[k] = 53
    · have t53 : ((s[k].toNat : Int) == 53) = true := u8_eqn _ 53 (by omega) h53
      have HGEQ : G = numR s[k] (s.data.toList.drop (k + 1)) := by rw [HRD.out, rdV, if_pos (by rw [h53]; decide)]
      clear h45 h48 h49 h50 h51 h52 h53
      have hcall := readNumber_any B k s hs hlt w3 hr3.rdr
      have HGN : Hid (G = numR s[k] (s.data.toList.drop (k + 1))) := HGEQ
      clear HGEQ HRD hlist HDR
      go_wp2_with fail
      refine hcall.mono ?_
      rintro e w4 hE
      rcases hE.cases with ⟨v, rfl⟩ | ⟨i, rfl⟩
      · go_wp2_with fail
        go_ret
        rw [HGN.out]
        exact hE.after hr3
      · refine ⟨rfl, ?_⟩
        rw [HGN.out]
        exact hE.after hr3
    have t53 : ((s[k].toNat : Int) == 53) = false := u8_nen _ 53 h53
    by_cases h54 : s[k] = 54
    · have t54 : ((s[k].toNat : Int) == 54) = true := u8_eqn _ 54 (by omega) h54
      have HGEQ : G = numR s[k] (s.data.toList.drop (k + 1)) := by rw [HRD.out, rdV, if_pos (by rw [h54]; decide)]
      clear h45 h48 h49 h50 h51 h52 h53 h54
      have hcall := readNumber_any B k s hs hlt w3 hr3.rdr
      have HGN : Hid (G = numR s[k] (s.data.toList.drop (k + 1))) := HGEQ
      clear HGEQ HRD hlist HDR
      go_wp2_with fail
      refine hcall.mono ?_
      rintro e w4 hE
      rcases hE.cases with ⟨v, rfl⟩ | ⟨i, rfl⟩
      · go_wp2_with fail
        go_ret
        rw [HGN.out]
        exact hE.after hr3
      · refine ⟨rfl, ?_⟩
        rw [HGN.out]
        exact hE.after hr3
    have t54 : ((s[k].toNat : Int) == 54) = false := u8_nen _ 54 h54
    by_cases h55 : s[k] = 55
    · have t55 : ((s[k].toNat : Int) == 55) = true := u8_eqn _ 55 (by omega) h55
      have HGEQ : G = numR s[k] (s.data.toList.drop (k + 1)) := by rw [HRD.out, rdV, if_pos (by rw [h55]; decide)]
      clear h45 h48 h49 h50 h51 h52 h53 h54 h55
      have hcall := readNumber_any B k s hs hlt w3 hr3.rdr
      have HGN : Hid (G = numR s[k] (s.data.toList.drop (k + 1))) := HGEQ
      clear HGEQ HRD hlist HDR
      go_wp2_with fail
      refine hcall.mono ?_
      rintro e w4 hE
      rcases hE.cases with ⟨v, rfl⟩ | ⟨i, rfl⟩
      · go_wp2_with fail
        go_ret
        rw [HGN.out]
        exact hE.after hr3
      · refine ⟨rfl, ?_⟩
        rw [HGN.out]
        exact hE.after hr3
    have t55 : ((s[k].toNat : Int) == 55) = false := u8_nen _ 55 h55
    by_cases h56 : s[k] = 56
    · have t56 : ((s[k].toNat : Int) == 56) = true := u8_eqn _ 56 (by omega) h56
      have HGEQ : G = numR s[k] (s.data.toList.drop (k + 1)) := by rw [HRD.out, rdV, if_pos (by rw [h56]; decide)]
      clear h45 h48 h49 h50 h51 h52 h53 h54 h55 h56
      have hcall := readNumber_any B k s hs hlt w3 hr3.rdr
      have HGN : Hid (G = numR s[k] (s.data.toList.drop (k + 1))) := HGEQ
      clear HGEQ HRD hlist HDR
      go_wp2_with fail
      refine hcall.mono ?_
      rintro e w4 hE
      rcases hE.cases with ⟨v, rfl⟩ | ⟨i, rfl⟩
      · go_wp2_with fail
        go_ret
        rw [HGN.out]
        exact hE.after hr3
      · refine ⟨rfl, ?_⟩
        rw [HGN.out]
        exact hE.after hr3
    have t56 : ((s[k].toNat : Int) == 56) = false := u8_nen _ 56 h56
    by_cases h57 : s[k] = 57
    · have t57 : ((s[k].toNat : Int) == 57) = true := u8_eqn _ 57 (by omega) h57
      have HGEQ : G = numR s[k] (s.data.toList.drop (k + 1)) := by rw [HRD.out, rdV, if_pos (by rw [h57]; decide)]
      clear h45 h48 h49 h50 h51 h52 h53 h54 h55 h56 h57
      have hcall := readNumber_any B k s hs hlt w3 hr3.rdr
      have HGN : Hid (G = numR s[k] (s.data.toList.drop (k + 1))) := HGEQ
      clear HGEQ HRD hlist HDR
      go_wp2_with fail
      refine hcall.mono ?_
      rintro e w4 hE
      rcases hE.cases with ⟨v, rfl⟩ | ⟨i, rfl⟩
      · go_wp2_with fail
        go_ret
        rw [HGN.out]
        exact hE.after hr3
      · refine ⟨rfl, ?_⟩
        rw [HGN.out]
        exact hE.after hr3
    have t57 : ((s[k].toNat : Int) == 57) = false := u8_nen _ 57 h57
    have hnum : ¬ (s[k] = 45 ∨ isDig s[k] = true) := by
      rintro (h | h)
      · exact h45 h
      · rcases dig_cases h with h | h | h | h | h | h | h | h | h | h <;> contradiction
    by_cases h120 : s[k] = 120
    · have t120 : ((s[k].toNat : Int) == 120) = true := u8_eqn _ 120 (by omega) h120
      have HGEQ : G = bytesR (s.data.toList.drop (k + 1)) := by rw [HRD.out, rdV, if_neg hnum, if_pos h120]
      clear hnum h45 h48 h49 h50 h51 h52 h53 h54 h55 h56 h57 h120
      have hcall := readBytes_any B k s hs hlt w3 hr3.rdr
      have HGN : Hid (G = bytesR (s.data.toList.drop (k + 1))) := HGEQ
      clear HGEQ HRD hlist HDR
      go_wp2_with fail
      refine hcall.mono ?_
      rintro e w4 hE
      rcases hE.cases with ⟨v, rfl⟩ | ⟨i, rfl⟩
      · go_wp2_with fail
        go_ret
        rw [HGN.out]
        exact hE.after hr3
      · refine ⟨rfl, ?_⟩
        rw [HGN.out]
        exact hE.after hr3
    have t120 : ((s[k].toNat : Int) == 120) = false := u8_nen _ 120 h120
    by_cases h35 : s[k] = 35
    · have t35 : ((s[k].toNat : Int) == 35) = true := u8_eqn _ 35 (by omega) h35
      have HGEQ : G = idR (s.data.toList.drop (k + 1)) := by rw [HRD.out, rdV, if_neg hnum, if_neg h120, if_pos h35]
      clear hnum h45 h48 h49 h50 h51 h52 h53 h54 h55 h56 h57 h120 h35
      have hcall := readID_any B k s hs hlt w3 hr3.rdr
      have HGN : Hid (G = idR (s.data.toList.drop (k + 1))) := HGEQ
      clear HGEQ HRD hlist HDR
      go_wp2_with fail
      refine hcall.mono ?_
      rintro e w4 hE
      rcases hE.cases with ⟨v, rfl⟩ | ⟨i, rfl⟩
      · go_wp2_with fail
        go_ret
        rw [HGN.out]
        exact hE.after hr3
      · refine ⟨rfl, ?_⟩
        rw [HGN.out]
        exact hE.after hr3
    have t35 : ((s[k].toNat : Int) == 35) = false := u8_nen _ 35 h35
    by_cases h39 : s[k] = 39
    · have t39 : ((s[k].toNat : Int) == 39) = true := u8_eqn _ 39 (by omega) h39
      have HGEQ : G = quoR 5 39 (s.data.toList.drop (k + 1)) := by rw [HRD.out, rdV, if_neg hnum, if_neg h120, if_neg h35, if_pos h39]
      have hcq := readQuoted_any 5 39 (.inl rfl) B k s hs hlt h39 w3 hr3.rdr
      clear hnum h45 h48 h49 h50 h51 h52 h53 h54 h55 h56 h57 h120 h35 h39
      have hcall := hcq
      have HGN : Hid (G = quoR 5 39 (s.data.toList.drop (k + 1))) := HGEQ
      clear HGEQ HRD hlist HDR
      go_wp2_with fail
      refine hcall.mono ?_
      rintro e w4 hE
      rcases hE.cases with ⟨v, rfl⟩ | ⟨i, rfl⟩
      · go_wp2_with fail
        go_ret
        rw [HGN.out]
        exact hE.after hr3
      · refine ⟨rfl, ?_⟩
        rw [HGN.out]
        exact hE.after hr3
    have t39 : ((s[k].toNat : Int) == 39) = false := u8_nen _ 39 h39
    by_cases h34 : s[k] = 34
    · have t34 : ((s[k].toNat : Int) == 34) = true := u8_eqn _ 34 (by omega) h34
      have HGEQ : G = quoR 6 34 (s.data.toList.drop (k + 1)) := by rw [HRD.out, rdV, if_neg hnum, if_neg h120, if_neg h35, if_neg h39, if_pos h34]
      have hcq := readQuoted_any 6 34 (.inr rfl) B k s hs hlt h34 w3 hr3.rdr
      clear hnum h45 h48 h49 h50 h51 h52 h53 h54 h55 h56 h57 h120 h35 h39 h34
      have hcall := hcq
      have HGN : Hid (G = quoR 6 34 (s.data.toList.drop (k + 1))) := HGEQ
      clear HGEQ HRD hlist HDR
      go_wp2_with fail
      refine hcall.mono ?_
      rintro e w4 hE
      rcases hE.cases with ⟨v, rfl⟩ | ⟨i, rfl⟩
      · go_wp2_with fail
        go_ret
        rw [HGN.out]
        exact hE.after hr3
      · refine ⟨rfl, ?_⟩
        rw [HGN.out]
        exact hE.after hr3
    have t34 : ((s[k].toNat : Int) == 34) = false := u8_nen _ 34 h34
    by_cases h40 : s[k] = 40
    · have t40 : ((s[k].toNat : Int) == 40) = true := u8_eqn _ 40 (by omega) h40
      have HGEQ : G = f (s.data.toList.drop (k + 1)) := by rw [HRD.out, rdV, if_neg hnum, if_neg h120, if_neg h35, if_neg h39, if_neg h34, if_pos h40]
      have hcq := hlist k hlt h40 w3 hr3.rdr
      clear hnum h45 h48 h49 h50 h51 h52 h53 h54 h55 h56 h57 h120 h35 h39 h34 h40
      have hcall := hcq
      have HGN : Hid (G = f (s.data.toList.drop (k + 1))) := HGEQ
      clear HGEQ HRD hlist HDR
      go_wp2_with fail
      refine hcall.mono ?_
      rintro e w4 hE
      rcases hE.cases with ⟨v, rfl⟩ | ⟨i, rfl⟩
      · go_wp2_with fail
        go_ret
        rw [HGN.out]
        exact hE.after hr3
      · refine ⟨rfl, ?_⟩
        rw [HGN.out]
        exact hE.after hr3
    have t40 : ((s[k].toNat : Int) == 40) = false := u8_nen _ 40 h40
    have HGEQ : G = wordR (s.data.toList.drop k) := by rw [HRD.out, rdV, if_neg hnum, if_neg h120, if_neg h35, if_neg h39, if_neg h34, if_neg h40, HDR.out]
    clear hnum h45 h48 h49 h50 h51 h52 h53 h54 h55 h56 h57 h120 h35 h39 h34 h40
    have hcall := readWord_any B k s hs hk w3 hr3.rdr
    have HGN : Hid (G = wordR (s.data.toList.drop k)) := HGEQ
    clear HGEQ HRD hlist HDR
    go_wp2_with fail
    refine hcall.mono ?_
    rintro e w4 hE
    rcases hE.cases with ⟨v, rfl⟩ | ⟨i, rfl⟩
    · go_wp2_with fail
      go_ret
      rw [HGN.out]
      exact hE.after hr3
    · refine ⟨rfl, ?_⟩
      rw [HGN.out]
      exact hE.after hr3
  · have hj : decide ((k : Int) < (s.size : Int)) = false := decide_eq_false (by omega)
    have hj2 : decide (k < s.size) = false := decide_eq_false hlt
    have HGN : Hid (G = .error (s.size - k)) := by
      show _ = _
      rw [← HG.out, drop_end s k (by omega), rdV, show s.size - k = 0 by omega]
    clear HG hlist
    go_enter Try.func30, Try.ntmps30
    go_wp2_with fail
    go_region_with (first | (go_at_call 31; refine calls_lost (.tuple #[]) (need_not _ _) (fun x hx => ?_) ?_; (· subst hx; exact ⟨rfl, by rw [HGN.out]; exact ⟨k, hk, rfl, rfl, (Below.refl _ _).drew⟩⟩); intro hX))
    all_goals exact (Hid.out (p := False) (by assumption)).elim

theorem readValue_any (B : Nat) (s : ByteArray) (hs : s.size ≤ 65536) : ∀ (n D : Nat), D + n = 16 → ∀ (k : Nat), k ≤ s.size → ∀ (w : World), Rdr w B s k → Calls Try.prog 30 #[.pointer (some ⟨B, 0, none⟩), .int .i64 (D : Int)] w (RdE B s (rd n (s.data.toList.drop k)) w)
  | 0, D, hD, k, hk, w, h => by
    refine readValue_step (fun t => .error (t.length + 1)) D (by omega) B s hs (fun k hk hq w h => ?_) k hk w h
    refine (list_deep B k (D + 1) s (by omega) (by omega) w h).mono ?_
    rintro _ w' ⟨rfl, hb⟩
    refine ⟨k, by omega, ?_, rfl, hb⟩
    rw [drop_len]; omega
  | n + 1, D, hD, k, hk, w, h => by
    refine readValue_step (fun t => tupR (rd n) (t.length + 1) [] t) D (by omega) B s hs (fun k hk hq w h => ?_) k hk w h
    exact readList_any n (D + 1) (by omega) (by omega) B s hs (fun k hk w h => readValue_any B s hs n (D + 1) (by omega) k hk w h) k hk hq w h
end Go.Proofs.Ytffhbellpcneeaa

namespace Go.Proofs.Ytffhbellpcneeaa
open Go.RowKit Go.Vf

theorem lp_idle (p q r : Addr) (w : World) :
    CallsD Try.prog 29 #[.pointer (some p), .pointer (some q), .pointer (some r)] .returning w fun e u' w' => e = .returned (.tuple #[]) ∧ u' = .returning ∧ w' = w := by
  refine callsD_of_wpS Try.func29 rfl fun c₀ cs hu => ?_
  apply wpS_seq
  apply wpS_region
  simp [wpOpsS, go_sem, recoverD, hu, Try.ntmps29, Exit.thenS]
  apply wpS_seq
  apply wpS_region
  simp [wpOpsS, go_sem, Exit.thenS]
  refine wpS_cond (t := false) (by simp [Act.eval, Array.replicate]) ?_
  simp only [Bool.false_eq_true, if_false]
  refine wpS_of_wp (wp_skip ?_)
  cases c₀
  simp_all [bodyPostS, results, Try.results29]

/-- The three variables of Parse's results. -/
structure Thr (w : World) (h : Nat) (v : Value) (e a : Int) : Prop where
  c0 : Blk w h 33 #[v]
  c1 : Blk w (h + 1) 30 #[.int .i64 e]
  c2 : Blk w (h + 2) 3 #[.int .i64 a]
theorem Thr.below {w w' : World} {B h : Nat} {v : Value} {e a : Int} (h3 : Thr w h v e a) (hb : Below B w w') (hB : h + 2 < B) : Thr w' h v e a :=
  ⟨h3.c0.below hb (by omega), h3.c1.below hb (by omega), h3.c2.below hb hB⟩
theorem Thr.drew {w : World} {h : Nat} {v : Value} {e a : Int} (h3 : Thr w h v e a) : Thr w.drew h v e a := ⟨h3.c0, h3.c1, h3.c2⟩
theorem Thr.set0 {w : World} {h : Nat} {v : Value} {e a : Int} (h3 : Thr w h v e a) (v' : Value) : Thr (w.setCell ⟨h, 0, none⟩ v') h v' e a :=
  ⟨h3.c0.set 0 v', h3.c1.other (p := ⟨h, 0, none⟩) (by show h + 1 ≠ h; omega) v', h3.c2.other (p := ⟨h, 0, none⟩) (by show h + 2 ≠ h; omega) v'⟩
theorem Thr.set1 {w : World} {h : Nat} {v : Value} {e a : Int} (h3 : Thr w h v e a) (e' : Int) : Thr (w.setCell ⟨h + 1, 0, none⟩ (.int .i64 e')) h v e' a :=
  ⟨h3.c0.other (p := ⟨h + 1, 0, none⟩) (by show h ≠ h + 1; omega) _, h3.c1.set 0 _, h3.c2.other (p := ⟨h + 1, 0, none⟩) (by show h + 2 ≠ h + 1; omega) _⟩
theorem Thr.set2 {w : World} {h : Nat} {v : Value} {e a : Int} (h3 : Thr w h v e a) (a' : Int) : Thr (w.setCell ⟨h + 2, 0, none⟩ (.int .i64 a')) h v e a' :=
  ⟨h3.c0.other (p := ⟨h + 2, 0, none⟩) (by show h ≠ h + 2; omega) _, h3.c1.other (p := ⟨h + 2, 0, none⟩) (by show h + 1 ≠ h + 2; omega) _, h3.c2.set 0 _⟩
theorem below_sets (w : World) (h : Nat) (v : Value) (e a : Value) : Below h w (((w.setCell ⟨h, 0, none⟩ v).setCell ⟨h + 1, 0, none⟩ e).setCell ⟨h + 2, 0, none⟩ a) :=
  (((Below.refl h w).setCell (p := ⟨h, 0, none⟩) (Nat.le_refl _) _).setCell (p := ⟨h + 1, 0, none⟩) (Nat.le_succ _) _).setCell (p := ⟨h + 2, 0, none⟩) (by show h ≤ h + 2; omega) _
theorem Thr.cells {w : World} {h : Nat} {v : Value} {e a : Int} (h3 : Thr w h v e a) : w.cell? ⟨h, 0, none⟩ = some v ∧ w.cell? ⟨h + 1, 0, none⟩ = some (.int .i64 e) ∧ w.cell? ⟨h + 2, 0, none⟩ = some (.int .i64 a) ∧ w.frozen? ⟨h, 0, none⟩ = false ∧ w.frozen? ⟨h + 1, 0, none⟩ = false ∧ w.frozen? ⟨h + 2, 0, none⟩ = false :=
  ⟨h3.c0.cell 0, h3.c1.cell 0, h3.c2.cell 0, h3.c0.frozen 0, h3.c1.frozen 0, h3.c2.frozen 0⟩

set_option maxHeartbeats 1000000 in
theorem lp_catch (h : Nat) (why at_ : Int) (v : Value) (e0 a0 : Int) (w : World) (_hv : v.oneCell' = true) (h3 : Thr w h v e0 a0) :
    CallsD Try.prog 29 #[.pointer (some ⟨h, 0, none⟩), .pointer (some ⟨h + 1, 0, none⟩), .pointer (some ⟨h + 2, 0, none⟩)] (.panicking [{ v := .iface 60 (.agg #[.int .i64 why, .int .i64 at_]), recovered := false }]) w fun e u' w' =>
      e = .returned (.tuple #[]) ∧ u' = .panicking [{ v := .iface 60 (.agg #[.int .i64 why, .int .i64 at_]), recovered := true }] ∧ Thr w' h .nilIface why at_ ∧ Below h w w' := by
  have hta : ∀ w : World, (Instr.typeAssert (.iface 60 (.agg #[.int .i64 why, .int .i64 at_])) 20 60 false).run Try.prog w = .ok (.agg #[.int .i64 why, .int .i64 at_]) w := fun w => by kernel_rfl
  refine callsD_of_wpS Try.func29 rfl fun c₀ cs hu => ?_
  apply wpS_seq
  apply wpS_region
  simp [wpOpsS, go_sem, recoverD, hu, Try.ntmps29, Exit.thenS, Array.replicate]
  apply wpS_seq
  apply wpS_region
  simp [wpOpsS, go_sem, Exit.thenS]
  refine wpS_cond (t := true) (by simp [Act.eval]) ?_
  simp only [if_true]
  refine wpS_of_wp ?_
  have hb1 := (Below.refl w.heap.size w).alloc (Nat.le_refl _) (.cells #[.int .i64 why, .int .i64 at_] 60)
  have hB := Blk.new w 60 #[.int .i64 why, .int .i64 at_]
  have hlt := h3.c2.lt
  have h4 := h3.below hb1 (by omega)
  have h5 := ((h4.set0 .nilIface).set1 why).set2 at_
  have hbs := below_sets (w.alloc (.cells #[.int .i64 why, .int .i64 at_] 60)) h .nilIface (.int .i64 why) (.int .i64 at_)
  have g0 : (w.alloc (.cells #[.int .i64 why, .int .i64 at_] 60)).cell? ⟨w.heap.size, 0, none⟩ = some (.int .i64 why) := hB.cell 0
  have g1 : (w.alloc (.cells #[.int .i64 why, .int .i64 at_] 60)).cell? ⟨w.heap.size, 1, none⟩ = some (.int .i64 at_) := hB.cell 1
  obtain ⟨c0, c1, c2, f0, f1, f2⟩ := h4.cells
  go_wp2_with fail
  generalize w.alloc (.cells #[.int .i64 why, .int .i64 at_] 60) = w1 at *
  obtain ⟨H, hH⟩ : ∃ H, w.heap.size = H := ⟨_, rfl⟩
  rw [hH] at g0 g1 hlt ⊢
  have n0 : H ≠ h := by omega
  have n1 : H ≠ h + 1 := by omega
  have n2 : H ≠ h + 2 := by omega
  have m0 : h ≠ H := by omega
  have m1 : h + 1 ≠ H := by omega
  have m2 : h + 2 ≠ H := by omega
  have HB : Hid (Below h w w1) := hb1.mono (by omega)
  clear hb1 hB h3 h4 hH
  go_region
  exact ⟨rfl, _, rfl, _, by simp [results, Try.results29], rfl, rfl, h5.drew, (HB.out.trans hbs).drew⟩

theorem lp_results {tmps : Array Value} {w : World} {h : Nat} {v : Value} {e a : Int} (h3 : Thr w h v e a) (t2 : tmps[2]?.getD undef = .pointer (some ⟨h, 0, none⟩)) (t3 : tmps[3]?.getD undef = .pointer (some ⟨h + 1, 0, none⟩)) (t4 : tmps[4]?.getD undef = .pointer (some ⟨h + 2, 0, none⟩)) :
    (results Try.f15 tmps).run Try.prog w = .ok (.tuple #[v, .int .i64 e, .int .i64 a]) w := by
  obtain ⟨c0, c1, c2, f0, f1, f2⟩ := h3.cells
  simp [results, Try.results15, go_sem, t2, t3, t4, c0, c1, c2]
theorem thr_new (w : World) (v : Value) (e a : Int) : Thr (((w.alloc (.cells #[v] 33)).alloc (.cells #[.int .i64 e] 30)).alloc (.cells #[.int .i64 a] 3)) w.heap.size v e a := by
  have s1 := alloc_size w (.cells #[v] 33)
  have s2 := alloc_size (w.alloc (.cells #[v] 33)) (.cells #[.int .i64 e] 30)
  have b1 := Blk.new w 33 #[v]
  have b2 := Blk.new (w.alloc (.cells #[v] 33)) 30 #[.int .i64 e]
  have b3 := Blk.new ((w.alloc (.cells #[v] 33)).alloc (.cells #[.int .i64 e] 30)) 3 #[.int .i64 a]
  rw [s1] at b2
  rw [s2, s1] at b3
  have q2 := (Below.refl (w.alloc (.cells #[v] 33)).heap.size (w.alloc (.cells #[v] 33))).alloc (Nat.le_refl _) (.cells #[.int .i64 e] 30)
  have q3 := (Below.refl ((w.alloc (.cells #[v] 33)).alloc (.cells #[.int .i64 e] 30)).heap.size ((w.alloc (.cells #[v] 33)).alloc (.cells #[.int .i64 e] 30))).alloc (Nat.le_refl _) (.cells #[.int .i64 a] 3)
  exact ⟨(b1.old q2).old q3, b2.old q3, b3⟩
theorem below_new (w : World) (v e a : Value) : Below w.heap.size w (((w.alloc (.cells #[v] 33)).alloc (.cells #[e] 30)).alloc (.cells #[a] 3)) :=
  (((Below.refl w.heap.size w).alloc (Nat.le_refl _) (.cells #[v] 33)).alloc (by simp) (.cells #[e] 30)).alloc (by simp; omega) (.cells #[a] 3)
/-- What Parse answers, by the document's words. -/
def parseL (l : List UInt8) : Except (Int × Nat) Prt := if 65536 < l.length then .error (2, 0) else match rd 16 l with
  | .ok (p, rest) => if rest = [] then .ok p else .error (100, l.length - rest.length)
  | .error r => .error (100, l.length - r)
def LpE (g : Except (Int × Nat) Prt) (w : World) (e : Ending) (w' : World) : Prop := Below w.heap.size w w' ∧ match g with
  | .ok p => ∃ v, e = .returned (.tuple #[v, .int .i64 0, .int .i64 0]) ∧ VIn w' w.heap.size w'.heap.size v p
  | .error (why, i) => e = .returned (.tuple #[.nilIface, .int .i64 why, .int .i64 (i : Int)])

set_option maxHeartbeats 2000000 in
set_option maxRecDepth 20000 in
theorem lparse_any (s : ByteArray) (hs : s.size ≤ 17179869184) (w : World) : Calls Try.prog 15 #[.string s] w (LpE (parseL s.data.toList) w) := by
  have hmf : ∀ (fn : Fn) (first cap : Array Value) (w : World), (Instr.makeFunc fn first cap).run Try.prog w = .ok (.func fn first cap) w := fun _ _ _ _ => rfl
  have hsl : s.data.toList.length = s.size := (Lib.size_eq s).symm
  obtain ⟨G, hG⟩ : ∃ G, parseL s.data.toList = G := ⟨_, rfl⟩
  have HG : Hid (parseL s.data.toList = G) := hG
  rw [hG]
  clear hG
  by_cases hlong : 65536 < s.size
  · have HGL : Hid (G = .error (2, 0)) := by show _ = _; rw [← HG.out, parseL, if_pos (by omega)]
    have hj : decide ((65536 : Int) < (s.size : Int)) = true := decide_eq_true (by omega)
    have h5 := thr_new w .nilIface 2 0
    have hb5 := below_new w .nilIface (.int .i64 2) (.int .i64 0)
    go_enter_defers Try.func15, Try.ntmps15
    go_wp2_with fail
    refine ⟨_, lp_results h5 rfl rfl rfl, ?_⟩
    rw [HGL.out]
    exact ⟨hb5, rfl⟩
  · have hs' : s.size ≤ 65536 := by omega
    have hj : decide ((65536 : Int) < (s.size : Int)) = false := decide_eq_false (by omega)
    have h3 := thr_new w .nilIface 0 0
    have hbel := below_new w .nilIface (.int .i64 0) (.int .i64 0)
    have hsz : (((w.alloc (.cells #[.nilIface] 33)).alloc (.cells #[.int .i64 0] 30)).alloc (.cells #[.int .i64 0] 3)).heap.size = w.heap.size + 3 := by simp
    have hGd : Hid (G = match rd 16 s.data.toList with | .ok (p, rest) => if rest = [] then .ok p else .error (100, s.size - rest.length) | .error r => .error (100, s.size - r)) := by
      show _ = _
      rw [← HG.out, parseL, if_neg (by omega), hsl]
    clear HG hsl
    go_enter_defers Try.func15, Try.ntmps15
    go_wp2_with fail
    have hb1 := hbel.alloc (by rw [hsz]; omega) (.cells #[.string s, .int .i64 0] 68)
    have hbA := (Below.refl (w.heap.size + 3) (((w.alloc (.cells #[.nilIface] 33)).alloc (.cells #[.int .i64 0] 30)).alloc (.cells #[.int .i64 0] 3))).alloc (by rw [hsz]; exact Nat.le_refl _) (.cells #[.string s, .int .i64 0] 68)
    have hR := Blk.new (((w.alloc (.cells #[.nilIface] 33)).alloc (.cells #[.int .i64 0] 30)).alloc (.cells #[.int .i64 0] 3)) 68 #[.string s, .int .i64 0]
    have hs1 := alloc_size (((w.alloc (.cells #[.nilIface] 33)).alloc (.cells #[.int .i64 0] 30)).alloc (.cells #[.int .i64 0] 3)) (.cells #[.string s, .int .i64 0] 68)
    have h4 := h3.below hbA (by omega)
    rw [hsz] at hR hs1
    clear h3 hbA hbel hsz
    generalize (((w.alloc (.cells #[.nilIface] 33)).alloc (.cells #[.int .i64 0] 30)).alloc (.cells #[.int .i64 0] 3)).alloc (.cells #[.string s, .int .i64 0] 68) = w1 at *
    have hread : Calls Try.prog 30 #[.pointer (some ⟨w.heap.size + 3, 0, none⟩), .int .i64 0] w1 (RdE (w.heap.size + 3) s (rd 16 (s.data.toList.drop 0)) w1) := readValue_any (w.heap.size + 3) s hs' 16 0 rfl 0 (Nat.zero_le _) w1 hR
    rw [List.drop_zero] at hread
    have HS1 : Hid (w1.heap.size = w.heap.size + 3 + 1) := hs1
    have HT : Hid _ := h4
    clear hs1 hR h4
    cases hg : rd 16 s.data.toList with
    | error r =>
      rw [hg] at hread hGd
      refine hread.mono ?_
      rintro _ w2 ⟨k', hk', hr, rfl, hb2⟩
      have h5 := HT.out.below hb2 (by omega)
      have HG2 : Hid (G = .error (100, k')) := by show _ = _; rw [hGd.out]; simp only [hr]; rw [show s.size - (s.size - k') = k' by omega]
      clear hGd hread
      go_wp2
      refine leaves_cons (f := 29) (args := #[.pointer (some ⟨w.heap.size, 0, none⟩), .pointer (some ⟨w.heap.size + 1, 0, none⟩), .pointer (some ⟨w.heap.size + 2, 0, none⟩)]) (by simp) (by simp [go_sem]) ?_
      refine (lp_catch w.heap.size 100 k' _ _ _ _ rfl h5).mono ?_
      rintro e u' w'' ⟨rfl, rfl, h6, hb6⟩
      refine ⟨_, lp_results h6 rfl rfl rfl, ?_⟩
      rw [HG2.out]
      exact ⟨hb1.trans ((hb2.mono (by omega)).trans hb6), rfl⟩
    | ok pr =>
      obtain ⟨p, rest⟩ := pr
      rw [hg] at hread hGd
      refine hread.mono ?_
      rintro _ w2 ⟨v, k', hk', hr, rfl, hv, hrk⟩
      have h5 : Thr w2 w.heap.size .nilIface 0 0 := HT.out.below hrk.below (by omega)
      obtain ⟨c0, c1, c2, f0, f1, f2⟩ := h5.cells
      have hform := hv.form
      have hB2 := hrk.rdr.lt
      have hsz2 := hrk.size
      have hrd := hrk.rdr.other (p := ⟨w.heap.size, 0, none⟩) (by show w.heap.size + 3 ≠ w.heap.size; omega) v
      obtain ⟨d0, d1, _⟩ := Rdr.two hrd
      have h6 := h5.set0 v
      have hb2 := hrk.below
      have HV : Hid _ := hv
      have hlen : rest.length = s.size - k' := by rw [hr, drop_len]
      have HS2 : Hid (w.heap.size + 3 < w2.heap.size) := by have := HS1.out; show _ < _; omega
      clear hread h5 hrk hrd hv hsz2 hB2
      by_cases he : k' = s.size
      · have HG2 : Hid (G = .ok p) := by
          show _ = _
          rw [hGd.out]
          simp only
          rw [if_pos (List.eq_nil_of_length_eq_zero (by omega))]
        have t1 : ((k' : Int) == (s.size : Int)) = true := by rw [beq_iff_eq]; omega
        clear he hGd hlen hr
        have h7 := ((h6.set0 v).set1 0).set2 0
        obtain ⟨g0, g1, g2, k0, k1, k2⟩ := h6.cells
        have hb7 := below_sets (w2.setCell ⟨w.heap.size, 0, none⟩ v) w.heap.size v (.int .i64 0) (.int .i64 0)
        have hb8 := (Below.refl w.heap.size w2).setCell (p := ⟨w.heap.size, 0, none⟩) (Nat.le_refl _) v
        rcases hform with rfl | ⟨tv, xv, rfl⟩
        all_goals
          go_wp2_with fail
          refine (need_yes _ _).mono ?_
          rintro _ _ ⟨rfl, rfl⟩
          go_wp2
          refine leaves_cons (f := 29) (args := #[.pointer (some ⟨w.heap.size, 0, none⟩), .pointer (some ⟨w.heap.size + 1, 0, none⟩), .pointer (some ⟨w.heap.size + 2, 0, none⟩)]) (by simp) (by simp [go_sem]) ?_
          refine (lp_idle _ _ _ _).mono ?_
          rintro e u' w'' ⟨rfl, rfl, rfl⟩
          refine ⟨_, lp_results h7 rfl rfl rfl, ?_⟩
          rw [HG2.out]
          refine ⟨hb1.trans ((hb2.mono (by omega)).trans (hb8.trans hb7)), _, rfl, ?_⟩
          have e1 := HS1.out
          refine (HV.out.keep (fun b q1 q2 => ?_)).mono (by simp [World.setCell]) (by omega)
          rw [Below.heap_setCell _ _ _ _ (by show b ≠ w.heap.size + 2; omega), Below.heap_setCell _ _ _ _ (by show b ≠ w.heap.size + 1; omega), Below.heap_setCell _ _ _ _ (by show b ≠ w.heap.size; omega), Below.heap_setCell _ _ _ _ (by show b ≠ w.heap.size; omega)]
      · have HG2 : Hid (G = .error (100, k')) := by
          show _ = _
          rw [hGd.out]
          simp only
          rw [if_neg (by intro h0; rw [h0] at hlen; simp at hlen; omega), hlen, show s.size - (s.size - k') = k' by omega]
        have t1 : ((k' : Int) == (s.size : Int)) = false := by rw [beq_eq_false_iff_ne]; omega
        clear he hGd hlen hr
        have hb8 := (Below.refl w.heap.size w2).setCell (p := ⟨w.heap.size, 0, none⟩) (Nat.le_refl _) v
        have hone := HV.out.one
        rcases hform with rfl | ⟨tv, xv, rfl⟩
        all_goals
          go_wp2_with fail
          refine (need_not _ _).mono ?_
          rintro _ _ ⟨rfl, rfl⟩
          go_wp2
          refine leaves_cons (f := 29) (args := #[.pointer (some ⟨w.heap.size, 0, none⟩), .pointer (some ⟨w.heap.size + 1, 0, none⟩), .pointer (some ⟨w.heap.size + 2, 0, none⟩)]) (by simp) (by simp [go_sem]) ?_
          refine (lp_catch w.heap.size 100 k' _ _ _ _ hone h6).mono ?_
          rintro e u' w'' ⟨rfl, rfl, h9, hb9⟩
          refine ⟨_, lp_results h9 rfl rfl rfl, ?_⟩
          rw [HG2.out]
          exact ⟨hb1.trans ((hb2.mono (by omega)).trans (hb8.trans hb9)), rfl⟩
end Go.Proofs.Ytffhbellpcneeaa
