/- ValueOf's walk (contracts; nothing is claimed here). -/
import Derived.Test.YtedmmifflbnmbaaLookT
import Derived.Test.YtedmmifflbnmbaaVOg
namespace Go.Proofs.Ytedmmifflbnmbaa
open Go.RowKit Go.Vf
/-- What Make says, the program's and the document's; where the value lies. -/
theorem make_two (p : Prt) (hf : Fits p) : ∃ E : Int, ((E = 0 ∧ may p = true ∧ dep p ≤ 16) ∨ ((E != 0) = true ∧ (E == 0) = false)) ∧
    (∀ (a : Option Addr) (c : Nat) (w : World), PIn w 0 w.heap.size p a → Calls Try.prog 12 #[pV p a c] w fun e w' => ∃ v, e = .returned (.tuple #[v, .int .i64 E]) ∧ (E = 0 → VIn w' w.heap.size w'.heap.size v p) ∧ Below w.heap.size w w') ∧
    (∀ (a : Option Addr) (c : Nat) (w : World), PIn w 0 w.heap.size p a → Calls Try.prog 10 #[pV p a c] w fun e w' => e = .returned (.int .i64 E) ∧ Below w.heap.size w w') := by
  have h1 := fun a c w h => make_any p hf a c 0 w.heap.size w (Nat.le_refl _) h
  have h2 := fun a c w h => rmake_any p hf a c 0 w.heap.size w (Nat.le_refl _) h
  refine ⟨if deeper 16 p then 91 else if may p then 0 else 90, ?_, fun a c w h => (h1 a c w h).mono ?_, fun a c w h => h2 a c w h⟩
  · cases hd : deeper 16 p with
    | true => exact .inr ⟨rfl, rfl⟩
    | false => cases may p with
      | true =>
        rw [deeper_dep] at hd
        exact .inl ⟨rfl, rfl, by have := of_decide_eq_false hd; omega⟩
      | false => exact .inr ⟨rfl, rfl⟩
  · rintro e w' ⟨hb, h⟩
    rcases h with ⟨hd, rfl⟩ | ⟨hd, hm, rfl⟩ | ⟨hd, hm, v, rfl, hv⟩
    · exact ⟨_, by rw [hd]; rfl, fun e => by rw [hd] at e; simp at e, hb⟩
    · exact ⟨_, by rw [hd, hm]; rfl, fun e => by rw [hd, hm] at e; simp at e, hb⟩
    · exact ⟨v, by rw [hd, hm]; rfl, fun _ => hv, hb⟩
theorem wt_ge (p : Prt) : 16 ≤ wt p := by
  cases p with | mk k y b m r l => rw [wt]; omega
theorem hvy_more (p : Prt) (n : Nat) (h : hvy p n 0 ≤ 134217728) : n + 16 ≤ hvy p n 0 := by
  have := hvy_small p n 0 (by unfold mostW; omega)
  have := wt_ge p
  omega
theorem list_at {w : World} {n₀ : Nat} {l : List Prt} {a : Option Addr} (h : PIn w 0 n₀ (tupP l) a) {j : Nat} (hj : j < l.length) : ∃ b off aj cj, a = some ⟨b, off, none⟩ ∧ b < n₀ ∧ Row6 w b (off + j * 6) l[j] aj cj ∧ PIn w 0 n₀ l[j] aj := by
  obtain ⟨b, off, aj, cj, h1, _, h3, h4, h5⟩ := h.at (p := tupP l) hj
  exact ⟨b, off, aj, cj, h1, h3, h4, h5⟩
theorem depL_le {l : List Prt} {d : Nat} (h : ∀ x ∈ l, dep x ≤ d) : depL l ≤ d := by
  induction l with
  | nil => simp [depL]
  | cons x r ih =>
    rw [depL]
    have h1 := h x (by simp)
    have h2 := ih (fun y hy => h y (by simp [hy]))
    omega
theorem iface_nil44 (g : Nat) (w : World) : (binOp .eql 44 (.iface 74 (.pointer (some ⟨g, 0, none⟩))) .nilIface).run Try.prog w = .ok (.bool false) w := by kernel_rfl
theorem nil_nil44 (w : World) : (binOp .eql 44 .nilIface .nilIface).run Try.prog w = .ok (.bool true) w := by kernel_rfl
set_option maxHeartbeats 16000000 in
set_option maxRecDepth 20000 in
theorem vof_any (l : List Prt) (hf : ∀ x ∈ l, Fits x) (hl : l.length ≤ 281474976710656) (a : Option Addr) (c : Nat) (w : World) (hin : PIn w 0 w.heap.size (tupP l) a) :
    Calls Try.prog 4 #[.slice a l.length c] w fun e w' => e = .returned (.bool true) ∧ Below w.heap.size w w' := by
  obtain ⟨ln, hln⟩ : ∃ ln, l.length = ln := ⟨_, rfl⟩
  have HLN : Hid (l.length = ln) := hln
  rw [hln] at hl ⊢
  have HF : Hid (∀ x ∈ l, Fits x) := hf
  have HIN : Hid (∀ w1, Below w.heap.size w w1 → PIn w1 0 w.heap.size (tupP l) a) := fun w1 h => hin.keep h (Nat.le_refl _)
  have haw := awake_any w
  clear hln hf hin
  go_enter Try.func4, Try.ntmps4
  go_wp2_with fail
  refine haw.mono ?_
  rintro _ w1 ⟨rfl, hw1⟩
  clear haw
  go_wp2_with fail
  go_loopw [4, 5] (fun nv iv wr => ∃ (j n : Nat), j ≤ ln ∧ n ≤ 600000000000000 ∧ iv = .int .i64 (j : Int) ∧ nv = .int .i64 (n : Int) ∧ Hid (n ≤ 134217728 → 16 * j ≤ n) ∧ Below w.heap.size w wr) (fun _ iv _ => ln - (intOf iv).toNat)
  case atStart => exact ⟨0, 0, Nat.zero_le _, by omega, rfl, rfl, fun _ => by omega, hw1⟩
  case round =>
    clear hw1
    obtain ⟨j, n, hj, hn6, rfl, rfl, HJN, hb⟩ := hrel
    have hbsz := hb.size
    by_cases hbig : 134217728 < n
    · have tn : decide ((n : Int) ≤ 134217728) = false := decide_eq_false (by omega)
      have tn2 : decide ((134217728 : Int) < (n : Int)) = true := decide_eq_true (by omega)
      by_cases hlt : j < ln
      · have tl : decide ((j : Int) < (ln : Int)) = true := decide_eq_true (by omega)
        have tl2 : decide (j < ln) = true := decide_eq_true hlt
        go_wp2_with fail
        go_ret
        exact ⟨rfl, hb⟩
      · have tl : decide ((j : Int) < (ln : Int)) = false := decide_eq_false (by omega)
        have tl2 : decide (j < ln) = false := decide_eq_false hlt
        go_wp2_with fail
        go_ret
        exact ⟨rfl, hb⟩
    have tn : decide ((n : Int) ≤ 134217728) = true := decide_eq_true (by omega)
    have tn2 : decide ((134217728 : Int) < (n : Int)) = false := decide_eq_false (by omega)
    have hn1 : n ≤ 134217728 := by omega
    by_cases hlt : j < ln
    · have tl : decide ((j : Int) < (ln : Int)) = true := decide_eq_true (by omega)
      have tl2 : decide (j < ln) = true := decide_eq_true hlt
      have hji : (j : Int) < (ln : Int) := by omega
      have hjl : j < l.length := by rw [HLN.out]; exact hlt
      obtain ⟨bb, off, aj, cj, ha, hbb, hrow, hinj⟩ := list_at (HIN.out wr hb) hjl
      subst ha
      obtain ⟨r0, r1, r2, r3, r4, r5⟩ := hrow
      have hfx := HF.out _ (List.getElem_mem hjl)
      have hwt := weight_any l[j] hfx aj cj n 0 w.heap.size wr hbsz hinj (by unfold mostW; omega)
      have hle := hvy_le l[j] hfx n 0 (by unfold mostW; omega)
      have hmo := hvy_more l[j] n
      unfold pV at hwt
      generalize l[j] = x at *
      obtain ⟨h2, hh2⟩ : ∃ h2, hvy x n 0 = h2 := ⟨_, rfl⟩
      rw [hh2] at hwt hle hmo
      have HMO : Hid (h2 ≤ 134217728 → n + 16 ≤ h2) := hmo
      clear hinj hh2 hmo
      go_wp2_with fail
      refine hwt.mono ?_
      rintro _ w4 ⟨rfl, hb4⟩
      go_wp2_with fail
      go_roundw
      case rel => exact ⟨j + 1, h2, hlt, hle, by simp, rfl, fun h => by have := HMO.out h; have := HJN.out hn1; omega, hb.trans (hb4.mono hbsz)⟩
      case measure => simp only [intOf]; omega
    have tl : decide ((j : Int) < (ln : Int)) = false := decide_eq_false (by omega)
    have tl2 : decide (j < ln) = false := decide_eq_false hlt
    have hlb : ln ≤ 8388608 := by have := HJN.out hn1; omega
    clear HJN hl
    go_wp2_with fail
    go_loopw [6, 7, 8] (fun v6 v7 iv wr => ∃ (j : Nat) (acc : List Prt), j ≤ ln ∧ iv = .int .i64 (j : Int) ∧ acc.length ≤ j ∧ TwoR w.heap.size w.heap.size wr v6 v7 acc acc ∧ Hid (∀ x ∈ acc, may x = true ∧ Fits x ∧ dep x ≤ 16) ∧ Below w.heap.size w wr) (fun _ _ iv _ => ln - (intOf iv).toNat)
    case atStart => exact ⟨0, [], Nat.zero_le _, rfl, by simp, TwoR.nil _ _ _, (fun x hx => by cases hx), hb⟩
    case round =>
      clear hb hbsz tl tl2 hlt hj
      obtain ⟨j2, acc, hj2, rfl, hal, htw, HAC, hb2⟩ := hrel
      have hbs := hb2.size
      by_cases hlt : j2 < ln
      · have tl : decide ((j2 : Int) < (ln : Int)) = true := decide_eq_true (by omega)
        have tl2 : decide (j2 < ln) = true := decide_eq_true hlt
        have hji : (j2 : Int) < (ln : Int) := by omega
        have hjl : j2 < l.length := by rw [HLN.out]; exact hlt
        obtain ⟨bb, off, aj, cj, ha, hbb, hrow, hinj⟩ := list_at (HIN.out _ hb2) hjl
        subst ha
        have hfx := HF.out _ (List.getElem_mem hjl)
        obtain ⟨E, hE, hmk, hrm⟩ := make_two l[j2] hfx
        unfold pV at hmk hrm
        generalize l[j2] = x at *
        have HROW : Hid (∀ w1, Below w.heap.size wr w1 → Row6 w1 bb (off + j2 * 6) x aj cj) := fun w1 h => hrow.below h hbb
        have HPX : Hid (∀ w1, Below w.heap.size wr w1 → PIn w1 0 w1.heap.size x aj) := fun w1 h => (hinj.keep h (Nat.le_refl _)).mono (Nat.le_trans hbs h.size) (Nat.le_refl _)
        have HPI : Hid (∀ w1, Below w.heap.size wr w1 → PIn w1 0 w.heap.size x aj) := fun w1 h => hinj.keep h (Nat.le_refl _)
        have HEE : Hid _ := hE
        have h6lt := htw.lt6
        have h7lt := htw.lt7
        have HTW : Hid (∀ w1, Below wr.heap.size wr w1 → TwoR w.heap.size w.heap.size w1 _ _ acc acc) := fun w1 h => htw.old (Nat.le_refl _) hbs h
        have H6 : Hid _ := h6lt
        have H7 : Hid _ := h7lt
        obtain ⟨r0, r1, r2, r3, r4, r5⟩ := HROW.out wr (Below.refl _ _)
        have h12 := hmk aj cj wr (HPX.out wr (Below.refl _ _))
        clear hrow hinj hE htw h6lt h7lt
        go_wp2_with fail
        refine h12.mono ?_
        rintro _ w2 ⟨v, rfl, hv2, hq2⟩
        clear h12 hmk r0 r1 r2 r3 r4 r5
        have hr2 := hq2.mono hbs
        obtain ⟨r0, r1, r2, r3, r4, r5⟩ := HROW.out w2 hr2
        have h10 := hrm aj cj w2 (HPX.out w2 hr2)
        go_wp2_with fail
        refine h10.mono ?_
        rintro _ w3 ⟨rfl, hq3⟩
        clear h10 hrm r0 r1 r2 r3 r4 r5
        have hq13 : Below wr.heap.size wr w3 := hq2.trans (hq3.mono hq2.size)
        have hr3 := hq13.mono hbs
        have hs3 := hq13.size
        rcases HEE.out with ⟨rfl, hmx, hdx⟩ | ⟨hE1, hE2⟩
        · have hv3 : VIn w3 wr.heap.size w3.heap.size v x := ((hv2 rfl).old hq3 (Nat.le_refl _)).mono hq3.size (Nat.le_refl _)
          have hform := hv3.form
          have HV3 : Hid (VIn w3 wr.heap.size w3.heap.size v x) := hv3
          have HT3 := HTW.out w3 hq13
          have HTT : Hid _ := HT3
          have HACN : Hid (∀ y ∈ acc ++ [x], may y = true ∧ Fits y ∧ dep y ≤ 16) := fun y hy => by
            rcases List.mem_append.1 hy with hy | hy
            · exact HAC.out y hy
            · simp only [List.mem_singleton] at hy; subst hy; exact ⟨hmx, hfx, hdx⟩
          have HBS : Hid (w.heap.size ≤ wr.heap.size) := hbs
          have HS3 : Hid (wr.heap.size ≤ w3.heap.size) := hs3
          have HAL : Hid (acc.length < 8388608) := by show _ < _; omega
          clear hv2 hv3 HT3
          rcases hform with rfl | ⟨tv, xv, rfl⟩
          all_goals
            go_upto_region 20 with (at_builtin; refine TwoR.more1 HTT.out (Nat.le_refl _) HBS.out HS3.out H6.out H7.out HAL.out HV3.out (.tmp 65) (.tmp 67) rfl rfl rfl rfl ?_; intro v6' w4 htw4 hb4)
            have hr4 : Below w.heap.size wr w4 := hr3.trans hb4
            obtain ⟨r0, r1, r2, r3, r4, r5⟩ := HROW.out w4 hr4
            have HT4 : Hid _ := htw4
            have HL4 : Hid (w.heap.size ≤ w4.heap.size) := Nat.le_trans hbs hr4.size
            have HX4 : Hid (PIn w4 0 w.heap.size x aj) := HPI.out w4 hr4
            clear htw4
            go_upto_region 13 with (at_builtin; refine TwoR.more2 HT4.out (Nat.le_refl _) HL4.out HAL.out HX4.out (.tmp 69) (.tmp 74) rfl rfl rfl rfl ?_; intro v7' w5 htw5 hb5)
            clear r0 r1 r2 r3 r4 r5
            have hfin := hb2.trans (hr4.trans hb5)
            go_wp2_with fail
            go_roundw
            case rel => exact ⟨j2 + 1, acc ++ [x], hlt, by simp, by simp; omega, htw5, HACN, hfin⟩
            case measure => simp only [intOf]; omega
        · have htw3 := HTW.out w3 hq13
          have hfin := hb2.trans hr3
          go_wp2_with fail
          go_roundw
          case rel => exact ⟨j2 + 1, acc, hlt, by simp, by omega, htw3, HAC, hfin⟩
          case measure => simp only [intOf]; omega
      · have tl : decide ((j2 : Int) < (ln : Int)) = false := decide_eq_false (by omega)
        have tl2 : decide (j2 < ln) = false := decide_eq_false hlt
        obtain ⟨a6, c6, e6⟩ := htw.form6
        obtain ⟨a7, c7, e7⟩ := htw.form7
        subst e6 e7
        have hlen8 : acc.length ≤ 8388608 := by omega
        have hfa : Fits (tupP acc) := .mk (by show (0 : Int) ≤ 7; decide) (by show (⟨#[]⟩ : ByteArray).size ≤ _; decide) (by show (⟨#[]⟩ : ByteArray).size ≤ _; decide) (by show acc.length ≤ _; omega) (fun x hx => (HAC.out x hx).2.1)
        have h13 := rof_any acc hfa (fun x hx => (HAC.out x hx).1) hlen8 a7 c7 wr (htw.pin hbs)
        have hdl : depL acc ≤ 1000 := Nat.le_trans (depL_le (d := 16) fun x hx => (HAC.out x hx).2.2) (by decide)
        have h6lt := htw.lt6
        obtain ⟨⟨vs, hvl, hown, hvat⟩, _, _⟩ := htw
        have HOWN : Hid (VOwn wr w.heap.size (.slice a6 acc.length c6) vs) := hown
        have H14 : Hid (∀ w1, Below wr.heap.size wr w1 → Calls Try.prog 14 #[.slice a6 acc.length c6] w1 (OfE acc (fun b => w.heap.size ≤ b ∧ b < wr.heap.size ∧ (Value.slice a6 acc.length c6).ownBlock ≠ some b ∧ (Value.slice a7 acc.length c7).ownBlock ≠ some b) w1)) := fun w1 h =>
          of_any _ vs acc hlen8 hvl hdl _ w.heap.size w1 (fun b q => Nat.lt_of_lt_of_le q.2.1 h.size) (own_keep hown fun b _ q => h.block b q) (fun j hj => (hvat j hj).keep (fun b q => h.block b q.2.1) (fun b q => q))
        have HG6 : Hid (∀ g6, a6 = some ⟨g6, 0, none⟩ → g6 < wr.heap.size) := fun g6 e => h6lt g6 (by rw [e]; rfl)
        have HFA : Hid (Fits (tupP acc)) := hfa
        have HDL : Hid (depL acc ≤ 1000) := hdl
        have hnn := nil_nil44
        clear hown hvat hfa hdl h6lt hal
        obtain ⟨na, hna⟩ : ∃ na, acc.length = na := ⟨_, rfl⟩
        have HNA : Hid (acc.length = na) := hna
        rw [hna] at h13 HOWN H14 hlen8
        rw [hna]
        clear hna
        go_wp2_with fail
        refine h13.mono ?_
        rintro e w2 ⟨hq2, hcase⟩
        rcases hcase with ⟨hlong, rfl⟩ | ⟨hle, hdeep, rfl⟩ | ⟨hle, hdp, a8, c8, rfl, hp8⟩
        · have hq3 := (Below.refl w2.heap.size w2).alloc (Nat.le_refl _) (.cells #[.int .u8 0, .bool false, .bool false, .string ⟨#[]⟩, .string ⟨#[]⟩, .slice none 0 0] 27)
          go_upto_region 22 with fail
          generalize w2.alloc (.cells #[.int .u8 0, .bool false, .bool false, .string ⟨#[]⟩, .string ⟨#[]⟩, .slice none 0 0] 27) = w3 at *
          have hq13 : Below wr.heap.size wr w3 := hq2.trans (hq3.mono hq2.size)
          have h14 := H14.out w3 hq13
          have hw3 := hb2.trans (hq13.mono hbs)
          clear H14 hq2 hq3 h13
          go_wp2_with fail
          refine h14.mono ?_
          rintro e w4 ⟨hq4, hc4⟩
          have hw4 := hw3.trans (hq4.mono hw3.size)
          rcases hc4 with ⟨hx0, rfl⟩ | ⟨hx1, hx2, rfl⟩ | ⟨hx1, hx2, hx3⟩
          · go_wp2_with fail
            go_ret
            exact ⟨rfl, hw4⟩
          · exfalso; omega
          · exfalso; omega
        · have hq3 := (Below.refl w2.heap.size w2).alloc (Nat.le_refl _) (.cells #[.int .u8 0, .bool false, .bool false, .string ⟨#[]⟩, .string ⟨#[]⟩, .slice none 0 0] 27)
          go_upto_region 22 with fail
          generalize w2.alloc (.cells #[.int .u8 0, .bool false, .bool false, .string ⟨#[]⟩, .string ⟨#[]⟩, .slice none 0 0] 27) = w3 at *
          have hq13 : Below wr.heap.size wr w3 := hq2.trans (hq3.mono hq2.size)
          have h14 := H14.out w3 hq13
          have hw3 := hb2.trans (hq13.mono hbs)
          clear H14 hq2 hq3 h13
          go_wp2_with fail
          refine h14.mono ?_
          rintro e w4 ⟨hq4, hc4⟩
          have hw4 := hw3.trans (hq4.mono hw3.size)
          rcases hc4 with ⟨hx0, rfl⟩ | ⟨hx1, hx2, rfl⟩ | ⟨hx1, hx2, hx3⟩
          · exfalso; omega
          · go_wp2_with fail
            go_ret
            exact ⟨rfl, hw4⟩
          · exfalso; omega
        · rw [HNA.out]
          have hq3 := (Below.refl w2.heap.size w2).alloc (Nat.le_refl _) (.cells #[.int .u8 7, .bool false, .bool false, .string ⟨#[]⟩, .string ⟨#[]⟩, .slice a8 na c8] 27)
          have hB3 := Blk.new w2 27 #[.int .u8 7, .bool false, .bool false, .string ⟨#[]⟩, .string ⟨#[]⟩, .slice a8 na c8]
          go_upto_region 22 with fail
          generalize w2.alloc (.cells #[.int .u8 7, .bool false, .bool false, .string ⟨#[]⟩, .string ⟨#[]⟩, .slice a8 na c8] 27) = w3 at *
          have hq13 : Below wr.heap.size wr w3 := hq2.trans (hq3.mono hq2.size)
          have h14 := H14.out w3 hq13
          have hw3 := hb2.trans (hq13.mono hbs)
          have HP3 : Hid (PIn w3 wr.heap.size w3.heap.size (tupP acc) a8) := (hp8.keep hq3 (Nat.le_refl _)).mono hq3.size (Nat.le_refl _)
          have HB3 : Hid (Blk w3 w2.heap.size 27 #[.int .u8 7, .bool false, .bool false, .string ⟨#[]⟩, .string ⟨#[]⟩, .slice a8 na c8]) := hB3
          have HZ2 : Hid (wr.heap.size ≤ w2.heap.size) := hq2.size
          clear H14 hq2 hq3 h13 hB3 hp8
          go_wp2_with fail
          refine h14.mono ?_
          rintro e w4 ⟨hq4, hc4⟩
          rcases hc4 with ⟨hx0, rfl⟩ | ⟨hx1, hx2, rfl⟩ | ⟨hx1, hx2, g, rfl, hvt⟩
          · exfalso; omega
          · exfalso; omega
          have hw4 := hw3.trans (hq4.mono hw3.size)
          have HP4 : Hid (PIn w4 wr.heap.size w3.heap.size (tupP acc) a8) := HP3.out.keep hq4 (Nat.le_refl _)
          have HB4 : Hid (Blk w4 w2.heap.size 27 #[.int .u8 7, .bool false, .bool false, .string ⟨#[]⟩, .string ⟨#[]⟩, .slice a8 na c8]) := Blk.old HB3.out hq4
          have HVT : Hid _ := hvt
          have hq14 : Below wr.heap.size wr w4 := hq13.trans (hq4.mono hq13.size)
          have HOW4 : Hid (VOwn w4 w.heap.size (.slice a6 na c6) vs) := own_keep HOWN.out fun b _ q => hq14.block b q
          have HZ4 : Hid (w3.heap.size ≤ w4.heap.size) := hq4.size
          have HZ3 : Hid (wr.heap.size ≤ w3.heap.size) := hq13.size
          have HRS : Hid (∀ g6, a6 = some ⟨g6, 0, none⟩ → ∃ cur, w4.heap[g6]? = some (.cells cur 31 (0, 0)) ∧ na ≤ cur.size) := fun g6 e => by
            rcases HOW4.out.2 with ⟨e1, _⟩ | ⟨g', cap, cur, e1, _, q2, q3, _, q5, _⟩
            · rw [e] at e1; simp at e1
            · rw [e] at e1
              simp only [Value.slice.injEq, Option.some.injEq, Addr.mk.injEq, and_true] at e1
              obtain ⟨rfl, rfl, rfl⟩ := e1
              exact ⟨cur, q2, by rw [q5]; omega⟩
          have HAS : Hid (0 < na → ∃ g6, a6 = some ⟨g6, 0, none⟩ ∧ w.heap.size ≤ g6) := fun h => by
            rcases HOW4.out.2 with ⟨e1, e2⟩ | ⟨g', cap, cur, e1, q1, _⟩
            · have := hvl; have := HNA.out; omega
            · simp only [Value.slice.injEq] at e1; exact ⟨g', e1.1, q1⟩
          have hin44 := iface_nil44 g
          have HMA : Hid (may (tupP acc) = true) := may_tupP hle (fun x hx => (HAC.out x hx).1)
          obtain ⟨wo, hwo⟩ : ∃ wo, wo = wr := ⟨_, rfl⟩
          subst hwo
          clear h14 hq13 hvt hw3 HP3 HB3 HOWN HOW4
          go_wp2_with fail
          go_loopw [16] (fun iv wx => ∃ (j : Nat), j ≤ na ∧ iv = .int .i64 (j : Int) ∧ Hid (wx.heap.size = w4.heap.size) ∧ Hid (∀ b, (∀ g6, a6 = some ⟨g6, 0, none⟩ → b ≠ g6) → wx.heap[b]? = w4.heap[b]?) ∧ Below w.heap.size w wx ∧ Hid (∀ g6, a6 = some ⟨g6, 0, none⟩ → ∃ cur, wx.heap[g6]? = some (.cells cur 31 (0, 0)) ∧ na ≤ cur.size)) (fun iv _ => na - (intOf iv).toNat)
          case atStart => exact ⟨0, Nat.zero_le _, rfl, rfl, fun b _ => rfl, hw4, HRS⟩
          case round =>
            obtain ⟨j3, hj3, rfl, HSZ, HBK, hbx, HRX⟩ := hrel
            by_cases hlt3 : j3 < na
            · have tl3 : decide ((j3 : Int) < (na : Int)) = true := decide_eq_true (by omega)
              have tl4 : decide (j3 < na) = true := decide_eq_true hlt3
              have hji3 : (j3 : Int) < (na : Int) := by omega
              obtain ⟨g6, e6, hg6⟩ := HAS.out (by omega)
              subst e6
              obtain ⟨cur, hcur, hcs⟩ := HRX.out g6 rfl
              have hcell := Blk.cell hcur j3
              rw [Array.getElem?_eq_getElem (by omega)] at hcell
              have hfz := Blk.frozen hcur j3
              have HCU : Hid _ := hcur
              have HGG : Hid (w.heap.size ≤ g6) := hg6
              clear hcur hg6
              generalize cur[j3] = cv at hcell
              go_wp2_with fail
              go_roundw
              case rel =>
                refine ⟨j3 + 1, hlt3, by simp, ?_, ?_, hbx.setCell (p := ⟨g6, j3, none⟩) HGG.out _, ?_⟩
                · show _ = _
                  rw [set_sizeC]; exact HSZ.out
                · intro b hb
                  exact (Below.heap_setCell _ _ _ b (hb g6 rfl)).trans (HBK.out b hb)
                · intro g7 e7
                  simp only [Option.some.injEq, Addr.mk.injEq, and_true] at e7
                  subst e7
                  exact ⟨_, Blk.set j3 _ HCU.out, by rw [Array.size_setIfInBounds]; exact hcs⟩
              case measure => simp only [intOf]; omega
            · have tl3 : decide ((j3 : Int) < (na : Int)) = false := decide_eq_false (by omega)
              have tl4 : decide (j3 < na) = false := decide_eq_false hlt3
              have z2 := HZ2.out
              have z3 := HZ3.out
              have z4 := HZ4.out
              have z5 := HSZ.out
              have hfar : ∀ b, wo.heap.size ≤ b → ∀ g6, a6 = some ⟨g6, 0, none⟩ → b ≠ g6 := fun b hb g6 e => by have := HG6.out g6 e; omega
              have hBx : Blk wr w2.heap.size 27 #[.int .u8 7, .bool false, .bool false, .string ⟨#[]⟩, .string ⟨#[]⟩, .slice a8 na c8] := (HBK.out _ (hfar _ z2)).trans HB4.out
              have hvx : VIn wr 0 wr.heap.size (.iface 74 (.pointer (some ⟨g, 0, none⟩))) (tupP acc) := by
                refine (HVT.out.keep (S' := fun b => b < wr.heap.size) (fun b q => HBK.out b ?_) (fun b q => ?_)).to (fun b q => ⟨Nat.zero_le _, q⟩)
                · rcases q with q | q
                  · intro g6 e hb
                    subst hb
                    exact q.2.2.1 (by rw [e]; rfl)
                  · exact hfar b (by omega)
                · rcases q with q | q
                  · show b < _; have := q.2.1; omega
                  · show b < _; omega
              have hpx : PIn wr 0 wr.heap.size (tupP acc) a8 := (HP4.out.keep' (fun b q1 q2 => HBK.out b (hfar b q1))).mono (by omega) (Nat.zero_le _)
              have hlk := looks_any (tupP acc) HMA.out HFA.out (by rw [dep_tupP]; have := HDL.out; omega) _ a8 c8 wr hvx hpx
              unfold pV at hlk
              simp only [tupP, Prt.kind, Prt.yes, Prt.neg, Prt.mag, Prt.raw, Prt.items] at hlk
              rw [HNA.out] at hlk
              obtain ⟨x0, x1, x2, x3, x4, x5⟩ := hBx.c6
              clear hvx hpx hBx z2 z3 z4 z5 hfar
              go_wp2_with fail
              refine hlk.mono ?_
              rintro _ w9 ⟨rfl, hb9⟩
              go_wp2_with fail
              go_ret
              exact ⟨rfl, hbx.trans (hb9.mono hbx.size)⟩
end Go.Proofs.Ytedmmifflbnmbaa
