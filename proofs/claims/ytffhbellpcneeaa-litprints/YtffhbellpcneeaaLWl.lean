/- What lit's writeList and writeValue do (contracts; nothing is claimed here). -/
import Derived.Test.YtffhbellpcneeaaLWv
namespace Go.Proofs.Ytffhbellpcneeaa
open Go.RowKit Go.Vf
theorem txtB_append (a b : List Prt) : txtB (a ++ b) = txtB a ++ txtB b := by
  induction a with
  | nil => simp [txtB]
  | cons x r ih => rw [List.cons_append, txtB, txtB, ih]; simp
theorem txtB_le (l : List Prt) (j : Nat) : (txtB (l.take j)).length ≤ (txtB l).length := by
  have := congrArg (fun l => (txtB l).length) (List.take_append_drop j l)
  simp only [txtB_append, List.length_append] at this
  omega
theorem txtB_first (l : List Prt) (h : 0 < l.length) : (txtB (l.take 1)).drop 1 = txt l[0] := by
  have := txtB_take l 0 h
  rw [this]; simp [txtB]
theorem txtB_next (l : List Prt) (j : Nat) (hj : 0 < j) (h : j < l.length) : (txtB (l.take (j + 1))).drop 1 = (txtB (l.take j)).drop 1 ++ 32 :: txt l[j] := by
  rw [txtB_take l j h]
  have h1 : 0 < (txtB (l.take j)).length := by have := txtB_len (l.take j); rw [List.length_take] at this; omega
  rw [List.drop_append_of_le_length (by omega)]
/-- What writeValue does with a value. -/
def WvOk (p : Prt) : Prop := ∀ (v : Value) (lo n₀ P base : Nat) (acc : List UInt8) (w : World), VIn w lo n₀ v p → n₀ ≤ P → Pr w P base acc → Calls Try.prog 27 #[.pointer (some ⟨P, 0, none⟩), v] w (WrE P base acc (txt p) w)

set_option maxHeartbeats 2000000 in
set_option maxRecDepth 20000 in
theorem writeList_step (l : List Prt) (hln : l.length ≤ 1024) (ih : ∀ x ∈ l, WvOk x) (g lo n₀ P base : Nat) (acc : List UInt8) (w : World) (hv : VIn w lo n₀ (.iface 78 (.pointer (some ⟨g, 0, none⟩))) (tupP l)) (hn : n₀ ≤ P) (h : Pr w P base acc) :
    Calls Try.prog 43 #[.pointer (some ⟨P, 0, none⟩), .iface 78 (.pointer (some ⟨g, 0, none⟩))] w (WrE P base acc (40 :: ((txtB l).drop 1 ++ [41])) w) := by
  have hPl := h.P_le
  have m1 := mLen ⟨g, 0, none⟩
  have m2 := mAt ⟨g, 0, none⟩
  have hw1 : ∀ w', Pr w' P base acc → Calls Try.prog 40 #[.pointer (some ⟨P, 0, none⟩), .string ⟨#[40]⟩] w' (WrE P base acc [40] w') := fun w' h' => write_any P base acc ⟨#[40]⟩ (by decide) w' h'
  have hwb : ∀ acc' w', Pr w' P base acc' → Calls Try.prog 40 #[.pointer (some ⟨P, 0, none⟩), .string ⟨#[32]⟩] w' (WrE P base acc' [32] w') := fun acc' w' h' => write_any P base acc' ⟨#[32]⟩ (by decide) w' h'
  have hwe : ∀ acc' w', Pr w' P base acc' → Calls Try.prog 40 #[.pointer (some ⟨P, 0, none⟩), .string ⟨#[41]⟩] w' (WrE P base acc' [41] w') := fun acc' w' h' => write_any P base acc' ⟨#[41]⟩ (by decide) w' h'
  have hwa := hw1 w h
  have HV : Hid _ := hv
  obtain ⟨ln, hl⟩ : ∃ ln, l.length = ln := ⟨_, rfl⟩
  have HLN : Hid (l.length = ln) := hl
  rw [hl] at hln
  have HIN : Hid (∃ a c, ∀ w', Below P w w' → w'.cell? ⟨g, 0, none⟩ = some (.slice a ln c) ∧ ∀ j (hj : j < l.length), ∃ h off V, a = some ⟨h, off, none⟩ ∧ w'.cell? ⟨h, off + j, none⟩ = some V ∧ VIn w' lo n₀ V l[j]) := by
    cases hv with
    | @tup _ _ c a V q1 q2 q3 q4 q5 =>
      refine ⟨a, c, fun w' hb => ⟨?_, fun j hj => ?_⟩⟩
      · have := (q3.below hb (by omega)).cell 0
        rw [← hl]; exact this
      · obtain ⟨h, off, e, r1, r2, r3⟩ := q4 j hj
        exact ⟨h, off, V j, e, (cell_block (hb.block h (by omega)) _).trans r3, (q5 j hj).old hb hn⟩
  obtain ⟨a, c, hin⟩ := HIN.out
  clear h hv hl hw1 HIN
  go_enter Try.func43, Try.ntmps43
  go_wp2_with fail
  refine hwa.mono ?_
  rintro e w2 hE
  rcases hE.cases with ⟨_, rfl, hb2, hp2⟩ | ⟨hbad, rfl, hb2⟩
  · have n1 := (len_any g a ln c w2 (hin w2 hb2).1 (by omega)).mono (R' := fun e w' => e = .returned (.int .i64 ln) ∧ w2 = w') fun _ _ h => ⟨h.1, h.2.symm⟩
    clear hwa hE
    go_wp2_with fail
    refine n1.mono ?_
    rintro _ _ ⟨rfl, rfl⟩
    clear n1
    go_wp2_with fail
    go_loopw [9] (fun i wr => ∃ j : Nat, j ≤ ln ∧ i = .int .i64 (j : Int) ∧ Pr wr P base (acc ++ [40] ++ (txtB (l.take j)).drop 1) ∧ Below P w wr) (fun i _ => ln - (intOf i).toNat)
    case atStart => exact ⟨0, Nat.zero_le _, rfl, by simpa [txtB] using hp2, hb2⟩
    case round =>
      clear hp2 hb2
      obtain ⟨j, hj, rfl, hpr, hb⟩ := hrel
      by_cases hlt : j < ln
      · have hlt2 : j < l.length := by rw [HLN.out]; exact hlt
        have hmono := txtB_le l (j + 1)
        have hwv := ih l[j] (List.getElem_mem hlt2)
        by_cases h0 : j = 0
        · subst h0
          obtain ⟨hc0, hit⟩ := hin wr hb
          obtain ⟨h', off, V, ha, q0, hvj⟩ := hit 0 hlt2
          subst ha
          have n2 := (at_in g h' off ln c 0 V wr hlt (by omega) hc0 q0).mono (R' := fun e w' => e = .returned V ∧ wr = w') fun _ _ h => ⟨h.1, h.2.symm⟩
          have hf := txtB_first l hlt2
          have hpr0 : Pr wr P base (acc ++ [40]) := by simpa [txtB] using hpr
          have hwv0 := hwv V lo n₀ P base (acc ++ [40]) wr hvj hn hpr0
          have HF : Hid _ := hf
          have hfl2 : (txt l[0]).length + 1 ≤ (txtB l).length := by
            have h1 := txtB_take l 0 hlt2
            rw [h1] at hmono
            simp [txtB] at hmono
            omega
          clear hwv hf hit hwb hwe hpr hpr0 hvj
          go_wp2_with fail
          refine n2.mono ?_
          rintro _ _ ⟨rfl, rfl⟩
          go_wp2_with fail
          refine hwv0.mono ?_
          rintro e w4 hE
          rcases hE.cases with ⟨_, rfl, hb4, hp4⟩ | ⟨hbad, rfl, hb4⟩
          · go_wp2_with fail
            go_roundw
            case rel => exact ⟨1, by omega, rfl, by rw [HF.out]; exact hp4, hb.trans hb4⟩
            case measure => simp only [intOf]; omega
          · refine ⟨rfl, WrE.no (hb.trans hb4) ?_⟩
            simp only [List.length_append, List.length_cons, List.length_nil, List.length_drop] at hbad ⊢
            omega
        · have hjp : 0 < j := by omega
          have t0 : decide ((0 : Int) < (j : Int)) = true := decide_eq_true (by omega)
          have hf := txtB_next l j hjp hlt2
          have hfl : ((txtB (l.take j)).drop 1).length + 1 + (txt l[j]).length + 1 ≤ (txtB l).length := by
            have h1 := congrArg List.length hf
            rw [List.length_drop, List.length_append, List.length_cons] at h1
            omega
          have hwb1 := hwb _ wr hpr
          have HF : Hid _ := hf
          obtain ⟨A, hA⟩ : ∃ A, (txtB (l.take j)).drop 1 = A := ⟨_, rfl⟩
          rw [hA] at hfl hwb1 hpr
          have HA : Hid _ := hA
          clear hf hwb hwe hpr hA h0
          go_wp2_with fail
          refine hwb1.mono ?_
          rintro e w3 hE
          rcases hE.cases with ⟨_, rfl, hb3, hp3⟩ | ⟨hbad, rfl, hb3⟩
          · obtain ⟨hc0, hit⟩ := hin w3 (hb.trans hb3)
            obtain ⟨h', off, V, ha, q0, hvj⟩ := hit j hlt2
            subst ha
            have n2 := (at_in g h' off ln c j V w3 hlt (by omega) hc0 q0).mono (R' := fun e w' => e = .returned V ∧ w3 = w') fun _ _ h => ⟨h.1, h.2.symm⟩
            have hwv0 := hwv V lo n₀ P base _ w3 hvj hn hp3
            clear hwv hit hp3 hvj hE hwb1
            go_wp2_with fail
            refine n2.mono ?_
            rintro _ _ ⟨rfl, rfl⟩
            go_wp2_with fail
            refine hwv0.mono ?_
            rintro e w4 hE
            rcases hE.cases with ⟨_, rfl, hb4, hp4⟩ | ⟨hbad, rfl, hb4⟩
            · go_wp2_with fail
              go_roundw
              case rel => exact ⟨j + 1, by omega, by simp, by rw [HF.out, HA.out]; simpa using hp4, (hb.trans hb3).trans hb4⟩
              case measure => simp only [intOf]; omega
            · refine ⟨rfl, WrE.no ((hb.trans hb3).trans hb4) ?_⟩
              simp only [List.length_append, List.length_cons, List.length_nil, List.length_drop] at hbad hfl ⊢
              omega
          · refine ⟨rfl, WrE.no (hb.trans hb3) ?_⟩
            simp only [List.length_append, List.length_cons, List.length_nil, List.length_drop] at hbad hfl ⊢
            omega
      · rw [List.take_of_length_le (by rw [HLN.out]; omega)] at hpr
        have hwe1 := hwe _ wr hpr
        clear hpr hwb hwe hin
        go_wp2_with fail
        refine hwe1.mono ?_
        rintro e w3 hE
        rcases hE.cases with ⟨_, rfl, hb3, hp3⟩ | ⟨hbad, rfl, hb3⟩
        · go_wp2_with fail
          go_end0
          exact WrE.ok (hb.trans hb3) (by simpa using hp3)
        · refine ⟨rfl, WrE.no (hb.trans hb3) ?_⟩
          simp only [List.length_append, List.length_cons, List.length_nil, List.drop_one, List.length_tail] at hbad ⊢
          omega
  · refine ⟨rfl, WrE.no hb2 ?_⟩
    simp only [List.length_append, List.length_cons, List.length_nil] at hbad ⊢
    omega

theorem nil_eq (w : World) : (binOp .eql 33 .nilIface .nilIface).run Try.prog w = .ok (.bool true) w := by kernel_rfl
set_option maxHeartbeats 2000000 in
set_option maxRecDepth 20000 in
theorem writeValue_any : ∀ (p : Prt), may p = true → WvOk p := by
  intro p
  induction p using Prt.ind with
  | h k y b m r l ih =>
    intro hmay v lo n₀ P base acc w hv hn h
    generalize hp : Prt.mk k y b m r l = p at hmay hv ⊢
    cases hv with
    | null =>
      have hw : Calls Try.prog 40 #[.pointer (some ⟨P, 0, none⟩), .string ⟨#[110, 117, 108, 108]⟩] w (WrE P base acc (txt (.mk 0 false false ⟨#[]⟩ ⟨#[]⟩ [])) w) := write_any P base acc ⟨#[110, 117, 108, 108]⟩ (by decide) w h
      clear ih hp hmay h
      generalize txt (.mk 0 false false ⟨#[]⟩ ⟨#[]⟩ []) = T at *
      go_enter Try.func27, Try.ntmps27
      go_wp2_with fail
      refine hw.mono ?_
      rintro e w2 hE
      rcases hE.cases with ⟨_, rfl, hb2, hp2⟩ | ⟨hbad, rfl, hb2⟩
      · go_wp2_with fail
        go_end0
        exact WrE.ok hb2 hp2
      · exact ⟨rfl, WrE.no hb2 hbad⟩
    | truth y =>
      have hw := writeTruth_any y P base acc w h
      rw [show (if y then [121, 101, 115] else [110, 111] : List UInt8) = txt (.mk 1 y false ⟨#[]⟩ ⟨#[]⟩ []) by cases y <;> rfl] at hw
      have z1 := ta67_81 y
      have z2 := ta58_81 y
      have z3 := ta44_81 y
      clear ih hp hmay h
      generalize txt (.mk 1 y false ⟨#[]⟩ ⟨#[]⟩ []) = T at *
      go_enter Try.func27, Try.ntmps27
      go_wp2_with fail
      refine hw.mono ?_
      rintro e w2 hE
      rcases hE.cases with ⟨_, rfl, hb2, hp2⟩ | ⟨hbad, rfl, hb2⟩
      · go_wp2_with fail
        go_end0
        exact WrE.ok hb2 hp2
      · exact ⟨rfl, WrE.no hb2 hbad⟩
    | num b m =>
      have hnok : numOk b m = true := by
        rw [may_eq] at hmay
        simp [own2, Prt.kind, Prt.neg, Prt.mag] at hmay
        exact hmay.1.2
      have hw := writeNumber_any b m (numOk_chk hnok) P base acc w h
      rw [show printL b m.data.toList = txt (.mk 2 false b m ⟨#[]⟩ []) by simp [txt]] at hw
      have z1 := ta67_83 b m
      clear ih hp hmay h hnok
      generalize txt (.mk 2 false b m ⟨#[]⟩ []) = T at *
      go_enter Try.func27, Try.ntmps27
      go_wp2_with fail
      refine hw.mono ?_
      rintro e w2 hE
      rcases hE.cases with ⟨_, rfl, hb2, hp2⟩ | ⟨hbad, rfl, hb2⟩
      · go_wp2_with fail
        go_end0
        exact WrE.ok hb2 hp2
      · exact ⟨rfl, WrE.no hb2 hbad⟩
    | raw k r hk =>
      have h0 : k ≠ 0 := by rintro rfl; simp [isRawK] at hk
      have h1 : k ≠ 1 := by rintro rfl; simp [isRawK] at hk
      have h2 : k ≠ 2 := by rintro rfl; simp [isRawK] at hk
      have h7 : k ≠ 7 := by rintro rfl; simp [isRawK] at hk
      have ht : txt (.mk k false false ⟨#[]⟩ r []) = rawTxt k r.data.toList := by simp [txt, h0, h1, h2, h7]
      have hrl : r.size ≤ 65536 := by
        rw [may_eq] at hmay
        simp only [own2, Prt.kind, Prt.neg, Prt.mag, Prt.raw, Prt.items, Bool.and_eq_true, Bool.or_eq_true, beq_iff_eq] at hmay
        rcases hmay.1.2 with ((((q | q) | q) | q) | q) | q
        · exact absurd q h0
        · exact absurd q h1
        · exact absurd q.1 h2
        · exact of_decide_eq_true q.2
        · omega
        · exact absurd q.1 h7
      have hw : Calls Try.prog 42 #[.pointer (some ⟨P, 0, none⟩), .iface 81 (.agg #[.int .u8 k, .string r])] w (WrE P base acc (txt (.mk k false false ⟨#[]⟩ r [])) w) := by
        rw [ht]
        have hk' : k = 3 ∨ k = 4 ∨ k = 5 ∨ k = 6 := by simpa [isRawK, or_assoc] using hk
        rcases hk' with rfl | rfl | rfl | rfl
        · exact writeHex_any 3 120 (.inl ⟨rfl, rfl⟩) r hrl P base acc w h
        · exact writeHex_any 4 35 (.inr ⟨rfl, rfl⟩) r hrl P base acc w h
        · exact writeQuo_any 5 39 (.inl ⟨rfl, rfl⟩) r hrl P base acc w h
        · exact writeQuo_any 6 34 (.inr ⟨rfl, rfl⟩) r hrl P base acc w h
      have z1 := ta67_85 k r
      have z2 := ta58_85 k r
      clear ih hp hmay h ht h0 h1 h2 h7 hk
      generalize txt (.mk k false false ⟨#[]⟩ r []) = T at *
      go_enter Try.func27, Try.ntmps27
      go_wp2_with fail
      refine hw.mono ?_
      rintro e w2 hE
      rcases hE.cases with ⟨_, rfl, hb2, hp2⟩ | ⟨hbad, rfl, hb2⟩
      · go_wp2_with fail
        go_end0
        exact WrE.ok hb2 hp2
      · exact ⟨rfl, WrE.no hb2 hbad⟩
    | @tup l' g c a V q1 q2 q3 q4 q5 =>
      injection hp with e1 e2 e3 e4 e5 e6
      subst e6
      obtain ⟨hlen, hall⟩ : l.length ≤ 1024 ∧ l.all may = true := by
        have := may_shape hmay
        cases this with
        | raw k r hk => simp [isRawK] at hk
        | tup _ h1 h2 => exact ⟨h1, h2⟩
      have hw := writeList_step l hlen (fun x hx => ih x hx (List.all_eq_true.1 hall x hx)) g lo n₀ P base acc w (.tup V q1 q2 q3 q4 q5) hn h
      rw [← txt_tup, tupP] at hw
      have z1 := ta67_74 ⟨g, 0, none⟩
      have z2 := ta58_74 ⟨g, 0, none⟩
      have z3 := ta44_74 ⟨g, 0, none⟩
      clear ih hmay h q3 q4 q5 hall hlen
      generalize txt (.mk 7 false false ⟨#[]⟩ ⟨#[]⟩ l) = T at *
      go_enter Try.func27, Try.ntmps27
      go_wp2_with fail
      refine hw.mono ?_
      rintro e w2 hE
      rcases hE.cases with ⟨_, rfl, hb2, hp2⟩ | ⟨hbad, rfl, hb2⟩
      · go_wp2_with fail
        go_end0
        exact WrE.ok hb2 hp2
      · exact ⟨rfl, WrE.no hb2 hbad⟩
end Go.Proofs.Ytffhbellpcneeaa
