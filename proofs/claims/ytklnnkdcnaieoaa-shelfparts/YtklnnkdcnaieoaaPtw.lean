/- The walk of ShelfParts (contracts; nothing is claimed here). -/
import Derived.Test.YtklnnkdcnaieoaaPtm
import Derived.Test.YtklnnkdcnaieoaaLsw
import Derived.Test.YtklnnkdcnaieoaaPta
namespace Go.Proofs.Ytklnnkdcnaieoaa
open Go.RowKit Go.Vf

/-- What stands while ShelfParts goes on. -/
structure PI (w : World) (B : Nat) (f t : ByteArray) (o : Bool) (R : List Pr) (wr : World) : Prop where
  bel : Below w.heap.size w wr
  box : Blk wr w.heap.size 29 #[.string f, .string t, .bool o]
  sh : ShAt wr B R
  lt : w.heap.size < B
theorem PI.old {w wr wr' : World} {B : Nat} {f t : ByteArray} {o : Bool} {R : List Pr} (h : PI w B f t o R wr) (hb : Below wr.heap.size wr wr') : PI w B f t o R wr' :=
  ⟨h.bel.trans (hb.mono h.bel.size), h.box.old hb, h.sh.old hb, h.lt⟩
theorem PI.chg {w wr wr' : World} {B : Nat} {f t : ByteArray} {o : Bool} {R R' : List Pr} (h : PI w B f t o R wr) (hs : ShAt wr' B R') (hb : Below B wr wr') : PI w B f t o R' wr' :=
  ⟨h.bel.trans (hb.mono (Nat.le_of_lt h.lt)), h.box.below hb h.lt, hs, h.lt⟩
set_option maxHeartbeats 16000000 in
set_option maxRecDepth 20000 in
theorem parts_walk (w : World) (a : Option Addr) (c : Nat) (l : List Ac) (f t q : ByteArray) (o : Bool) (h : AcIn w w.heap.size a l) (hl : l.length ≤ maxLen) : Calls Try.prog 5 #[.slice a l.length c, .agg #[.string f, .string t, .bool o], .string q] w (TruePost w) := by
  obtain ⟨m, hm⟩ : ∃ m, m = l.length := ⟨_, rfl⟩
  have HV : ∀ W, AcIn W W.heap.size a l → Calls Try.prog 7 #[.slice a m c] W (VstPost m W) := fun W hW => by rw [hm]; exact vast_any W a c l hW hl
  rw [← hm]
  have Hm : Hid (m = l.length) := hm
  have hmx : (m : Int) ≤ 9223372036854775807 := by rw [hm]; unfold maxLen at hl; omega
  have HA : Hid (AcIn w w.heap.size a l) := h
  clear h hl hm
  have b1 := (Below.refl w.heap.size w).alloc (Nat.le_refl _) (.cells #[.string f, .string t, .bool o] 29)
  have B1 := Blk.new w 29 #[.string f, .string t, .bool o]
  go_enter Try.func5, Try.ntmps5
  go_upto_region 1 with fail
  generalize w.alloc (.cells #[.string f, .string t, .bool o] 29) = w1 at *
  go_wp2_with fail
  refine (HV w1 ((HA.out.keep b1 (Nat.le_refl _)).mono b1.size)).mono ?_
  clear HV
  rintro e w2 ⟨bb, rfl, hbb, hb2⟩
  have HB2 : Hid (Below w.heap.size w w2) := b1.trans (hb2.mono b1.size)
  have HX2 : Hid (Blk w2 w.heap.size 29 #[.string f, .string t, .bool o]) := B1.old hb2
  obtain ⟨x0, x1, x2⟩ := HX2.out.c3
  clear b1 hb2 B1 hmx
  cases bb with
  | true =>
    go_wp2
    go_ret
    exact ⟨rfl, HB2.out⟩
  | false =>
    have hm2 : m ≤ 2147483647 := hbb rfl
    clear hbb
    by_cases s1 : f.size ≤ 536870911
    · have d1 : decide ((536870911 : Int) < (f.size : Int)) = false := by simp; omega
      by_cases s2 : t.size ≤ 536870911
      · have d2 : decide ((536870911 : Int) < (t.size : Int)) = false := by simp; omega
        by_cases s3 : q.size ≤ 536870911
        · have d3 : decide ((536870911 : Int) < (q.size : Int)) = false := by simp; omega
          go_wp2_with fail
          refine (new_any w2).mono ?_
          rintro e w3 ⟨rfl, hs3, hb3⟩
          have HI0 : Hid (PI w w2.heap.size f t o [] w3) := ⟨HB2.out.trans (hb3.mono HB2.out.size), HX2.out.old hb3, hs3, HX2.out.lt⟩
          clear HB2 HX2 hs3 hb3 x0 x1 x2 d1 d2 d3
          generalize w2.heap.size = B at *
          go_wp2
          go_loopw [8] (fun i wr => ∃ j : Nat, j ≤ m ∧ i = .int .i64 (j : Int) ∧ Hid (PI w B f t o (putsA (l.take j)) wr)) (fun i _ => m - (intOf i).toNat)
          case atStart => exact ⟨0, Nat.zero_le _, rfl, HI0⟩
          case round =>
            obtain ⟨j, hj, rfl, HI⟩ := hrel
            clear HI0
            by_cases hjm : j < m
            · have hji : (j : Int) < (m : Int) := by omega
              have hj1 : j < l.length := by rw [← Hm.out]; exact hjm
              obtain ⟨b, off, ha, hbn, c0, c2, c3, _, _⟩ := HA.out.keep HI.out.bel (Nat.le_refl _) j hj1
              obtain ⟨y, hy⟩ : ∃ y, y = l[j] := ⟨_, rfl⟩
              rw [← hy] at c2 c3
              have HST : Hid (putsA (l.take (j + 1)) = ins y.key y.val (putsA (l.take j))) := by show _ = _; rw [hy]; exact putsA_take l j hj1
              have HLN : Hid ((putsA (l.take j)).length < 288230376151711744) := by have := putsA_len l j (by omega); show _ < _; omega
              obtain ⟨yk, y1, y2, y3, y4⟩ := y
              dsimp only at c2 c3 HST
              subst ha
              have hbB : b < B := Nat.lt_trans hbn HI.out.lt
              have HF : Hid (∀ x, Below B wr x → x.cell? ⟨b, off + j * 9 + 2, none⟩ = some (.string y1) ∧ x.cell? ⟨b, off + j * 9 + 3, none⟩ = some (.string y2)) := fun x hx =>
                ⟨(hx.cell (p := ⟨b, _, none⟩) hbB).trans c2, (hx.cell (p := ⟨b, _, none⟩) hbB).trans c3⟩
              clear hy c0 c2 c3
              go_upto_region 9 with fail
              refine wp_region_held_drew (S := fun x => Below B wr x) (by kernel_rfl) ((Below.refl _ _).drew) (fun hHelda => ?_)
              refine wpAnyH_takeD (i := 0) (some 50) (v := ?va0) rfl rfl (by kernel_rfl) (by kernel_rfl) (by kernel_rfl) (fun _ _ _ h => h) (Or.inl ⟨by kernel_rfl, ?hya0⟩) (by assumption) ?resta0
              case hya0 => (intro x hSx; (try dsimp only at hSx); go_simp; first | done | with_reducible rfl)
              try simp only [Act.put, List.setIfInBounds_toArray, List.set_cons_zero, List.set_cons_succ]
              refine wpAnyH_takeD (i := 1) (some 51) (v := ?va1) rfl rfl (by kernel_rfl) (by kernel_rfl) (by kernel_rfl) (fun _ _ _ h => h) (Or.inl ⟨by kernel_rfl, ?hya1⟩) (by assumption) ?resta1
              case hya1 => (intro x hSx; (try dsimp only at hSx); go_simp; first | done | with_reducible rfl)
              try simp only [Act.put, List.setIfInBounds_toArray, List.set_cons_zero, List.set_cons_succ]
              refine wpAnyH_takeD (i := 2) (some 52) (v := ?va2) rfl rfl (by kernel_rfl) (by kernel_rfl) (by kernel_rfl) (fun _ _ _ h => h) (Or.inl ⟨by kernel_rfl, ?hya2⟩) (by assumption) ?resta2
              case hya2 => (intro x hSx; (try dsimp only at hSx); go_simp; first | done | with_reducible rfl)
              try simp only [Act.put, List.setIfInBounds_toArray, List.set_cons_zero, List.set_cons_succ]
              refine wpAnyH_takeD (i := 3) (some 53) (v := ?va3) rfl rfl (by kernel_rfl) (by kernel_rfl) (by kernel_rfl) (fun _ _ _ h => h) (Or.inl ⟨by kernel_rfl, ?hya3⟩) (by assumption) ?resta3
              case hya3 => (intro x hSx; (try dsimp only at hSx); go_simp; first | done | with_reducible rfl)
              try simp only [Act.put, List.setIfInBounds_toArray, List.set_cons_zero, List.set_cons_succ]
              refine wpAnyH_takeD (i := 4) (some 54) (v := ?va4) rfl rfl (by kernel_rfl) (by kernel_rfl) (by kernel_rfl) (fun _ _ _ h => h) (Or.inl ⟨by kernel_rfl, ?hya4⟩) (by assumption) ?resta4
              case hya4 => (intro x hSx; (try dsimp only at hSx); go_simp; first | done | with_reducible rfl)
              try simp only [Act.put, List.setIfInBounds_toArray, List.set_cons_zero, List.set_cons_succ]
              refine wpAnyH_takeD (i := 5) (some 55) (v := ?va5) rfl rfl (by kernel_rfl) (by kernel_rfl) (by kernel_rfl) (fun _ _ _ h => h) (Or.inl ⟨by kernel_rfl, ?hya5⟩) (by assumption) ?resta5
              case hya5 => (intro x hSx; (try dsimp only at hSx); obtain ⟨z0, z1⟩ := HF.out x hSx; go_simp; first | done | with_reducible rfl)
              try simp only [Act.put, List.setIfInBounds_toArray, List.set_cons_zero, List.set_cons_succ]
              refine wpAnyH_takeD (i := 6) (some 56) (v := ?va6) rfl rfl (by kernel_rfl) (by kernel_rfl) (by kernel_rfl) (fun _ _ _ h => h) (Or.inl ⟨by kernel_rfl, ?hya6⟩) (by assumption) ?resta6
              case hya6 => (intro x hSx; (try dsimp only at hSx); go_simp; first | done | with_reducible rfl)
              try simp only [Act.put, List.setIfInBounds_toArray, List.set_cons_zero, List.set_cons_succ]
              refine wpAnyH_takeD (i := 7) (some 57) (v := ?va7) rfl rfl (by kernel_rfl) (by kernel_rfl) (by kernel_rfl) (fun _ _ _ h => h) (Or.inl ⟨by kernel_rfl, ?hya7⟩) (by assumption) ?resta7
              case hya7 => (intro x hSx; (try dsimp only at hSx); go_simp; first | done | with_reducible rfl)
              try simp only [Act.put, List.setIfInBounds_toArray, List.set_cons_zero, List.set_cons_succ]
              refine wpAnyH_takeD (i := 8) (some 58) (v := ?va8) rfl rfl (by kernel_rfl) (by kernel_rfl) (by kernel_rfl) (fun _ _ _ h => h) (Or.inl ⟨by kernel_rfl, ?hya8⟩) (by assumption) ?resta8
              case hya8 => (intro x hSx; (try dsimp only at hSx); go_simp; first | done | with_reducible rfl)
              try simp only [Act.put, List.setIfInBounds_toArray, List.set_cons_zero, List.set_cons_succ]
              refine wpAnyH_takeD (i := 9) (some 59) (v := ?va9) rfl rfl (by kernel_rfl) (by kernel_rfl) (by kernel_rfl) (fun _ _ _ h => h) (Or.inl ⟨by kernel_rfl, ?hya9⟩) (by assumption) ?resta9
              case hya9 => (intro x hSx; (try dsimp only at hSx); go_simp; first | done | with_reducible rfl)
              try simp only [Act.put, List.setIfInBounds_toArray, List.set_cons_zero, List.set_cons_succ]
              refine wpAnyH_takeD (i := 10) (some 60) (v := ?va10) rfl rfl (by kernel_rfl) (by kernel_rfl) (by kernel_rfl) (fun _ _ _ h => h) (Or.inl ⟨by kernel_rfl, ?hya10⟩) (by assumption) ?resta10
              case hya10 => (intro x hSx; (try dsimp only at hSx); obtain ⟨z0, z1⟩ := HF.out x hSx; go_simp; first | done | with_reducible rfl)
              try simp only [Act.put, List.setIfInBounds_toArray, List.set_cons_zero, List.set_cons_succ]
              refine wpAnyH_ready (rs := [11]) (by kernel_rfl) (by simp) ?_
              refine AllReadyH.cons rfl (fun K hK => ?_) AllReadyH.nil
              go_simp
              go_wp2_with (go_at_call 15; refine (put_any wr.drew B (putsA (l.take j)) y1 y2 (HI.out.sh.old (Below.refl _ _).drew) HLN.out).mono ?_; rintro e y11 ⟨rfl, hs11, ho11, hb11⟩)
              refine hK.out _ _ (hHelda.trans hb11) (fun hHelda11 => ?_)
              clear hK K
              try simp only [Act.put, List.setIfInBounds_toArray, List.set_cons_zero, List.set_cons_succ]
              refine wpAnyH_done (by kernel_rfl) ?_ _
              have HI2 : Hid (PI w B f t o (ins y1 y2 (putsA (l.take j))) y11) := HI.out.chg hs11 hHelda11
              generalize (get y1 (putsA (l.take j))).isSome = gb
              clear HF hs11 ho11 hb11 hHelda11 hHelda HI
              go_wp2
              go_roundw
              case rel => exact ⟨j + 1, by omega, by go_num, by rw [HST.out]; exact HI2⟩
              case measure => simp [intOf]; omega
            · have hjm2 : j = m := by omega
              have hji : ¬ (j : Int) < (m : Int) := by omega
              have HI1 : Hid (PI w B f t o (putsA l) wr) := by
                have e := HI.out
                rw [hjm2, Hm.out, List.take_length] at e
                exact e
              have HRL : Hid ((putsA l).length ≤ 2147483647) := by
                have h1 := putsA_len l l.length (Nat.le_refl _)
                rw [List.take_length] at h1
                have h2 := Hm.out
                show _ ≤ _
                omega
              clear HI hjm2
              obtain ⟨R, HR⟩ : ∃ R, Hid (R = putsA l) := ⟨_, rfl⟩
              have HSR : Hid (Srt R) := by rw [HR.out]; exact putsA_srt l
              rw [← HR.out] at HI1 HRL
              have HLT : Hid (∀ f' t' o' b', (tellP f' t' o' b' R).length ≤ 2147483647) := fun _ _ _ b' => by
                refine Nat.le_trans ?_ HRL.out
                unfold tellP
                cases b'
                · exact List.length_filter_le _ _
                · simp only [if_true, List.length_reverse]; exact List.length_filter_le _ _
              have HRB : Hid (R.length ≤ 2147483648) := Nat.le_trans HRL.out (by decide)
              have HT1 := callsIn_wide.1 (told_in 6 (Nat.le_refl _) B R ⟨#[]⟩ ⟨#[]⟩ true false wr HI1.out.sh HRB.out)
              go_wp2_with fail
              refine HT1.mono ?_
              clear HT1
              rintro e wa ⟨va, rfl, hr1, hb1⟩
              have HIa : Hid (PI w B f t o R wa) := HI1.out.old hb1
              have hz1 : wr.heap.size ≤ wa.heap.size := hb1.size
              rw [tell_all] at hr1
              obtain ⟨aa, ca, e1⟩ := hr1.shape
              obtain ⟨na, hna⟩ : ∃ na, na = R.length := ⟨_, rfl⟩
              rw [← hna] at e1
              have Hna : Hid (na = R.length) := hna
              have hnab : na ≤ 2147483647 := by rw [hna]; exact HRL.out
              subst e1
              have HR1 : Hid (PRow wa wr.heap.size (.slice aa na ca) R) := hr1
              clear hr1 hna hb1 HI1
              generalize wr.heap.size = base1 at *
              obtain ⟨x0, x1, x2⟩ := HIa.out.box.c3
              have HT2 := callsIn_wide.1 (told_in 6 (Nat.le_refl _) B R f t o false wa HIa.out.sh HRB.out)
              go_wp2_with fail
              refine HT2.mono ?_
              clear HT2
              rintro e wb ⟨vb, rfl, hr2, hb2⟩
              have HIb : Hid (PI w B f t o R wb) := HIa.out.old hb2
              have hz2 : wa.heap.size ≤ wb.heap.size := hb2.size
              clear x0 x1 x2
              obtain ⟨al, cl, e2⟩ := hr2.shape
              obtain ⟨nl, hnl⟩ : ∃ nl, nl = (tellP f t o false R).length := ⟨_, rfl⟩
              rw [← hnl] at e2
              have Hnl : Hid (nl = (tellP f t o false R).length) := hnl
              have hnlb : nl ≤ 2147483647 := by rw [hnl]; exact HLT.out _ _ _ _
              subst e2
              have HR2 : Hid (PRow wb wa.heap.size (.slice al nl cl) (tellP f t o false R)) := hr2
              have HR1b : Hid (PRow wb base1 (.slice aa na ca) R) := HR1.out.old hb2
              clear hr2 hnl hb2 HR1 HIa
              generalize wa.heap.size = base2 at *
              obtain ⟨x0, x1, x2⟩ := HIb.out.box.c3
              have HT3 := callsIn_wide.1 (told_in 6 (Nat.le_refl _) B R f t o true wb HIb.out.sh HRB.out)
              go_wp2_with fail
              refine HT3.mono ?_
              clear HT3
              rintro e wc ⟨vc, rfl, hr3, hb3⟩
              have HIc : Hid (PI w B f t o R wc) := HIb.out.old hb3
              have hz3 : wb.heap.size ≤ wc.heap.size := hb3.size
              clear x0 x1 x2
              obtain ⟨ab, cb, e3⟩ := hr3.shape
              have hnbl : (tellP f t o true R).length = nl := by rw [Hnl.out]; simp [tellP]
              rw [hnbl] at e3
              subst e3
              have HR3 : Hid (PRow wc wb.heap.size (.slice ab nl cb) (tellP f t o true R)) := hr3
              have HR1c : Hid (PRow wc base1 (.slice aa na ca) R) := HR1b.out.old hb3
              have HR2c : Hid (PRow wc base2 (.slice al nl cl) (tellP f t o false R)) := HR2.out.old hb3
              clear hr3 hb3 HR1b HR2 HIb hnbl
              generalize wb.heap.size = base3 at *
              obtain ⟨x0, x1, x2⟩ := HIc.out.box.c3
              obtain ⟨O1, HO1⟩ : ∃ O1, Hid (O1 = (o && false)) := ⟨_, rfl⟩
              obtain ⟨O2, HO2⟩ : ∃ O2, Hid (O2 = (o && true)) := ⟨_, rfl⟩
              have z0 : (⟨#[]⟩ : ByteArray).size ≤ 17179869184 := by decide
              have HXc : Hid (Blk wc w.heap.size 29 #[.string f, .string t, .bool o]) := HIc.out.box
              have HM1 := meet_any f t ⟨#[]⟩ q o false wc (by omega) (by omega) z0 (by omega)
              rw [← HO1.out] at HM1
              go_wp2_with fail
              refine HM1.mono ?_
              clear HM1
              rintro e wd ⟨rfl, hbd⟩
              have HId : Hid (PI w B f t o R wd) := HIc.out.old hbd
              have HWD : Hid (w.heap.size ≤ wd.heap.size) := HId.out.bel.size
              have hcd : wc.heap.size ≤ wd.heap.size := hbd.size
              clear x0 x1 x2
              have HT4 := callsIn_wide.1 (told_in 6 (Nat.le_refl _) B R (metF f ⟨#[]⟩) (metT t q o false) O1 false wd HId.out.sh HRB.out)
              go_wp2_with fail
              refine HT4.mono ?_
              clear HT4
              rintro e we ⟨ve, rfl, hr4, hb4⟩
              have HIe : Hid (PI w B f t o R we) := HId.out.old hb4
              have hz4 : wd.heap.size ≤ we.heap.size := hb4.size
              obtain ⟨ad, cd, e4⟩ := hr4.shape
              obtain ⟨nd, hnd⟩ : ∃ nd, nd = (tellP (metF f ⟨#[]⟩) (metT t q o false) O1 false R).length := ⟨_, rfl⟩
              rw [← hnd] at e4
              have hndb : nd ≤ 2147483647 := by rw [hnd]; exact HLT.out _ _ _ _
              subst e4
              have HR4 : Hid (PRow we wd.heap.size (.slice ad nd cd) (tellP (metF f ⟨#[]⟩) (metT t q o false) O1 false R)) := hr4
              have Hnd : Hid (nd = (tellP (metF f ⟨#[]⟩) (metT t q o false) O1 false R).length) := hnd
              clear hr4 hnd HId
              obtain ⟨x0, x1, x2⟩ := HIe.out.box.c3
              have HM2 := meet_any f t q ⟨#[]⟩ o true we (by omega) (by omega) (by omega) z0
              rw [← HO2.out] at HM2
              go_wp2_with fail
              refine HM2.mono ?_
              clear HM2
              rintro e wf ⟨rfl, hbf⟩
              have HIf : Hid (PI w B f t o R wf) := HIe.out.old hbf
              clear x0 x1 x2
              have HT5 := callsIn_wide.1 (told_in 6 (Nat.le_refl _) B R (metF f q) (metT t ⟨#[]⟩ o true) O2 false wf HIf.out.sh HRB.out)
              go_wp2_with fail
              refine HT5.mono ?_
              clear HT5
              rintro e wg ⟨vg, rfl, hr5, hb5⟩
              have HIg : Hid (PI w B f t o R wg) := HIf.out.old hb5
              have hz5 : wf.heap.size ≤ wg.heap.size := hb5.size
              obtain ⟨ah, ch, e5⟩ := hr5.shape
              obtain ⟨nh, hnh⟩ : ∃ nh, nh = (tellP (metF f q) (metT t ⟨#[]⟩ o true) O2 false R).length := ⟨_, rfl⟩
              rw [← hnh] at e5
              have hnhb : nh ≤ 2147483647 := by rw [hnh]; exact HLT.out _ _ _ _
              subst e5
              have h4g := (HR4.out.old hbf).old hb5
              have hwd : wd.heap.size ≤ wg.heap.size := Nat.le_trans hz4 (Nat.le_trans hbf.size hz5)
              obtain ⟨vp, wh, hrun, hrp, hgr⟩ := append_both h4g hr5 (by rw [← Hnd.out, ← hnh]; omega) hwd
              rw [HO1.out, HO2.out, low_high f t q o HSR.out] at hrp
              have HBdg : Hid (Below wc.heap.size wc wg) := ((hbd.trans (hb4.mono hbd.size)).trans (hbf.mono (Nat.le_trans hbd.size hb4.size))).trans (hb5.mono (Nat.le_trans hbd.size (Nat.le_trans hb4.size hbf.size)))
              have HKB : Hid (∀ b t cs, Blk wc b t cs → Blk wh b t cs) := fun b t cs hb => by
                have h1 := hb.old HBdg.out
                refine (hgr.block b h1.lt (fun e => ?_)).trans h1
                rcases h4g.2 with ⟨e1, _⟩ | ⟨g, cap, cur, e1, hbg, _⟩
                · rw [e1] at e; cases e
                · rw [e1] at e
                  have e2 : b = g := by simpa [Value.ownBlock] using e
                  have := hb.lt
                  omega
              have hR1h : PRow wh base1 (.slice aa na ca) R := HR1c.out.keepB fun b cs _ hb => HKB.out b 45 cs hb
              have hR2h : PRow wh base2 (.slice al nl cl) (tellP f t o false R) := HR2c.out.keepB fun b cs _ hb => HKB.out b 45 cs hb
              have hR3h : PRow wh base3 (.slice ab nl cb) (tellP f t o true R) := HR3.out.keepB fun b cs _ hb => HKB.out b 45 cs hb
              have hXh : Blk wh w.heap.size 29 #[.string f, .string t, .bool o] := HKB.out _ _ _ HXc.out
              have hBh : Below w.heap.size w wh := HIg.out.bel.trans ⟨hgr.os, hgr.tape, hgr.output, hgr.size, fun k hk => hgr.block k (Nat.lt_of_lt_of_le hk HIg.out.bel.size) (fun e => by
                rcases h4g.2 with ⟨e1, _⟩ | ⟨g, cap, cur, e1, hbg, _⟩
                · rw [e1] at e; cases e
                · rw [e1] at e
                  have e2 : k = g := by simpa [Value.ownBlock] using e
                  have h1 := HIg.out.lt
                  have h2 := HWD.out
                  omega)⟩
              have HSM := same_any wh wd.heap.size base2 vp (.slice al nl cl) (tellP f t o false R) (tellP f t o false R) hrp hR2h (Nat.le_trans (HLT.out _ _ _ _) (by decide))
              rw [decide_eq_true rfl] at HSM
              obtain ⟨ap, cp, ep⟩ := hrp.shape
              rw [← Hnl.out] at ep
              subst ep
              have HR1h : Hid (PRow wh base1 (.slice aa na ca) R) := hR1h
              have HR2h : Hid (PRow wh base2 (.slice al nl cl) (tellP f t o false R)) := hR2h
              have HR3h : Hid (PRow wh base3 (.slice ab nl cb) (tellP f t o true R)) := hR3h
              have HXh : Hid (Blk wh w.heap.size 29 #[.string f, .string t, .bool o]) := hXh
              have HBh : Hid (Below w.heap.size w wh) := hBh
              clear hR1h hR2h hR3h hXh hBh hrp hgr h4g hr5 HR4 HR1c HR2c HR3 HIe HIf HIg hbd hb4 hbf hb5 HKB HBdg hnh Hnd
              have HRUN : Hid ((Builtin.append_ #[39, 39] 39 #[.slice ad nd cd, .slice ah nh ch]).run Try.prog wg = .ok (.slice ap nl cp) wh) := hrun
              clear hrun
              go_wp2_with (at_builtin; refine wpList_append_want _ _ rfl rfl (by rfl) rfl rfl HRUN.out ?_)
              refine HSM.mono ?_
              clear HSM
              rintro e wi ⟨rfl, hbi⟩
              go_wp2
              have hBi : Below w.heap.size w wi := HBh.out.trans (hbi.mono HBh.out.size)
              have HR1i : Hid (PRow wi base1 (.slice aa na ca) R) := HR1h.out.old hbi
              have HR2i : Hid (PRow wi base2 (.slice al nl cl) (tellP f t o false R)) := HR2h.out.old hbi
              have HR3i : Hid (PRow wi base3 (.slice ab nl cb) (tellP f t o true R)) := HR3h.out.old hbi
              have HXi : Hid (Blk wi w.heap.size 29 #[.string f, .string t, .bool o]) := HXh.out.old hbi
              have HBi : Hid (Below w.heap.size w wi) := hBi
              clear hBi HR1h HR2h HR3h HXh HBh hbi
              go_loopw [19, 20] (fun kk i wr2 => ∃ i2 k2 : Nat, i2 ≤ na ∧ i = .int .i64 (i2 : Int) ∧ kk = .int .i64 (k2 : Int) ∧ k2 ≤ nl ∧ Hid (k2 = ((R.take i2).filter (fun x => inSp f t o x.1)).length) ∧ Hid (Below wi.heap.size wi wr2)) (fun _ i _ => na - (intOf i).toNat)
              case atStart => exact ⟨0, 0, Nat.zero_le _, rfl, rfl, Nat.zero_le _, rfl, Below.refl _ _⟩
              case round =>
                obtain ⟨i2, k2, hi2, rfl, rfl, hk2, HK2, hb⟩ := hrel
                by_cases hin : i2 < na
                · have hii : (i2 : Int) < (na : Int) := by omega
                  have hi1 : i2 < R.length := by rw [← Hna.out]; exact hin
                  obtain ⟨ga, cc, _, hga, q1, pat⟩ := PRow.at (HR1i.out.old hb.out) (by omega)
                  obtain ⟨z0, z1⟩ := pat i2 hi1
                  have HTK : Hid ((R.take (i2 + 1)).filter (fun x => inSp f t o x.1) = (R.take i2).filter (fun x => inSp f t o x.1) ++ (if inSp f t o R[i2].1 = true then [R[i2]] else [])) := by
                    show _ = _
                    rw [List.take_succ_eq_append_getElem hi1, List.filter_append]
                    congr 1
                    by_cases q0 : inSp f t o R[i2].1 = true
                    · rw [if_pos q0, List.filter_cons_of_pos (by exact q0)]; rfl
                    · rw [if_neg q0, List.filter_cons_of_neg (by simpa using q0)]; rfl
                  have HFA : Hid (inSp f t o R[i2].1 = true → (R.filter (fun x => inSp f t o x.1))[k2]? = some R[i2]) := fun h => by rw [HK2.out]; exact filter_at (fun x : Pr => inSp f t o x.1) R i2 hi1 h
                  obtain ⟨pr, hpr⟩ : ∃ pr, pr = R[i2] := ⟨_, rfl⟩
                  rw [← hpr] at z0 z1 HTK HFA
                  obtain ⟨pk, pv⟩ := pr
                  dsimp only at z0 z1 HTK HFA
                  injection q1 with q1 q2 q3
                  subst q1
                  clear hpr pat q2 q3
                  obtain ⟨y0, y1, y2⟩ := (HXi.out.old hb.out).c3
                  have hxs : w.heap.size < wr.heap.size := (HXi.out.old hb.out).lt
                  have hgs : ga < wr.heap.size := hga
                  have HF : Hid (∀ x, Below wr.heap.size wr x → x.cell? ⟨ga, i2 * 2, none⟩ = some (.string pk) ∧ x.cell? ⟨ga, i2 * 2 + 1, none⟩ = some (.string pv) ∧ x.cell? ⟨w.heap.size, 0, none⟩ = some (.string f) ∧ x.cell? ⟨w.heap.size, 1, none⟩ = some (.string t) ∧ x.cell? ⟨w.heap.size, 2, none⟩ = some (.bool o)) := fun x hx =>
                    ⟨(hx.cell (p := ⟨ga, _, none⟩) hgs).trans z0, (hx.cell (p := ⟨ga, _, none⟩) hgs).trans z1, (hx.cell (p := ⟨w.heap.size, _, none⟩) hxs).trans y0, (hx.cell (p := ⟨w.heap.size, _, none⟩) hxs).trans y1, (hx.cell (p := ⟨w.heap.size, _, none⟩) hxs).trans y2⟩
                  clear z0 z1 y0 y1 y2
                  cases hlt : lt pk f with
                  | true =>
                    have hl1 : Op.bytesLess pk.toList f.toList = true := hlt
                    go_upto_region 21 with fail
                    refine wp_region_held_drew (S := fun x => Below wr.heap.size wr x) (by kernel_rfl) ((Below.refl _ _).drew) (fun hHeldA => ?_)
                    refine wpAnyH_takeD (i := 0) (some 137) (v := ?vA0) rfl rfl (by kernel_rfl) (by kernel_rfl) (by kernel_rfl) (fun _ _ _ h => h) (Or.inl ⟨by kernel_rfl, ?hyA0⟩) (by assumption) ?restA0
                    case hyA0 => (intro x hSx; (try dsimp only at hSx); go_simp; first | done | with_reducible rfl)
                    try simp only [Act.put, List.setIfInBounds_toArray, List.set_cons_zero, List.set_cons_succ]
                    refine wpAnyH_takeD (i := 1) (some 138) (v := ?vA1) rfl rfl (by kernel_rfl) (by kernel_rfl) (by kernel_rfl) (fun _ _ _ h => h) (Or.inl ⟨by kernel_rfl, ?hyA1⟩) (by assumption) ?restA1
                    case hyA1 => (intro x hSx; (try dsimp only at hSx); go_simp; first | done | with_reducible rfl)
                    try simp only [Act.put, List.setIfInBounds_toArray, List.set_cons_zero, List.set_cons_succ]
                    refine wpAnyH_takeD (i := 2) (some 139) (v := ?vA2) rfl rfl (by kernel_rfl) (by kernel_rfl) (by kernel_rfl) (fun _ _ _ h => h) (Or.inl ⟨by kernel_rfl, ?hyA2⟩) (by assumption) ?restA2
                    case hyA2 => (intro x hSx; (try dsimp only at hSx); go_simp; first | done | with_reducible rfl)
                    try simp only [Act.put, List.setIfInBounds_toArray, List.set_cons_zero, List.set_cons_succ]
                    refine wpAnyH_takeD (i := 3) (some 140) (v := ?vA3) rfl rfl (by kernel_rfl) (by kernel_rfl) (by kernel_rfl) (fun _ _ _ h => h) (Or.inl ⟨by kernel_rfl, ?hyA3⟩) (by assumption) ?restA3
                    case hyA3 => (intro x hSx; (try dsimp only at hSx); go_simp; first | done | with_reducible rfl)
                    try simp only [Act.put, List.setIfInBounds_toArray, List.set_cons_zero, List.set_cons_succ]
                    refine wpAnyH_takeD (i := 4) (some 141) (v := ?vA4) rfl rfl (by kernel_rfl) (by kernel_rfl) (by kernel_rfl) (fun _ _ _ h => h) (Or.inl ⟨by kernel_rfl, ?hyA4⟩) (by assumption) ?restA4
                    case hyA4 => (intro x hSx; (try dsimp only at hSx); obtain ⟨z0, z1, z2, z3, z4⟩ := HF.out x hSx; go_simp; first | done | with_reducible rfl)
                    try simp only [Act.put, List.setIfInBounds_toArray, List.set_cons_zero, List.set_cons_succ]
                    refine wpAnyH_takeD (i := 5) (some 142) (v := ?vA5) rfl rfl (by kernel_rfl) (by kernel_rfl) (by kernel_rfl) (fun _ _ _ h => h) (Or.inl ⟨by kernel_rfl, ?hyA5⟩) (by assumption) ?restA5
                    case hyA5 => (intro x hSx; (try dsimp only at hSx); go_simp; first | done | with_reducible rfl)
                    try simp only [Act.put, List.setIfInBounds_toArray, List.set_cons_zero, List.set_cons_succ]
                    refine wpAnyH_takeD (i := 6) (some 143) (v := ?vA6) rfl rfl (by kernel_rfl) (by kernel_rfl) (by kernel_rfl) (fun _ _ _ h => h) (Or.inl ⟨by kernel_rfl, ?hyA6⟩) (by assumption) ?restA6
                    case hyA6 => (intro x hSx; (try dsimp only at hSx); obtain ⟨z0, z1, z2, z3, z4⟩ := HF.out x hSx; go_simp; first | done | with_reducible rfl)
                    try simp only [Act.put, List.setIfInBounds_toArray, List.set_cons_zero, List.set_cons_succ]
                    refine wpAnyH_takeD (i := 7) (some 144) (v := .bool false) rfl rfl (by kernel_rfl) (by kernel_rfl) (by kernel_rfl) (fun _ _ _ h => h) (Or.inl ⟨by kernel_rfl, ?hyA7⟩) (by assumption) ?restA7
                    case hyA7 => (intro x hSx; (try dsimp only at hSx); go_simp; first | done | with_reducible rfl)
                    try simp only [Act.put, List.setIfInBounds_toArray, List.set_cons_zero, List.set_cons_succ]
                    refine wpAnyH_takeD (i := 8) (some 145) (v := ?vA8) rfl rfl (by kernel_rfl) (by kernel_rfl) (by kernel_rfl) (fun _ _ _ h => h) (Or.inl ⟨by kernel_rfl, ?hyA8⟩) (by assumption) ?restA8
                    case hyA8 => (intro x hSx; (try dsimp only at hSx); go_simp; first | done | with_reducible rfl)
                    try simp only [Act.put, List.setIfInBounds_toArray, List.set_cons_zero, List.set_cons_succ]
                    refine wpAnyH_takeD (i := 9) (some 146) (v := undef) rfl rfl (by kernel_rfl) (by kernel_rfl) (by kernel_rfl) (fun _ _ _ h => h) (Or.inr ⟨by kernel_rfl, rfl⟩) (by assumption) ?_
                    try simp only [Act.put, List.setIfInBounds_toArray, List.set_cons_zero, List.set_cons_succ]
                    refine wpAnyH_takeD (i := 10) (some 147) (v := undef) rfl rfl (by kernel_rfl) (by kernel_rfl) (by kernel_rfl) (fun _ _ _ h => h) (Or.inr ⟨by kernel_rfl, rfl⟩) (by assumption) ?_
                    try simp only [Act.put, List.setIfInBounds_toArray, List.set_cons_zero, List.set_cons_succ]
                    refine wpAnyH_takeD (i := 11) (some 148) (v := undef) rfl rfl (by kernel_rfl) (by kernel_rfl) (by kernel_rfl) (fun _ _ _ h => h) (Or.inr ⟨by kernel_rfl, rfl⟩) (by assumption) ?_
                    try simp only [Act.put, List.setIfInBounds_toArray, List.set_cons_zero, List.set_cons_succ]
                    refine wpAnyH_takeD (i := 12) (some 149) (v := undef) rfl rfl (by kernel_rfl) (by kernel_rfl) (by kernel_rfl) (fun _ _ _ h => h) (Or.inr ⟨by kernel_rfl, rfl⟩) (by assumption) ?_
                    try simp only [Act.put, List.setIfInBounds_toArray, List.set_cons_zero, List.set_cons_succ]
                    refine wpAnyH_takeD (i := 13) (some 150) (v := undef) rfl rfl (by kernel_rfl) (by kernel_rfl) (by kernel_rfl) (fun _ _ _ h => h) (Or.inr ⟨by kernel_rfl, rfl⟩) (by assumption) ?_
                    try simp only [Act.put, List.setIfInBounds_toArray, List.set_cons_zero, List.set_cons_succ]
                    refine wpAnyH_takeD (i := 14) (some 151) (v := undef) rfl rfl (by kernel_rfl) (by kernel_rfl) (by kernel_rfl) (fun _ _ _ h => h) (Or.inr ⟨by kernel_rfl, rfl⟩) (by assumption) ?_
                    try simp only [Act.put, List.setIfInBounds_toArray, List.set_cons_zero, List.set_cons_succ]
                    refine wpAnyH_takeD (i := 15) (some 152) (v := undef) rfl rfl (by kernel_rfl) (by kernel_rfl) (by kernel_rfl) (fun _ _ _ h => h) (Or.inr ⟨by kernel_rfl, rfl⟩) (by assumption) ?_
                    try simp only [Act.put, List.setIfInBounds_toArray, List.set_cons_zero, List.set_cons_succ]
                    refine wpAnyH_takeD (i := 16) (some 153) (v := undef) rfl rfl (by kernel_rfl) (by kernel_rfl) (by kernel_rfl) (fun _ _ _ h => h) (Or.inr ⟨by kernel_rfl, rfl⟩) (by assumption) ?_
                    try simp only [Act.put, List.setIfInBounds_toArray, List.set_cons_zero, List.set_cons_succ]
                    refine wpAnyH_takeD (i := 17) (some 154) (v := undef) rfl rfl (by kernel_rfl) (by kernel_rfl) (by kernel_rfl) (fun _ _ _ h => h) (Or.inr ⟨by kernel_rfl, rfl⟩) (by assumption) ?_
                    try simp only [Act.put, List.setIfInBounds_toArray, List.set_cons_zero, List.set_cons_succ]
                    refine wpAnyH_takeD (i := 18) (some 155) (v := undef) rfl rfl (by kernel_rfl) (by kernel_rfl) (by kernel_rfl) (fun _ _ _ h => h) (Or.inr ⟨by kernel_rfl, rfl⟩) (by assumption) ?_
                    try simp only [Act.put, List.setIfInBounds_toArray, List.set_cons_zero, List.set_cons_succ]
                    refine wpAnyH_takeD (i := 19) (some 156) (v := undef) rfl rfl (by kernel_rfl) (by kernel_rfl) (by kernel_rfl) (fun _ _ _ h => h) (Or.inr ⟨by kernel_rfl, rfl⟩) (by assumption) ?_
                    try simp only [Act.put, List.setIfInBounds_toArray, List.set_cons_zero, List.set_cons_succ]
                    refine wpAnyH_takeD (i := 20) (some 157) (v := undef) rfl rfl (by kernel_rfl) (by kernel_rfl) (by kernel_rfl) (fun _ _ _ h => h) (Or.inr ⟨by kernel_rfl, rfl⟩) (by assumption) ?_
                    try simp only [Act.put, List.setIfInBounds_toArray, List.set_cons_zero, List.set_cons_succ]
                    refine wpAnyH_takeD (i := 21) (some 158) (v := ?vA21) rfl rfl (by kernel_rfl) (by kernel_rfl) (by kernel_rfl) (fun _ _ _ h => h) (Or.inl ⟨by kernel_rfl, ?hyA21⟩) (by assumption) ?restA21
                    case hyA21 => (intro x hSx; (try dsimp only at hSx); go_simp; first | done | with_reducible rfl)
                    try simp only [Act.put, List.setIfInBounds_toArray, List.set_cons_zero, List.set_cons_succ]
                    refine wpAnyH_takeD (i := 22) (some 21) (v := ?vA22) rfl rfl (by kernel_rfl) (by kernel_rfl) (by kernel_rfl) (fun _ _ _ h => h) (Or.inl ⟨by kernel_rfl, ?hyA22⟩) (by assumption) ?restA22
                    case hyA22 => (intro x hSx; (try dsimp only at hSx); go_simp; first | done | with_reducible rfl)
                    try simp only [Act.put, List.setIfInBounds_toArray, List.set_cons_zero, List.set_cons_succ]
                    refine wpAnyH_done (by kernel_rfl) ?_ _
                    have HNI : Hid (inSp f t o pk = false) := by show _ = _; unfold inSp; rw [hlt]; rfl
                    have HK3 : Hid (k2 = ((R.take (i2 + 1)).filter (fun x => inSp f t o x.1)).length) := by
                      show _ = _
                      rw [HTK.out, HNI.out, if_neg (by decide), List.append_nil]
                      exact HK2.out
                    clear HF
                    go_wp2
                    go_roundw
                    case rel => exact ⟨i2 + 1, k2, by omega, by go_num, rfl, hk2, HK3, hb.out.trans (hHeldA.mono hb.out.size)⟩
                    case measure => simp [intOf]; omega
                  | false =>
                    have hl1 : Op.bytesLess pk.toList f.toList = false := hlt
                    cases o with
                    | true =>
                      go_upto_region 21 with fail
                      refine wp_region_held_drew (S := fun x => Below wr.heap.size wr x) (by kernel_rfl) ((Below.refl _ _).drew) (fun hHeldB => ?_)
                      refine wpAnyH_takeD (i := 0) (some 137) (v := ?vB0) rfl rfl (by kernel_rfl) (by kernel_rfl) (by kernel_rfl) (fun _ _ _ h => h) (Or.inl ⟨by kernel_rfl, ?hyB0⟩) (by assumption) ?restB0
                      case hyB0 => (intro x hSx; (try dsimp only at hSx); go_simp; first | done | with_reducible rfl)
                      try simp only [Act.put, List.setIfInBounds_toArray, List.set_cons_zero, List.set_cons_succ]
                      refine wpAnyH_takeD (i := 1) (some 138) (v := ?vB1) rfl rfl (by kernel_rfl) (by kernel_rfl) (by kernel_rfl) (fun _ _ _ h => h) (Or.inl ⟨by kernel_rfl, ?hyB1⟩) (by assumption) ?restB1
                      case hyB1 => (intro x hSx; (try dsimp only at hSx); go_simp; first | done | with_reducible rfl)
                      try simp only [Act.put, List.setIfInBounds_toArray, List.set_cons_zero, List.set_cons_succ]
                      refine wpAnyH_takeD (i := 2) (some 139) (v := ?vB2) rfl rfl (by kernel_rfl) (by kernel_rfl) (by kernel_rfl) (fun _ _ _ h => h) (Or.inl ⟨by kernel_rfl, ?hyB2⟩) (by assumption) ?restB2
                      case hyB2 => (intro x hSx; (try dsimp only at hSx); go_simp; first | done | with_reducible rfl)
                      try simp only [Act.put, List.setIfInBounds_toArray, List.set_cons_zero, List.set_cons_succ]
                      refine wpAnyH_takeD (i := 3) (some 140) (v := ?vB3) rfl rfl (by kernel_rfl) (by kernel_rfl) (by kernel_rfl) (fun _ _ _ h => h) (Or.inl ⟨by kernel_rfl, ?hyB3⟩) (by assumption) ?restB3
                      case hyB3 => (intro x hSx; (try dsimp only at hSx); go_simp; first | done | with_reducible rfl)
                      try simp only [Act.put, List.setIfInBounds_toArray, List.set_cons_zero, List.set_cons_succ]
                      refine wpAnyH_takeD (i := 4) (some 141) (v := ?vB4) rfl rfl (by kernel_rfl) (by kernel_rfl) (by kernel_rfl) (fun _ _ _ h => h) (Or.inl ⟨by kernel_rfl, ?hyB4⟩) (by assumption) ?restB4
                      case hyB4 => (intro x hSx; (try dsimp only at hSx); obtain ⟨z0, z1, z2, z3, z4⟩ := HF.out x hSx; go_simp; first | done | with_reducible rfl)
                      try simp only [Act.put, List.setIfInBounds_toArray, List.set_cons_zero, List.set_cons_succ]
                      refine wpAnyH_takeD (i := 5) (some 142) (v := ?vB5) rfl rfl (by kernel_rfl) (by kernel_rfl) (by kernel_rfl) (fun _ _ _ h => h) (Or.inl ⟨by kernel_rfl, ?hyB5⟩) (by assumption) ?restB5
                      case hyB5 => (intro x hSx; (try dsimp only at hSx); go_simp; first | done | with_reducible rfl)
                      try simp only [Act.put, List.setIfInBounds_toArray, List.set_cons_zero, List.set_cons_succ]
                      refine wpAnyH_takeD (i := 6) (some 143) (v := ?vB6) rfl rfl (by kernel_rfl) (by kernel_rfl) (by kernel_rfl) (fun _ _ _ h => h) (Or.inl ⟨by kernel_rfl, ?hyB6⟩) (by assumption) ?restB6
                      case hyB6 => (intro x hSx; (try dsimp only at hSx); obtain ⟨z0, z1, z2, z3, z4⟩ := HF.out x hSx; go_simp; first | done | with_reducible rfl)
                      try simp only [Act.put, List.setIfInBounds_toArray, List.set_cons_zero, List.set_cons_succ]
                      refine wpAnyH_takeD (i := 7) (some 144) (v := .bool true) rfl rfl (by kernel_rfl) (by kernel_rfl) (by kernel_rfl) (fun _ _ _ h => h) (Or.inl ⟨by kernel_rfl, ?hyB7⟩) (by assumption) ?restB7
                      case hyB7 => (intro x hSx; (try dsimp only at hSx); go_simp; first | done | with_reducible rfl)
                      try simp only [Act.put, List.setIfInBounds_toArray, List.set_cons_zero, List.set_cons_succ]
                      refine wpAnyH_takeD (i := 8) (some 145) (v := ?vB8) rfl rfl (by kernel_rfl) (by kernel_rfl) (by kernel_rfl) (fun _ _ _ h => h) (Or.inl ⟨by kernel_rfl, ?hyB8⟩) (by assumption) ?restB8
                      case hyB8 => (intro x hSx; (try dsimp only at hSx); go_simp; first | done | with_reducible rfl)
                      try simp only [Act.put, List.setIfInBounds_toArray, List.set_cons_zero, List.set_cons_succ]
                      refine wpAnyH_takeD (i := 9) (some 146) (v := ?vB9) rfl rfl (by kernel_rfl) (by kernel_rfl) (by kernel_rfl) (fun _ _ _ h => h) (Or.inl ⟨by kernel_rfl, ?hyB9⟩) (by assumption) ?restB9
                      case hyB9 => (intro x hSx; (try dsimp only at hSx); go_simp; first | done | with_reducible rfl)
                      try simp only [Act.put, List.setIfInBounds_toArray, List.set_cons_zero, List.set_cons_succ]
                      refine wpAnyH_takeD (i := 10) (some 147) (v := ?vB10) rfl rfl (by kernel_rfl) (by kernel_rfl) (by kernel_rfl) (fun _ _ _ h => h) (Or.inl ⟨by kernel_rfl, ?hyB10⟩) (by assumption) ?restB10
                      case hyB10 => (intro x hSx; (try dsimp only at hSx); obtain ⟨z0, z1, z2, z3, z4⟩ := HF.out x hSx; go_simp; first | done | with_reducible rfl)
                      try simp only [Act.put, List.setIfInBounds_toArray, List.set_cons_zero, List.set_cons_succ]
                      refine wpAnyH_takeD (i := 11) (some 148) (v := ?vB11) rfl rfl (by kernel_rfl) (by kernel_rfl) (by kernel_rfl) (fun _ _ _ h => h) (Or.inl ⟨by kernel_rfl, ?hyB11⟩) (by assumption) ?restB11
                      case hyB11 => (intro x hSx; (try dsimp only at hSx); go_simp; first | done | with_reducible rfl)
                      try simp only [Act.put, List.setIfInBounds_toArray, List.set_cons_zero, List.set_cons_succ]
                      refine wpAnyH_takeD (i := 12) (some 149) (v := undef) rfl rfl (by kernel_rfl) (by kernel_rfl) (by kernel_rfl) (fun _ _ _ h => h) (Or.inr ⟨by kernel_rfl, rfl⟩) (by assumption) ?_
                      try simp only [Act.put, List.setIfInBounds_toArray, List.set_cons_zero, List.set_cons_succ]
                      refine wpAnyH_takeD (i := 13) (some 150) (v := undef) rfl rfl (by kernel_rfl) (by kernel_rfl) (by kernel_rfl) (fun _ _ _ h => h) (Or.inr ⟨by kernel_rfl, rfl⟩) (by assumption) ?_
                      try simp only [Act.put, List.setIfInBounds_toArray, List.set_cons_zero, List.set_cons_succ]
                      refine wpAnyH_takeD (i := 14) (some 151) (v := undef) rfl rfl (by kernel_rfl) (by kernel_rfl) (by kernel_rfl) (fun _ _ _ h => h) (Or.inr ⟨by kernel_rfl, rfl⟩) (by assumption) ?_
                      try simp only [Act.put, List.setIfInBounds_toArray, List.set_cons_zero, List.set_cons_succ]
                      refine wpAnyH_takeD (i := 15) (some 152) (v := undef) rfl rfl (by kernel_rfl) (by kernel_rfl) (by kernel_rfl) (fun _ _ _ h => h) (Or.inr ⟨by kernel_rfl, rfl⟩) (by assumption) ?_
                      try simp only [Act.put, List.setIfInBounds_toArray, List.set_cons_zero, List.set_cons_succ]
                      refine wpAnyH_takeD (i := 16) (some 153) (v := undef) rfl rfl (by kernel_rfl) (by kernel_rfl) (by kernel_rfl) (fun _ _ _ h => h) (Or.inr ⟨by kernel_rfl, rfl⟩) (by assumption) ?_
                      try simp only [Act.put, List.setIfInBounds_toArray, List.set_cons_zero, List.set_cons_succ]
                      refine wpAnyH_takeD (i := 17) (some 154) (v := undef) rfl rfl (by kernel_rfl) (by kernel_rfl) (by kernel_rfl) (fun _ _ _ h => h) (Or.inr ⟨by kernel_rfl, rfl⟩) (by assumption) ?_
                      try simp only [Act.put, List.setIfInBounds_toArray, List.set_cons_zero, List.set_cons_succ]
                      refine wpAnyH_takeD (i := 18) (some 155) (v := undef) rfl rfl (by kernel_rfl) (by kernel_rfl) (by kernel_rfl) (fun _ _ _ h => h) (Or.inr ⟨by kernel_rfl, rfl⟩) (by assumption) ?_
                      try simp only [Act.put, List.setIfInBounds_toArray, List.set_cons_zero, List.set_cons_succ]
                      refine wpAnyH_takeD (i := 19) (some 156) (v := undef) rfl rfl (by kernel_rfl) (by kernel_rfl) (by kernel_rfl) (fun _ _ _ h => h) (Or.inr ⟨by kernel_rfl, rfl⟩) (by assumption) ?_
                      try simp only [Act.put, List.setIfInBounds_toArray, List.set_cons_zero, List.set_cons_succ]
                      refine wpAnyH_takeD (i := 20) (some 157) (v := ?vB20) rfl rfl (by kernel_rfl) (by kernel_rfl) (by kernel_rfl) (fun _ _ _ h => h) (Or.inl ⟨by kernel_rfl, ?hyB20⟩) (by assumption) ?restB20
                      case hyB20 => (intro x hSx; (try dsimp only at hSx); go_simp; first | done | with_reducible rfl)
                      try simp only [Act.put, List.setIfInBounds_toArray, List.set_cons_zero, List.set_cons_succ]
                      refine wpAnyH_takeD (i := 21) (some 158) (v := ?vB21) rfl rfl (by kernel_rfl) (by kernel_rfl) (by kernel_rfl) (fun _ _ _ h => h) (Or.inl ⟨by kernel_rfl, ?hyB21⟩) (by assumption) ?restB21
                      case hyB21 => (intro x hSx; (try dsimp only at hSx); go_simp; first | done | with_reducible rfl)
                      try simp only [Act.put, List.setIfInBounds_toArray, List.set_cons_zero, List.set_cons_succ]
                      refine wpAnyH_takeD (i := 22) (some 21) (v := ?vB22) rfl rfl (by kernel_rfl) (by kernel_rfl) (by kernel_rfl) (fun _ _ _ h => h) (Or.inl ⟨by kernel_rfl, ?hyB22⟩) (by assumption) ?restB22
                      case hyB22 => (intro x hSx; (try dsimp only at hSx); go_simp; first | done | with_reducible rfl)
                      try simp only [Act.put, List.setIfInBounds_toArray, List.set_cons_zero, List.set_cons_succ]
                      refine wpAnyH_done (by kernel_rfl) ?_ _
                      have HIN : Hid (inSp f t true pk = true) := by show _ = _; unfold inSp; rw [hlt]; rfl
                      have hbB := hb.out.trans (hHeldB.mono hb.out.size)
                      have hgn : ga < wr.drew.heap.size := hgs
                      obtain ⟨u0, u1, _, _, _⟩ := HF.out _ hHeldB
                      clear HF hHeldB
                      generalize wr.drew = ws at *
                      have hk3 := HFA.out HIN.out
                      have hk4 : k2 < (tellP f t true false R).length := (List.getElem?_eq_some_iff.1 hk3).1
                      have hk5 : (tellP f t true false R)[k2] = (pk, pv) := (List.getElem?_eq_some_iff.1 hk3).2
                      have hk6 : k2 < nl := by rw [Hnl.out]; exact hk4
                      obtain ⟨kb, hkb⟩ : ∃ kb, kb = nl - 1 - k2 := ⟨_, rfl⟩
                      have hkb2 : kb < nl := by omega
                      have hkbi : (kb : Int) = (nl : Int) - 1 - (k2 : Int) := by omega
                      have hrv : (tellP f t true true R)[kb]? = some (pk, pv) := by
                        have e1 : tellP f t true true R = (tellP f t true false R).reverse := rfl
                        rw [e1, List.getElem?_reverse (by rw [← Hnl.out]; exact hkb2), ← Hnl.out, show nl - 1 - kb = k2 by omega]
                        exact hk3
                      have hk7 : kb < (tellP f t true true R).length := (List.getElem?_eq_some_iff.1 hrv).1
                      have hk8 : (tellP f t true true R)[kb] = (pk, pv) := (List.getElem?_eq_some_iff.1 hrv).2
                      obtain ⟨gl, cc2, _, hgl, q4, patl⟩ := PRow.at (HR2i.out.old hbB) (by omega)
                      obtain ⟨gb, cc3, _, hgb, q7, patb⟩ := PRow.at (HR3i.out.old hbB) (by omega)
                      obtain ⟨l0, l1⟩ := patl k2 hk4
                      obtain ⟨m0, m1⟩ := patb kb hk7
                      rw [hk5] at l0 l1
                      rw [hk8] at m0 m1
                      dsimp only at l0 l1 m0 m1
                      injection q4 with q4 q5 q6
                      injection q7 with q7 q8 q9
                      subst q4 q7
                      clear q5 q6 q8 q9 patl patb hk3 hk4 hk5 hk7 hk8 hrv
                      have HK3 : Hid (k2 + 1 = ((R.take (i2 + 1)).filter (fun x => inSp f t true x.1)).length) := by
                        show _ = _
                        rw [HTK.out, HIN.out, if_pos rfl, List.length_append, ← HK2.out]
                        rfl
                      have HF2 : Hid (∀ x, Below ws.heap.size ws x → x.cell? ⟨ga, i2 * 2, none⟩ = some (.string pk) ∧ x.cell? ⟨ga, i2 * 2 + 1, none⟩ = some (.string pv) ∧ x.cell? ⟨gl, k2 * 2, none⟩ = some (.string pk) ∧ x.cell? ⟨gl, k2 * 2 + 1, none⟩ = some (.string pv) ∧ x.cell? ⟨gb, kb * 2, none⟩ = some (.string pk) ∧ x.cell? ⟨gb, kb * 2 + 1, none⟩ = some (.string pv)) := fun x hx =>
                        ⟨(hx.cell (p := ⟨ga, _, none⟩) hgn).trans u0, (hx.cell (p := ⟨ga, _, none⟩) hgn).trans u1, (hx.cell (p := ⟨gl, _, none⟩) hgl).trans l0, (hx.cell (p := ⟨gl, _, none⟩) hgl).trans l1, (hx.cell (p := ⟨gb, _, none⟩) hgb).trans m0, (hx.cell (p := ⟨gb, _, none⟩) hgb).trans m1⟩
                      have hkl : (k2 : Int) < (nl : Int) := by omega
                      have hkn : ¬ (nl : Int) ≤ (k2 : Int) := by omega
                      have hkbl : (kb : Int) < (nl : Int) := by omega
                      have hw1 : IntKind.i64.wrap ((nl : Int) - 1) = (nl : Int) - 1 := IntWalk.i64_in _ (by omega)
                      have hw2 : IntKind.i64.wrap ((nl : Int) - 1 - (k2 : Int)) = (kb : Int) := by rw [IntWalk.i64_in _ (by omega), hkbi]
                      have Hkb : Hid (kb = nl - 1 - k2) := hkb
                      clear u0 u1 l0 l1 m0 m1 hkb hkbi
                      go_upto_region 23 with fail
                      refine wp_region_held_drew (S := fun x => Below ws.heap.size ws x) (by kernel_rfl) ((Below.refl _ _).drew) (fun hHeldBz => ?_)
                      refine wpAnyH_takeD (i := 0) (some 160) (v := ?vBz0) rfl rfl (by kernel_rfl) (by kernel_rfl) (by kernel_rfl) (fun _ _ _ h => h) (Or.inl ⟨by kernel_rfl, ?hyBz0⟩) (by assumption) ?restBz0
                      case hyBz0 => (intro x hSx; (try dsimp only at hSx); go_simp; first | done | with_reducible rfl)
                      try simp only [Act.put, List.setIfInBounds_toArray, List.set_cons_zero, List.set_cons_succ]
                      refine wpAnyH_takeD (i := 1) (some 161) (v := ?vBz1) rfl rfl (by kernel_rfl) (by kernel_rfl) (by kernel_rfl) (fun _ _ _ h => h) (Or.inl ⟨by kernel_rfl, ?hyBz1⟩) (by assumption) ?restBz1
                      case hyBz1 => (intro x hSx; (try dsimp only at hSx); go_simp; first | done | with_reducible rfl)
                      try simp only [Act.put, List.setIfInBounds_toArray, List.set_cons_zero, List.set_cons_succ]
                      refine wpAnyH_takeD (i := 2) (some 162) (v := ?vBz2) rfl rfl (by kernel_rfl) (by kernel_rfl) (by kernel_rfl) (fun _ _ _ h => h) (Or.inl ⟨by kernel_rfl, ?hyBz2⟩) (by assumption) ?restBz2
                      case hyBz2 => (intro x hSx; (try dsimp only at hSx); go_simp; first | done | with_reducible rfl)
                      try simp only [Act.put, List.setIfInBounds_toArray, List.set_cons_zero, List.set_cons_succ]
                      refine wpAnyH_takeD (i := 3) (some 163) (v := .bool false) rfl rfl (by kernel_rfl) (by kernel_rfl) (by kernel_rfl) (fun _ _ _ h => h) (Or.inl ⟨by kernel_rfl, ?hyBz3⟩) (by assumption) ?restBz3
                      case hyBz3 => (intro x hSx; (try dsimp only at hSx); go_simp; first | done | with_reducible rfl)
                      try simp only [Act.put, List.setIfInBounds_toArray, List.set_cons_zero, List.set_cons_succ]
                      refine wpAnyH_takeD (i := 4) (some 164) (v := ?vBz4) rfl rfl (by kernel_rfl) (by kernel_rfl) (by kernel_rfl) (fun _ _ _ h => h) (Or.inl ⟨by kernel_rfl, ?hyBz4⟩) (by assumption) ?restBz4
                      case hyBz4 => (intro x hSx; (try dsimp only at hSx); go_simp; first | done | with_reducible rfl)
                      try simp only [Act.put, List.setIfInBounds_toArray, List.set_cons_zero, List.set_cons_succ]
                      refine wpAnyH_takeD (i := 5) (some 165) (v := ?vBz5) rfl rfl (by kernel_rfl) (by kernel_rfl) (by kernel_rfl) (fun _ _ _ h => h) (Or.inl ⟨by kernel_rfl, ?hyBz5⟩) (by assumption) ?restBz5
                      case hyBz5 => (intro x hSx; (try dsimp only at hSx); go_simp; first | done | with_reducible rfl)
                      try simp only [Act.put, List.setIfInBounds_toArray, List.set_cons_zero, List.set_cons_succ]
                      refine wpAnyH_takeD (i := 6) (some 166) (v := ?vBz6) rfl rfl (by kernel_rfl) (by kernel_rfl) (by kernel_rfl) (fun _ _ _ h => h) (Or.inl ⟨by kernel_rfl, ?hyBz6⟩) (by assumption) ?restBz6
                      case hyBz6 => (intro x hSx; (try dsimp only at hSx); go_simp; first | done | with_reducible rfl)
                      try simp only [Act.put, List.setIfInBounds_toArray, List.set_cons_zero, List.set_cons_succ]
                      refine wpAnyH_takeD (i := 7) (some 167) (v := ?vBz7) rfl rfl (by kernel_rfl) (by kernel_rfl) (by kernel_rfl) (fun _ _ _ h => h) (Or.inl ⟨by kernel_rfl, ?hyBz7⟩) (by assumption) ?restBz7
                      case hyBz7 => (intro x hSx; (try dsimp only at hSx); go_simp; first | done | with_reducible rfl)
                      try simp only [Act.put, List.setIfInBounds_toArray, List.set_cons_zero, List.set_cons_succ]
                      refine wpAnyH_takeD (i := 8) (some 168) (v := ?vBz8) rfl rfl (by kernel_rfl) (by kernel_rfl) (by kernel_rfl) (fun _ _ _ h => h) (Or.inl ⟨by kernel_rfl, ?hyBz8⟩) (by assumption) ?restBz8
                      case hyBz8 => (intro x hSx; (try dsimp only at hSx); obtain ⟨z0, z1, z2, z3, z4, z5⟩ := HF2.out x hSx; go_simp; first | done | with_reducible rfl)
                      try simp only [Act.put, List.setIfInBounds_toArray, List.set_cons_zero, List.set_cons_succ]
                      refine wpAnyH_takeD (i := 9) (some 169) (v := ?vBz9) rfl rfl (by kernel_rfl) (by kernel_rfl) (by kernel_rfl) (fun _ _ _ h => h) (Or.inl ⟨by kernel_rfl, ?hyBz9⟩) (by assumption) ?restBz9
                      case hyBz9 => (intro x hSx; (try dsimp only at hSx); go_simp; first | done | with_reducible rfl)
                      try simp only [Act.put, List.setIfInBounds_toArray, List.set_cons_zero, List.set_cons_succ]
                      refine wpAnyH_takeD (i := 10) (some 170) (v := ?vBz10) rfl rfl (by kernel_rfl) (by kernel_rfl) (by kernel_rfl) (fun _ _ _ h => h) (Or.inl ⟨by kernel_rfl, ?hyBz10⟩) (by assumption) ?restBz10
                      case hyBz10 => (intro x hSx; (try dsimp only at hSx); go_simp; first | done | with_reducible rfl)
                      try simp only [Act.put, List.setIfInBounds_toArray, List.set_cons_zero, List.set_cons_succ]
                      refine wpAnyH_takeD (i := 11) (some 171) (v := ?vBz11) rfl rfl (by kernel_rfl) (by kernel_rfl) (by kernel_rfl) (fun _ _ _ h => h) (Or.inl ⟨by kernel_rfl, ?hyBz11⟩) (by assumption) ?restBz11
                      case hyBz11 => (intro x hSx; (try dsimp only at hSx); go_simp; first | done | with_reducible rfl)
                      try simp only [Act.put, List.setIfInBounds_toArray, List.set_cons_zero, List.set_cons_succ]
                      refine wpAnyH_takeD (i := 12) (some 172) (v := ?vBz12) rfl rfl (by kernel_rfl) (by kernel_rfl) (by kernel_rfl) (fun _ _ _ h => h) (Or.inl ⟨by kernel_rfl, ?hyBz12⟩) (by assumption) ?restBz12
                      case hyBz12 => (intro x hSx; (try dsimp only at hSx); obtain ⟨z0, z1, z2, z3, z4, z5⟩ := HF2.out x hSx; go_simp; first | done | with_reducible rfl)
                      try simp only [Act.put, List.setIfInBounds_toArray, List.set_cons_zero, List.set_cons_succ]
                      refine wpAnyH_takeD (i := 13) (some 173) (v := .bool false) rfl rfl (by kernel_rfl) (by kernel_rfl) (by kernel_rfl) (fun _ _ _ h => h) (Or.inl ⟨by kernel_rfl, ?hyBz13⟩) (by assumption) ?restBz13
                      case hyBz13 => (intro x hSx; (try dsimp only at hSx); go_simp; first | done | with_reducible rfl)
                      try simp only [Act.put, List.setIfInBounds_toArray, List.set_cons_zero, List.set_cons_succ]
                      refine wpAnyH_takeD (i := 14) (some 174) (v := ?vBz14) rfl rfl (by kernel_rfl) (by kernel_rfl) (by kernel_rfl) (fun _ _ _ h => h) (Or.inl ⟨by kernel_rfl, ?hyBz14⟩) (by assumption) ?restBz14
                      case hyBz14 => (intro x hSx; (try dsimp only at hSx); go_simp; first | done | with_reducible rfl)
                      try simp only [Act.put, List.setIfInBounds_toArray, List.set_cons_zero, List.set_cons_succ]
                      refine wpAnyH_takeD (i := 15) (some 175) (v := ?vBz15) rfl rfl (by kernel_rfl) (by kernel_rfl) (by kernel_rfl) (fun _ _ _ h => h) (Or.inl ⟨by kernel_rfl, ?hyBz15⟩) (by assumption) ?restBz15
                      case hyBz15 => (intro x hSx; (try dsimp only at hSx); go_simp; first | done | with_reducible rfl)
                      try simp only [Act.put, List.setIfInBounds_toArray, List.set_cons_zero, List.set_cons_succ]
                      refine wpAnyH_takeD (i := 16) (some 176) (v := ?vBz16) rfl rfl (by kernel_rfl) (by kernel_rfl) (by kernel_rfl) (fun _ _ _ h => h) (Or.inl ⟨by kernel_rfl, ?hyBz16⟩) (by assumption) ?restBz16
                      case hyBz16 => (intro x hSx; (try dsimp only at hSx); go_simp; first | done | with_reducible rfl)
                      try simp only [Act.put, List.setIfInBounds_toArray, List.set_cons_zero, List.set_cons_succ]
                      refine wpAnyH_takeD (i := 17) (some 177) (v := ?vBz17) rfl rfl (by kernel_rfl) (by kernel_rfl) (by kernel_rfl) (fun _ _ _ h => h) (Or.inl ⟨by kernel_rfl, ?hyBz17⟩) (by assumption) ?restBz17
                      case hyBz17 => (intro x hSx; (try dsimp only at hSx); go_simp; first | done | with_reducible rfl)
                      try simp only [Act.put, List.setIfInBounds_toArray, List.set_cons_zero, List.set_cons_succ]
                      refine wpAnyH_takeD (i := 18) (some 178) (v := ?vBz18) rfl rfl (by kernel_rfl) (by kernel_rfl) (by kernel_rfl) (fun _ _ _ h => h) (Or.inl ⟨by kernel_rfl, ?hyBz18⟩) (by assumption) ?restBz18
                      case hyBz18 => (intro x hSx; (try dsimp only at hSx); go_simp; first | done | with_reducible rfl)
                      try simp only [Act.put, List.setIfInBounds_toArray, List.set_cons_zero, List.set_cons_succ]
                      refine wpAnyH_takeD (i := 19) (some 179) (v := .int .i64 ((nl : Int) - 1)) rfl rfl (by kernel_rfl) (by kernel_rfl) (by kernel_rfl) (fun _ _ _ h => h) (Or.inl ⟨by kernel_rfl, ?hyBz19⟩) (by assumption) ?restBz19
                      case hyBz19 => (intro x hSx; (try dsimp only at hSx); go_simp; first | done | with_reducible rfl)
                      try simp only [Act.put, List.setIfInBounds_toArray, List.set_cons_zero, List.set_cons_succ]
                      refine wpAnyH_takeD (i := 20) (some 180) (v := ?vBz20) rfl rfl (by kernel_rfl) (by kernel_rfl) (by kernel_rfl) (fun _ _ _ h => h) (Or.inl ⟨by kernel_rfl, ?hyBz20⟩) (by assumption) ?restBz20
                      case hyBz20 => (intro x hSx; (try dsimp only at hSx); go_simp; first | done | with_reducible rfl)
                      try simp only [Act.put, List.setIfInBounds_toArray, List.set_cons_zero, List.set_cons_succ]
                      refine wpAnyH_takeD (i := 21) (some 181) (v := .int .i64 (kb : Int)) rfl rfl (by kernel_rfl) (by kernel_rfl) (by kernel_rfl) (fun _ _ _ h => h) (Or.inl ⟨by kernel_rfl, ?hyBz21⟩) (by assumption) ?restBz21
                      case hyBz21 => (intro x hSx; (try dsimp only at hSx); go_simp; first | done | with_reducible rfl)
                      try simp only [Act.put, List.setIfInBounds_toArray, List.set_cons_zero, List.set_cons_succ]
                      refine wpAnyH_takeD (i := 22) (some 182) (v := ?vBz22) rfl rfl (by kernel_rfl) (by kernel_rfl) (by kernel_rfl) (fun _ _ _ h => h) (Or.inl ⟨by kernel_rfl, ?hyBz22⟩) (by assumption) ?restBz22
                      case hyBz22 => (intro x hSx; (try dsimp only at hSx); go_simp; first | done | with_reducible rfl)
                      try simp only [Act.put, List.setIfInBounds_toArray, List.set_cons_zero, List.set_cons_succ]
                      refine wpAnyH_takeD (i := 23) (some 183) (v := ?vBz23) rfl rfl (by kernel_rfl) (by kernel_rfl) (by kernel_rfl) (fun _ _ _ h => h) (Or.inl ⟨by kernel_rfl, ?hyBz23⟩) (by assumption) ?restBz23
                      case hyBz23 => (intro x hSx; (try dsimp only at hSx); obtain ⟨z0, z1, z2, z3, z4, z5⟩ := HF2.out x hSx; go_simp; first | done | with_reducible rfl)
                      try simp only [Act.put, List.setIfInBounds_toArray, List.set_cons_zero, List.set_cons_succ]
                      refine wpAnyH_takeD (i := 24) (some 184) (v := ?vBz24) rfl rfl (by kernel_rfl) (by kernel_rfl) (by kernel_rfl) (fun _ _ _ h => h) (Or.inl ⟨by kernel_rfl, ?hyBz24⟩) (by assumption) ?restBz24
                      case hyBz24 => (intro x hSx; (try dsimp only at hSx); go_simp; first | done | with_reducible rfl)
                      try simp only [Act.put, List.setIfInBounds_toArray, List.set_cons_zero, List.set_cons_succ]
                      refine wpAnyH_takeD (i := 25) (some 185) (v := ?vBz25) rfl rfl (by kernel_rfl) (by kernel_rfl) (by kernel_rfl) (fun _ _ _ h => h) (Or.inl ⟨by kernel_rfl, ?hyBz25⟩) (by assumption) ?restBz25
                      case hyBz25 => (intro x hSx; (try dsimp only at hSx); go_simp; first | done | with_reducible rfl)
                      try simp only [Act.put, List.setIfInBounds_toArray, List.set_cons_zero, List.set_cons_succ]
                      refine wpAnyH_takeD (i := 26) (some 186) (v := ?vBz26) rfl rfl (by kernel_rfl) (by kernel_rfl) (by kernel_rfl) (fun _ _ _ h => h) (Or.inl ⟨by kernel_rfl, ?hyBz26⟩) (by assumption) ?restBz26
                      case hyBz26 => (intro x hSx; (try dsimp only at hSx); go_simp; first | done | with_reducible rfl)
                      try simp only [Act.put, List.setIfInBounds_toArray, List.set_cons_zero, List.set_cons_succ]
                      refine wpAnyH_takeD (i := 27) (some 187) (v := ?vBz27) rfl rfl (by kernel_rfl) (by kernel_rfl) (by kernel_rfl) (fun _ _ _ h => h) (Or.inl ⟨by kernel_rfl, ?hyBz27⟩) (by assumption) ?restBz27
                      case hyBz27 => (intro x hSx; (try dsimp only at hSx); obtain ⟨z0, z1, z2, z3, z4, z5⟩ := HF2.out x hSx; go_simp; first | done | with_reducible rfl)
                      try simp only [Act.put, List.setIfInBounds_toArray, List.set_cons_zero, List.set_cons_succ]
                      refine wpAnyH_takeD (i := 28) (some 188) (v := .bool false) rfl rfl (by kernel_rfl) (by kernel_rfl) (by kernel_rfl) (fun _ _ _ h => h) (Or.inl ⟨by kernel_rfl, ?hyBz28⟩) (by assumption) ?restBz28
                      case hyBz28 => (intro x hSx; (try dsimp only at hSx); go_simp; first | done | with_reducible rfl)
                      try simp only [Act.put, List.setIfInBounds_toArray, List.set_cons_zero, List.set_cons_succ]
                      refine wpAnyH_takeD (i := 29) (some 189) (v := ?vBz29) rfl rfl (by kernel_rfl) (by kernel_rfl) (by kernel_rfl) (fun _ _ _ h => h) (Or.inl ⟨by kernel_rfl, ?hyBz29⟩) (by assumption) ?restBz29
                      case hyBz29 => (intro x hSx; (try dsimp only at hSx); go_simp; first | done | with_reducible rfl)
                      try simp only [Act.put, List.setIfInBounds_toArray, List.set_cons_zero, List.set_cons_succ]
                      refine wpAnyH_done (by kernel_rfl) ?_ _
                      clear HF2 hw1 hw2
                      go_wp2
                      go_roundw
                      case rel => exact ⟨i2 + 1, k2 + 1, by omega, by go_num, by go_num, by omega, HK3, hbB.trans (hHeldBz.mono hbB.size)⟩
                      case measure => simp [intOf]; omega
                    | false =>
                      cases hlt2 : lt pk t with
                      | true =>
                        have hl2 : Op.bytesLess pk.toList t.toList = true := hlt2
                        go_upto_region 21 with fail
                        refine wp_region_held_drew (S := fun x => Below wr.heap.size wr x) (by kernel_rfl) ((Below.refl _ _).drew) (fun hHeldC => ?_)
                        refine wpAnyH_takeD (i := 0) (some 137) (v := ?vC0) rfl rfl (by kernel_rfl) (by kernel_rfl) (by kernel_rfl) (fun _ _ _ h => h) (Or.inl ⟨by kernel_rfl, ?hyC0⟩) (by assumption) ?restC0
                        case hyC0 => (intro x hSx; (try dsimp only at hSx); go_simp; first | done | with_reducible rfl)
                        try simp only [Act.put, List.setIfInBounds_toArray, List.set_cons_zero, List.set_cons_succ]
                        refine wpAnyH_takeD (i := 1) (some 138) (v := ?vC1) rfl rfl (by kernel_rfl) (by kernel_rfl) (by kernel_rfl) (fun _ _ _ h => h) (Or.inl ⟨by kernel_rfl, ?hyC1⟩) (by assumption) ?restC1
                        case hyC1 => (intro x hSx; (try dsimp only at hSx); go_simp; first | done | with_reducible rfl)
                        try simp only [Act.put, List.setIfInBounds_toArray, List.set_cons_zero, List.set_cons_succ]
                        refine wpAnyH_takeD (i := 2) (some 139) (v := ?vC2) rfl rfl (by kernel_rfl) (by kernel_rfl) (by kernel_rfl) (fun _ _ _ h => h) (Or.inl ⟨by kernel_rfl, ?hyC2⟩) (by assumption) ?restC2
                        case hyC2 => (intro x hSx; (try dsimp only at hSx); go_simp; first | done | with_reducible rfl)
                        try simp only [Act.put, List.setIfInBounds_toArray, List.set_cons_zero, List.set_cons_succ]
                        refine wpAnyH_takeD (i := 3) (some 140) (v := ?vC3) rfl rfl (by kernel_rfl) (by kernel_rfl) (by kernel_rfl) (fun _ _ _ h => h) (Or.inl ⟨by kernel_rfl, ?hyC3⟩) (by assumption) ?restC3
                        case hyC3 => (intro x hSx; (try dsimp only at hSx); go_simp; first | done | with_reducible rfl)
                        try simp only [Act.put, List.setIfInBounds_toArray, List.set_cons_zero, List.set_cons_succ]
                        refine wpAnyH_takeD (i := 4) (some 141) (v := ?vC4) rfl rfl (by kernel_rfl) (by kernel_rfl) (by kernel_rfl) (fun _ _ _ h => h) (Or.inl ⟨by kernel_rfl, ?hyC4⟩) (by assumption) ?restC4
                        case hyC4 => (intro x hSx; (try dsimp only at hSx); obtain ⟨z0, z1, z2, z3, z4⟩ := HF.out x hSx; go_simp; first | done | with_reducible rfl)
                        try simp only [Act.put, List.setIfInBounds_toArray, List.set_cons_zero, List.set_cons_succ]
                        refine wpAnyH_takeD (i := 5) (some 142) (v := ?vC5) rfl rfl (by kernel_rfl) (by kernel_rfl) (by kernel_rfl) (fun _ _ _ h => h) (Or.inl ⟨by kernel_rfl, ?hyC5⟩) (by assumption) ?restC5
                        case hyC5 => (intro x hSx; (try dsimp only at hSx); go_simp; first | done | with_reducible rfl)
                        try simp only [Act.put, List.setIfInBounds_toArray, List.set_cons_zero, List.set_cons_succ]
                        refine wpAnyH_takeD (i := 6) (some 143) (v := ?vC6) rfl rfl (by kernel_rfl) (by kernel_rfl) (by kernel_rfl) (fun _ _ _ h => h) (Or.inl ⟨by kernel_rfl, ?hyC6⟩) (by assumption) ?restC6
                        case hyC6 => (intro x hSx; (try dsimp only at hSx); obtain ⟨z0, z1, z2, z3, z4⟩ := HF.out x hSx; go_simp; first | done | with_reducible rfl)
                        try simp only [Act.put, List.setIfInBounds_toArray, List.set_cons_zero, List.set_cons_succ]
                        refine wpAnyH_takeD (i := 7) (some 144) (v := .bool true) rfl rfl (by kernel_rfl) (by kernel_rfl) (by kernel_rfl) (fun _ _ _ h => h) (Or.inl ⟨by kernel_rfl, ?hyC7⟩) (by assumption) ?restC7
                        case hyC7 => (intro x hSx; (try dsimp only at hSx); go_simp; first | done | with_reducible rfl)
                        try simp only [Act.put, List.setIfInBounds_toArray, List.set_cons_zero, List.set_cons_succ]
                        refine wpAnyH_takeD (i := 8) (some 145) (v := ?vC8) rfl rfl (by kernel_rfl) (by kernel_rfl) (by kernel_rfl) (fun _ _ _ h => h) (Or.inl ⟨by kernel_rfl, ?hyC8⟩) (by assumption) ?restC8
                        case hyC8 => (intro x hSx; (try dsimp only at hSx); go_simp; first | done | with_reducible rfl)
                        try simp only [Act.put, List.setIfInBounds_toArray, List.set_cons_zero, List.set_cons_succ]
                        refine wpAnyH_takeD (i := 9) (some 146) (v := ?vC9) rfl rfl (by kernel_rfl) (by kernel_rfl) (by kernel_rfl) (fun _ _ _ h => h) (Or.inl ⟨by kernel_rfl, ?hyC9⟩) (by assumption) ?restC9
                        case hyC9 => (intro x hSx; (try dsimp only at hSx); go_simp; first | done | with_reducible rfl)
                        try simp only [Act.put, List.setIfInBounds_toArray, List.set_cons_zero, List.set_cons_succ]
                        refine wpAnyH_takeD (i := 10) (some 147) (v := ?vC10) rfl rfl (by kernel_rfl) (by kernel_rfl) (by kernel_rfl) (fun _ _ _ h => h) (Or.inl ⟨by kernel_rfl, ?hyC10⟩) (by assumption) ?restC10
                        case hyC10 => (intro x hSx; (try dsimp only at hSx); obtain ⟨z0, z1, z2, z3, z4⟩ := HF.out x hSx; go_simp; first | done | with_reducible rfl)
                        try simp only [Act.put, List.setIfInBounds_toArray, List.set_cons_zero, List.set_cons_succ]
                        refine wpAnyH_takeD (i := 11) (some 148) (v := ?vC11) rfl rfl (by kernel_rfl) (by kernel_rfl) (by kernel_rfl) (fun _ _ _ h => h) (Or.inl ⟨by kernel_rfl, ?hyC11⟩) (by assumption) ?restC11
                        case hyC11 => (intro x hSx; (try dsimp only at hSx); go_simp; first | done | with_reducible rfl)
                        try simp only [Act.put, List.setIfInBounds_toArray, List.set_cons_zero, List.set_cons_succ]
                        refine wpAnyH_takeD (i := 12) (some 149) (v := ?vC12) rfl rfl (by kernel_rfl) (by kernel_rfl) (by kernel_rfl) (fun _ _ _ h => h) (Or.inl ⟨by kernel_rfl, ?hyC12⟩) (by assumption) ?restC12
                        case hyC12 => (intro x hSx; (try dsimp only at hSx); go_simp; first | done | with_reducible rfl)
                        try simp only [Act.put, List.setIfInBounds_toArray, List.set_cons_zero, List.set_cons_succ]
                        refine wpAnyH_takeD (i := 13) (some 150) (v := ?vC13) rfl rfl (by kernel_rfl) (by kernel_rfl) (by kernel_rfl) (fun _ _ _ h => h) (Or.inl ⟨by kernel_rfl, ?hyC13⟩) (by assumption) ?restC13
                        case hyC13 => (intro x hSx; (try dsimp only at hSx); go_simp; first | done | with_reducible rfl)
                        try simp only [Act.put, List.setIfInBounds_toArray, List.set_cons_zero, List.set_cons_succ]
                        refine wpAnyH_takeD (i := 14) (some 151) (v := ?vC14) rfl rfl (by kernel_rfl) (by kernel_rfl) (by kernel_rfl) (fun _ _ _ h => h) (Or.inl ⟨by kernel_rfl, ?hyC14⟩) (by assumption) ?restC14
                        case hyC14 => (intro x hSx; (try dsimp only at hSx); go_simp; first | done | with_reducible rfl)
                        try simp only [Act.put, List.setIfInBounds_toArray, List.set_cons_zero, List.set_cons_succ]
                        refine wpAnyH_takeD (i := 15) (some 152) (v := ?vC15) rfl rfl (by kernel_rfl) (by kernel_rfl) (by kernel_rfl) (fun _ _ _ h => h) (Or.inl ⟨by kernel_rfl, ?hyC15⟩) (by assumption) ?restC15
                        case hyC15 => (intro x hSx; (try dsimp only at hSx); go_simp; first | done | with_reducible rfl)
                        try simp only [Act.put, List.setIfInBounds_toArray, List.set_cons_zero, List.set_cons_succ]
                        refine wpAnyH_takeD (i := 16) (some 153) (v := ?vC16) rfl rfl (by kernel_rfl) (by kernel_rfl) (by kernel_rfl) (fun _ _ _ h => h) (Or.inl ⟨by kernel_rfl, ?hyC16⟩) (by assumption) ?restC16
                        case hyC16 => (intro x hSx; (try dsimp only at hSx); obtain ⟨z0, z1, z2, z3, z4⟩ := HF.out x hSx; go_simp; first | done | with_reducible rfl)
                        try simp only [Act.put, List.setIfInBounds_toArray, List.set_cons_zero, List.set_cons_succ]
                        refine wpAnyH_takeD (i := 17) (some 154) (v := ?vC17) rfl rfl (by kernel_rfl) (by kernel_rfl) (by kernel_rfl) (fun _ _ _ h => h) (Or.inl ⟨by kernel_rfl, ?hyC17⟩) (by assumption) ?restC17
                        case hyC17 => (intro x hSx; (try dsimp only at hSx); go_simp; first | done | with_reducible rfl)
                        try simp only [Act.put, List.setIfInBounds_toArray, List.set_cons_zero, List.set_cons_succ]
                        refine wpAnyH_takeD (i := 18) (some 155) (v := ?vC18) rfl rfl (by kernel_rfl) (by kernel_rfl) (by kernel_rfl) (fun _ _ _ h => h) (Or.inl ⟨by kernel_rfl, ?hyC18⟩) (by assumption) ?restC18
                        case hyC18 => (intro x hSx; (try dsimp only at hSx); obtain ⟨z0, z1, z2, z3, z4⟩ := HF.out x hSx; go_simp; first | done | with_reducible rfl)
                        try simp only [Act.put, List.setIfInBounds_toArray, List.set_cons_zero, List.set_cons_succ]
                        refine wpAnyH_takeD (i := 19) (some 156) (v := .bool true) rfl rfl (by kernel_rfl) (by kernel_rfl) (by kernel_rfl) (fun _ _ _ h => h) (Or.inl ⟨by kernel_rfl, ?hyC19⟩) (by assumption) ?restC19
                        case hyC19 => (intro x hSx; (try dsimp only at hSx); go_simp; first | done | with_reducible rfl)
                        try simp only [Act.put, List.setIfInBounds_toArray, List.set_cons_zero, List.set_cons_succ]
                        refine wpAnyH_takeD (i := 20) (some 157) (v := ?vC20) rfl rfl (by kernel_rfl) (by kernel_rfl) (by kernel_rfl) (fun _ _ _ h => h) (Or.inl ⟨by kernel_rfl, ?hyC20⟩) (by assumption) ?restC20
                        case hyC20 => (intro x hSx; (try dsimp only at hSx); go_simp; first | done | with_reducible rfl)
                        try simp only [Act.put, List.setIfInBounds_toArray, List.set_cons_zero, List.set_cons_succ]
                        refine wpAnyH_takeD (i := 21) (some 158) (v := ?vC21) rfl rfl (by kernel_rfl) (by kernel_rfl) (by kernel_rfl) (fun _ _ _ h => h) (Or.inl ⟨by kernel_rfl, ?hyC21⟩) (by assumption) ?restC21
                        case hyC21 => (intro x hSx; (try dsimp only at hSx); go_simp; first | done | with_reducible rfl)
                        try simp only [Act.put, List.setIfInBounds_toArray, List.set_cons_zero, List.set_cons_succ]
                        refine wpAnyH_takeD (i := 22) (some 21) (v := ?vC22) rfl rfl (by kernel_rfl) (by kernel_rfl) (by kernel_rfl) (fun _ _ _ h => h) (Or.inl ⟨by kernel_rfl, ?hyC22⟩) (by assumption) ?restC22
                        case hyC22 => (intro x hSx; (try dsimp only at hSx); go_simp; first | done | with_reducible rfl)
                        try simp only [Act.put, List.setIfInBounds_toArray, List.set_cons_zero, List.set_cons_succ]
                        refine wpAnyH_done (by kernel_rfl) ?_ _
                        have HIN : Hid (inSp f t false pk = true) := by show _ = _; unfold inSp; rw [hlt, hlt2]; rfl
                        have hbC := hb.out.trans (hHeldC.mono hb.out.size)
                        have hgn : ga < wr.drew.heap.size := hgs
                        obtain ⟨u0, u1, _, _, _⟩ := HF.out _ hHeldC
                        clear HF hHeldC
                        generalize wr.drew = ws at *
                        have hk3 := HFA.out HIN.out
                        have hk4 : k2 < (tellP f t false false R).length := (List.getElem?_eq_some_iff.1 hk3).1
                        have hk5 : (tellP f t false false R)[k2] = (pk, pv) := (List.getElem?_eq_some_iff.1 hk3).2
                        have hk6 : k2 < nl := by rw [Hnl.out]; exact hk4
                        obtain ⟨kb, hkb⟩ : ∃ kb, kb = nl - 1 - k2 := ⟨_, rfl⟩
                        have hkb2 : kb < nl := by omega
                        have hkbi : (kb : Int) = (nl : Int) - 1 - (k2 : Int) := by omega
                        have hrv : (tellP f t false true R)[kb]? = some (pk, pv) := by
                          have e1 : tellP f t false true R = (tellP f t false false R).reverse := rfl
                          rw [e1, List.getElem?_reverse (by rw [← Hnl.out]; exact hkb2), ← Hnl.out, show nl - 1 - kb = k2 by omega]
                          exact hk3
                        have hk7 : kb < (tellP f t false true R).length := (List.getElem?_eq_some_iff.1 hrv).1
                        have hk8 : (tellP f t false true R)[kb] = (pk, pv) := (List.getElem?_eq_some_iff.1 hrv).2
                        obtain ⟨gl, cc2, _, hgl, q4, patl⟩ := PRow.at (HR2i.out.old hbC) (by omega)
                        obtain ⟨gb, cc3, _, hgb, q7, patb⟩ := PRow.at (HR3i.out.old hbC) (by omega)
                        obtain ⟨l0, l1⟩ := patl k2 hk4
                        obtain ⟨m0, m1⟩ := patb kb hk7
                        rw [hk5] at l0 l1
                        rw [hk8] at m0 m1
                        dsimp only at l0 l1 m0 m1
                        injection q4 with q4 q5 q6
                        injection q7 with q7 q8 q9
                        subst q4 q7
                        clear q5 q6 q8 q9 patl patb hk3 hk4 hk5 hk7 hk8 hrv
                        have HK3 : Hid (k2 + 1 = ((R.take (i2 + 1)).filter (fun x => inSp f t false x.1)).length) := by
                          show _ = _
                          rw [HTK.out, HIN.out, if_pos rfl, List.length_append, ← HK2.out]
                          rfl
                        have HF2 : Hid (∀ x, Below ws.heap.size ws x → x.cell? ⟨ga, i2 * 2, none⟩ = some (.string pk) ∧ x.cell? ⟨ga, i2 * 2 + 1, none⟩ = some (.string pv) ∧ x.cell? ⟨gl, k2 * 2, none⟩ = some (.string pk) ∧ x.cell? ⟨gl, k2 * 2 + 1, none⟩ = some (.string pv) ∧ x.cell? ⟨gb, kb * 2, none⟩ = some (.string pk) ∧ x.cell? ⟨gb, kb * 2 + 1, none⟩ = some (.string pv)) := fun x hx =>
                          ⟨(hx.cell (p := ⟨ga, _, none⟩) hgn).trans u0, (hx.cell (p := ⟨ga, _, none⟩) hgn).trans u1, (hx.cell (p := ⟨gl, _, none⟩) hgl).trans l0, (hx.cell (p := ⟨gl, _, none⟩) hgl).trans l1, (hx.cell (p := ⟨gb, _, none⟩) hgb).trans m0, (hx.cell (p := ⟨gb, _, none⟩) hgb).trans m1⟩
                        have hkl : (k2 : Int) < (nl : Int) := by omega
                        have hkn : ¬ (nl : Int) ≤ (k2 : Int) := by omega
                        have hkbl : (kb : Int) < (nl : Int) := by omega
                        have hw1 : IntKind.i64.wrap ((nl : Int) - 1) = (nl : Int) - 1 := IntWalk.i64_in _ (by omega)
                        have hw2 : IntKind.i64.wrap ((nl : Int) - 1 - (k2 : Int)) = (kb : Int) := by rw [IntWalk.i64_in _ (by omega), hkbi]
                        have Hkb : Hid (kb = nl - 1 - k2) := hkb
                        clear u0 u1 l0 l1 m0 m1 hkb hkbi
                        go_upto_region 23 with fail
                        refine wp_region_held_drew (S := fun x => Below ws.heap.size ws x) (by kernel_rfl) ((Below.refl _ _).drew) (fun hHeldCz => ?_)
                        refine wpAnyH_takeD (i := 0) (some 160) (v := ?vCz0) rfl rfl (by kernel_rfl) (by kernel_rfl) (by kernel_rfl) (fun _ _ _ h => h) (Or.inl ⟨by kernel_rfl, ?hyCz0⟩) (by assumption) ?restCz0
                        case hyCz0 => (intro x hSx; (try dsimp only at hSx); go_simp; first | done | with_reducible rfl)
                        try simp only [Act.put, List.setIfInBounds_toArray, List.set_cons_zero, List.set_cons_succ]
                        refine wpAnyH_takeD (i := 1) (some 161) (v := ?vCz1) rfl rfl (by kernel_rfl) (by kernel_rfl) (by kernel_rfl) (fun _ _ _ h => h) (Or.inl ⟨by kernel_rfl, ?hyCz1⟩) (by assumption) ?restCz1
                        case hyCz1 => (intro x hSx; (try dsimp only at hSx); go_simp; first | done | with_reducible rfl)
                        try simp only [Act.put, List.setIfInBounds_toArray, List.set_cons_zero, List.set_cons_succ]
                        refine wpAnyH_takeD (i := 2) (some 162) (v := ?vCz2) rfl rfl (by kernel_rfl) (by kernel_rfl) (by kernel_rfl) (fun _ _ _ h => h) (Or.inl ⟨by kernel_rfl, ?hyCz2⟩) (by assumption) ?restCz2
                        case hyCz2 => (intro x hSx; (try dsimp only at hSx); go_simp; first | done | with_reducible rfl)
                        try simp only [Act.put, List.setIfInBounds_toArray, List.set_cons_zero, List.set_cons_succ]
                        refine wpAnyH_takeD (i := 3) (some 163) (v := .bool false) rfl rfl (by kernel_rfl) (by kernel_rfl) (by kernel_rfl) (fun _ _ _ h => h) (Or.inl ⟨by kernel_rfl, ?hyCz3⟩) (by assumption) ?restCz3
                        case hyCz3 => (intro x hSx; (try dsimp only at hSx); go_simp; first | done | with_reducible rfl)
                        try simp only [Act.put, List.setIfInBounds_toArray, List.set_cons_zero, List.set_cons_succ]
                        refine wpAnyH_takeD (i := 4) (some 164) (v := ?vCz4) rfl rfl (by kernel_rfl) (by kernel_rfl) (by kernel_rfl) (fun _ _ _ h => h) (Or.inl ⟨by kernel_rfl, ?hyCz4⟩) (by assumption) ?restCz4
                        case hyCz4 => (intro x hSx; (try dsimp only at hSx); go_simp; first | done | with_reducible rfl)
                        try simp only [Act.put, List.setIfInBounds_toArray, List.set_cons_zero, List.set_cons_succ]
                        refine wpAnyH_takeD (i := 5) (some 165) (v := ?vCz5) rfl rfl (by kernel_rfl) (by kernel_rfl) (by kernel_rfl) (fun _ _ _ h => h) (Or.inl ⟨by kernel_rfl, ?hyCz5⟩) (by assumption) ?restCz5
                        case hyCz5 => (intro x hSx; (try dsimp only at hSx); go_simp; first | done | with_reducible rfl)
                        try simp only [Act.put, List.setIfInBounds_toArray, List.set_cons_zero, List.set_cons_succ]
                        refine wpAnyH_takeD (i := 6) (some 166) (v := ?vCz6) rfl rfl (by kernel_rfl) (by kernel_rfl) (by kernel_rfl) (fun _ _ _ h => h) (Or.inl ⟨by kernel_rfl, ?hyCz6⟩) (by assumption) ?restCz6
                        case hyCz6 => (intro x hSx; (try dsimp only at hSx); go_simp; first | done | with_reducible rfl)
                        try simp only [Act.put, List.setIfInBounds_toArray, List.set_cons_zero, List.set_cons_succ]
                        refine wpAnyH_takeD (i := 7) (some 167) (v := ?vCz7) rfl rfl (by kernel_rfl) (by kernel_rfl) (by kernel_rfl) (fun _ _ _ h => h) (Or.inl ⟨by kernel_rfl, ?hyCz7⟩) (by assumption) ?restCz7
                        case hyCz7 => (intro x hSx; (try dsimp only at hSx); go_simp; first | done | with_reducible rfl)
                        try simp only [Act.put, List.setIfInBounds_toArray, List.set_cons_zero, List.set_cons_succ]
                        refine wpAnyH_takeD (i := 8) (some 168) (v := ?vCz8) rfl rfl (by kernel_rfl) (by kernel_rfl) (by kernel_rfl) (fun _ _ _ h => h) (Or.inl ⟨by kernel_rfl, ?hyCz8⟩) (by assumption) ?restCz8
                        case hyCz8 => (intro x hSx; (try dsimp only at hSx); obtain ⟨z0, z1, z2, z3, z4, z5⟩ := HF2.out x hSx; go_simp; first | done | with_reducible rfl)
                        try simp only [Act.put, List.setIfInBounds_toArray, List.set_cons_zero, List.set_cons_succ]
                        refine wpAnyH_takeD (i := 9) (some 169) (v := ?vCz9) rfl rfl (by kernel_rfl) (by kernel_rfl) (by kernel_rfl) (fun _ _ _ h => h) (Or.inl ⟨by kernel_rfl, ?hyCz9⟩) (by assumption) ?restCz9
                        case hyCz9 => (intro x hSx; (try dsimp only at hSx); go_simp; first | done | with_reducible rfl)
                        try simp only [Act.put, List.setIfInBounds_toArray, List.set_cons_zero, List.set_cons_succ]
                        refine wpAnyH_takeD (i := 10) (some 170) (v := ?vCz10) rfl rfl (by kernel_rfl) (by kernel_rfl) (by kernel_rfl) (fun _ _ _ h => h) (Or.inl ⟨by kernel_rfl, ?hyCz10⟩) (by assumption) ?restCz10
                        case hyCz10 => (intro x hSx; (try dsimp only at hSx); go_simp; first | done | with_reducible rfl)
                        try simp only [Act.put, List.setIfInBounds_toArray, List.set_cons_zero, List.set_cons_succ]
                        refine wpAnyH_takeD (i := 11) (some 171) (v := ?vCz11) rfl rfl (by kernel_rfl) (by kernel_rfl) (by kernel_rfl) (fun _ _ _ h => h) (Or.inl ⟨by kernel_rfl, ?hyCz11⟩) (by assumption) ?restCz11
                        case hyCz11 => (intro x hSx; (try dsimp only at hSx); go_simp; first | done | with_reducible rfl)
                        try simp only [Act.put, List.setIfInBounds_toArray, List.set_cons_zero, List.set_cons_succ]
                        refine wpAnyH_takeD (i := 12) (some 172) (v := ?vCz12) rfl rfl (by kernel_rfl) (by kernel_rfl) (by kernel_rfl) (fun _ _ _ h => h) (Or.inl ⟨by kernel_rfl, ?hyCz12⟩) (by assumption) ?restCz12
                        case hyCz12 => (intro x hSx; (try dsimp only at hSx); obtain ⟨z0, z1, z2, z3, z4, z5⟩ := HF2.out x hSx; go_simp; first | done | with_reducible rfl)
                        try simp only [Act.put, List.setIfInBounds_toArray, List.set_cons_zero, List.set_cons_succ]
                        refine wpAnyH_takeD (i := 13) (some 173) (v := .bool false) rfl rfl (by kernel_rfl) (by kernel_rfl) (by kernel_rfl) (fun _ _ _ h => h) (Or.inl ⟨by kernel_rfl, ?hyCz13⟩) (by assumption) ?restCz13
                        case hyCz13 => (intro x hSx; (try dsimp only at hSx); go_simp; first | done | with_reducible rfl)
                        try simp only [Act.put, List.setIfInBounds_toArray, List.set_cons_zero, List.set_cons_succ]
                        refine wpAnyH_takeD (i := 14) (some 174) (v := ?vCz14) rfl rfl (by kernel_rfl) (by kernel_rfl) (by kernel_rfl) (fun _ _ _ h => h) (Or.inl ⟨by kernel_rfl, ?hyCz14⟩) (by assumption) ?restCz14
                        case hyCz14 => (intro x hSx; (try dsimp only at hSx); go_simp; first | done | with_reducible rfl)
                        try simp only [Act.put, List.setIfInBounds_toArray, List.set_cons_zero, List.set_cons_succ]
                        refine wpAnyH_takeD (i := 15) (some 175) (v := ?vCz15) rfl rfl (by kernel_rfl) (by kernel_rfl) (by kernel_rfl) (fun _ _ _ h => h) (Or.inl ⟨by kernel_rfl, ?hyCz15⟩) (by assumption) ?restCz15
                        case hyCz15 => (intro x hSx; (try dsimp only at hSx); go_simp; first | done | with_reducible rfl)
                        try simp only [Act.put, List.setIfInBounds_toArray, List.set_cons_zero, List.set_cons_succ]
                        refine wpAnyH_takeD (i := 16) (some 176) (v := ?vCz16) rfl rfl (by kernel_rfl) (by kernel_rfl) (by kernel_rfl) (fun _ _ _ h => h) (Or.inl ⟨by kernel_rfl, ?hyCz16⟩) (by assumption) ?restCz16
                        case hyCz16 => (intro x hSx; (try dsimp only at hSx); go_simp; first | done | with_reducible rfl)
                        try simp only [Act.put, List.setIfInBounds_toArray, List.set_cons_zero, List.set_cons_succ]
                        refine wpAnyH_takeD (i := 17) (some 177) (v := ?vCz17) rfl rfl (by kernel_rfl) (by kernel_rfl) (by kernel_rfl) (fun _ _ _ h => h) (Or.inl ⟨by kernel_rfl, ?hyCz17⟩) (by assumption) ?restCz17
                        case hyCz17 => (intro x hSx; (try dsimp only at hSx); go_simp; first | done | with_reducible rfl)
                        try simp only [Act.put, List.setIfInBounds_toArray, List.set_cons_zero, List.set_cons_succ]
                        refine wpAnyH_takeD (i := 18) (some 178) (v := ?vCz18) rfl rfl (by kernel_rfl) (by kernel_rfl) (by kernel_rfl) (fun _ _ _ h => h) (Or.inl ⟨by kernel_rfl, ?hyCz18⟩) (by assumption) ?restCz18
                        case hyCz18 => (intro x hSx; (try dsimp only at hSx); go_simp; first | done | with_reducible rfl)
                        try simp only [Act.put, List.setIfInBounds_toArray, List.set_cons_zero, List.set_cons_succ]
                        refine wpAnyH_takeD (i := 19) (some 179) (v := .int .i64 ((nl : Int) - 1)) rfl rfl (by kernel_rfl) (by kernel_rfl) (by kernel_rfl) (fun _ _ _ h => h) (Or.inl ⟨by kernel_rfl, ?hyCz19⟩) (by assumption) ?restCz19
                        case hyCz19 => (intro x hSx; (try dsimp only at hSx); go_simp; first | done | with_reducible rfl)
                        try simp only [Act.put, List.setIfInBounds_toArray, List.set_cons_zero, List.set_cons_succ]
                        refine wpAnyH_takeD (i := 20) (some 180) (v := ?vCz20) rfl rfl (by kernel_rfl) (by kernel_rfl) (by kernel_rfl) (fun _ _ _ h => h) (Or.inl ⟨by kernel_rfl, ?hyCz20⟩) (by assumption) ?restCz20
                        case hyCz20 => (intro x hSx; (try dsimp only at hSx); go_simp; first | done | with_reducible rfl)
                        try simp only [Act.put, List.setIfInBounds_toArray, List.set_cons_zero, List.set_cons_succ]
                        refine wpAnyH_takeD (i := 21) (some 181) (v := .int .i64 (kb : Int)) rfl rfl (by kernel_rfl) (by kernel_rfl) (by kernel_rfl) (fun _ _ _ h => h) (Or.inl ⟨by kernel_rfl, ?hyCz21⟩) (by assumption) ?restCz21
                        case hyCz21 => (intro x hSx; (try dsimp only at hSx); go_simp; first | done | with_reducible rfl)
                        try simp only [Act.put, List.setIfInBounds_toArray, List.set_cons_zero, List.set_cons_succ]
                        refine wpAnyH_takeD (i := 22) (some 182) (v := ?vCz22) rfl rfl (by kernel_rfl) (by kernel_rfl) (by kernel_rfl) (fun _ _ _ h => h) (Or.inl ⟨by kernel_rfl, ?hyCz22⟩) (by assumption) ?restCz22
                        case hyCz22 => (intro x hSx; (try dsimp only at hSx); go_simp; first | done | with_reducible rfl)
                        try simp only [Act.put, List.setIfInBounds_toArray, List.set_cons_zero, List.set_cons_succ]
                        refine wpAnyH_takeD (i := 23) (some 183) (v := ?vCz23) rfl rfl (by kernel_rfl) (by kernel_rfl) (by kernel_rfl) (fun _ _ _ h => h) (Or.inl ⟨by kernel_rfl, ?hyCz23⟩) (by assumption) ?restCz23
                        case hyCz23 => (intro x hSx; (try dsimp only at hSx); obtain ⟨z0, z1, z2, z3, z4, z5⟩ := HF2.out x hSx; go_simp; first | done | with_reducible rfl)
                        try simp only [Act.put, List.setIfInBounds_toArray, List.set_cons_zero, List.set_cons_succ]
                        refine wpAnyH_takeD (i := 24) (some 184) (v := ?vCz24) rfl rfl (by kernel_rfl) (by kernel_rfl) (by kernel_rfl) (fun _ _ _ h => h) (Or.inl ⟨by kernel_rfl, ?hyCz24⟩) (by assumption) ?restCz24
                        case hyCz24 => (intro x hSx; (try dsimp only at hSx); go_simp; first | done | with_reducible rfl)
                        try simp only [Act.put, List.setIfInBounds_toArray, List.set_cons_zero, List.set_cons_succ]
                        refine wpAnyH_takeD (i := 25) (some 185) (v := ?vCz25) rfl rfl (by kernel_rfl) (by kernel_rfl) (by kernel_rfl) (fun _ _ _ h => h) (Or.inl ⟨by kernel_rfl, ?hyCz25⟩) (by assumption) ?restCz25
                        case hyCz25 => (intro x hSx; (try dsimp only at hSx); go_simp; first | done | with_reducible rfl)
                        try simp only [Act.put, List.setIfInBounds_toArray, List.set_cons_zero, List.set_cons_succ]
                        refine wpAnyH_takeD (i := 26) (some 186) (v := ?vCz26) rfl rfl (by kernel_rfl) (by kernel_rfl) (by kernel_rfl) (fun _ _ _ h => h) (Or.inl ⟨by kernel_rfl, ?hyCz26⟩) (by assumption) ?restCz26
                        case hyCz26 => (intro x hSx; (try dsimp only at hSx); go_simp; first | done | with_reducible rfl)
                        try simp only [Act.put, List.setIfInBounds_toArray, List.set_cons_zero, List.set_cons_succ]
                        refine wpAnyH_takeD (i := 27) (some 187) (v := ?vCz27) rfl rfl (by kernel_rfl) (by kernel_rfl) (by kernel_rfl) (fun _ _ _ h => h) (Or.inl ⟨by kernel_rfl, ?hyCz27⟩) (by assumption) ?restCz27
                        case hyCz27 => (intro x hSx; (try dsimp only at hSx); obtain ⟨z0, z1, z2, z3, z4, z5⟩ := HF2.out x hSx; go_simp; first | done | with_reducible rfl)
                        try simp only [Act.put, List.setIfInBounds_toArray, List.set_cons_zero, List.set_cons_succ]
                        refine wpAnyH_takeD (i := 28) (some 188) (v := .bool false) rfl rfl (by kernel_rfl) (by kernel_rfl) (by kernel_rfl) (fun _ _ _ h => h) (Or.inl ⟨by kernel_rfl, ?hyCz28⟩) (by assumption) ?restCz28
                        case hyCz28 => (intro x hSx; (try dsimp only at hSx); go_simp; first | done | with_reducible rfl)
                        try simp only [Act.put, List.setIfInBounds_toArray, List.set_cons_zero, List.set_cons_succ]
                        refine wpAnyH_takeD (i := 29) (some 189) (v := ?vCz29) rfl rfl (by kernel_rfl) (by kernel_rfl) (by kernel_rfl) (fun _ _ _ h => h) (Or.inl ⟨by kernel_rfl, ?hyCz29⟩) (by assumption) ?restCz29
                        case hyCz29 => (intro x hSx; (try dsimp only at hSx); go_simp; first | done | with_reducible rfl)
                        try simp only [Act.put, List.setIfInBounds_toArray, List.set_cons_zero, List.set_cons_succ]
                        refine wpAnyH_done (by kernel_rfl) ?_ _
                        clear HF2 hw1 hw2
                        go_wp2
                        go_roundw
                        case rel => exact ⟨i2 + 1, k2 + 1, by omega, by go_num, by go_num, by omega, HK3, hbC.trans (hHeldCz.mono hbC.size)⟩
                        case measure => simp [intOf]; omega
                      | false =>
                        have hl2 : Op.bytesLess pk.toList t.toList = false := hlt2
                        go_upto_region 21 with fail
                        refine wp_region_held_drew (S := fun x => Below wr.heap.size wr x) (by kernel_rfl) ((Below.refl _ _).drew) (fun hHeldE => ?_)
                        refine wpAnyH_takeD (i := 0) (some 137) (v := ?vE0) rfl rfl (by kernel_rfl) (by kernel_rfl) (by kernel_rfl) (fun _ _ _ h => h) (Or.inl ⟨by kernel_rfl, ?hyE0⟩) (by assumption) ?restE0
                        case hyE0 => (intro x hSx; (try dsimp only at hSx); go_simp; first | done | with_reducible rfl)
                        try simp only [Act.put, List.setIfInBounds_toArray, List.set_cons_zero, List.set_cons_succ]
                        refine wpAnyH_takeD (i := 1) (some 138) (v := ?vE1) rfl rfl (by kernel_rfl) (by kernel_rfl) (by kernel_rfl) (fun _ _ _ h => h) (Or.inl ⟨by kernel_rfl, ?hyE1⟩) (by assumption) ?restE1
                        case hyE1 => (intro x hSx; (try dsimp only at hSx); go_simp; first | done | with_reducible rfl)
                        try simp only [Act.put, List.setIfInBounds_toArray, List.set_cons_zero, List.set_cons_succ]
                        refine wpAnyH_takeD (i := 2) (some 139) (v := ?vE2) rfl rfl (by kernel_rfl) (by kernel_rfl) (by kernel_rfl) (fun _ _ _ h => h) (Or.inl ⟨by kernel_rfl, ?hyE2⟩) (by assumption) ?restE2
                        case hyE2 => (intro x hSx; (try dsimp only at hSx); go_simp; first | done | with_reducible rfl)
                        try simp only [Act.put, List.setIfInBounds_toArray, List.set_cons_zero, List.set_cons_succ]
                        refine wpAnyH_takeD (i := 3) (some 140) (v := ?vE3) rfl rfl (by kernel_rfl) (by kernel_rfl) (by kernel_rfl) (fun _ _ _ h => h) (Or.inl ⟨by kernel_rfl, ?hyE3⟩) (by assumption) ?restE3
                        case hyE3 => (intro x hSx; (try dsimp only at hSx); go_simp; first | done | with_reducible rfl)
                        try simp only [Act.put, List.setIfInBounds_toArray, List.set_cons_zero, List.set_cons_succ]
                        refine wpAnyH_takeD (i := 4) (some 141) (v := ?vE4) rfl rfl (by kernel_rfl) (by kernel_rfl) (by kernel_rfl) (fun _ _ _ h => h) (Or.inl ⟨by kernel_rfl, ?hyE4⟩) (by assumption) ?restE4
                        case hyE4 => (intro x hSx; (try dsimp only at hSx); obtain ⟨z0, z1, z2, z3, z4⟩ := HF.out x hSx; go_simp; first | done | with_reducible rfl)
                        try simp only [Act.put, List.setIfInBounds_toArray, List.set_cons_zero, List.set_cons_succ]
                        refine wpAnyH_takeD (i := 5) (some 142) (v := ?vE5) rfl rfl (by kernel_rfl) (by kernel_rfl) (by kernel_rfl) (fun _ _ _ h => h) (Or.inl ⟨by kernel_rfl, ?hyE5⟩) (by assumption) ?restE5
                        case hyE5 => (intro x hSx; (try dsimp only at hSx); go_simp; first | done | with_reducible rfl)
                        try simp only [Act.put, List.setIfInBounds_toArray, List.set_cons_zero, List.set_cons_succ]
                        refine wpAnyH_takeD (i := 6) (some 143) (v := ?vE6) rfl rfl (by kernel_rfl) (by kernel_rfl) (by kernel_rfl) (fun _ _ _ h => h) (Or.inl ⟨by kernel_rfl, ?hyE6⟩) (by assumption) ?restE6
                        case hyE6 => (intro x hSx; (try dsimp only at hSx); obtain ⟨z0, z1, z2, z3, z4⟩ := HF.out x hSx; go_simp; first | done | with_reducible rfl)
                        try simp only [Act.put, List.setIfInBounds_toArray, List.set_cons_zero, List.set_cons_succ]
                        refine wpAnyH_takeD (i := 7) (some 144) (v := .bool true) rfl rfl (by kernel_rfl) (by kernel_rfl) (by kernel_rfl) (fun _ _ _ h => h) (Or.inl ⟨by kernel_rfl, ?hyE7⟩) (by assumption) ?restE7
                        case hyE7 => (intro x hSx; (try dsimp only at hSx); go_simp; first | done | with_reducible rfl)
                        try simp only [Act.put, List.setIfInBounds_toArray, List.set_cons_zero, List.set_cons_succ]
                        refine wpAnyH_takeD (i := 8) (some 145) (v := ?vE8) rfl rfl (by kernel_rfl) (by kernel_rfl) (by kernel_rfl) (fun _ _ _ h => h) (Or.inl ⟨by kernel_rfl, ?hyE8⟩) (by assumption) ?restE8
                        case hyE8 => (intro x hSx; (try dsimp only at hSx); go_simp; first | done | with_reducible rfl)
                        try simp only [Act.put, List.setIfInBounds_toArray, List.set_cons_zero, List.set_cons_succ]
                        refine wpAnyH_takeD (i := 9) (some 146) (v := ?vE9) rfl rfl (by kernel_rfl) (by kernel_rfl) (by kernel_rfl) (fun _ _ _ h => h) (Or.inl ⟨by kernel_rfl, ?hyE9⟩) (by assumption) ?restE9
                        case hyE9 => (intro x hSx; (try dsimp only at hSx); go_simp; first | done | with_reducible rfl)
                        try simp only [Act.put, List.setIfInBounds_toArray, List.set_cons_zero, List.set_cons_succ]
                        refine wpAnyH_takeD (i := 10) (some 147) (v := ?vE10) rfl rfl (by kernel_rfl) (by kernel_rfl) (by kernel_rfl) (fun _ _ _ h => h) (Or.inl ⟨by kernel_rfl, ?hyE10⟩) (by assumption) ?restE10
                        case hyE10 => (intro x hSx; (try dsimp only at hSx); obtain ⟨z0, z1, z2, z3, z4⟩ := HF.out x hSx; go_simp; first | done | with_reducible rfl)
                        try simp only [Act.put, List.setIfInBounds_toArray, List.set_cons_zero, List.set_cons_succ]
                        refine wpAnyH_takeD (i := 11) (some 148) (v := ?vE11) rfl rfl (by kernel_rfl) (by kernel_rfl) (by kernel_rfl) (fun _ _ _ h => h) (Or.inl ⟨by kernel_rfl, ?hyE11⟩) (by assumption) ?restE11
                        case hyE11 => (intro x hSx; (try dsimp only at hSx); go_simp; first | done | with_reducible rfl)
                        try simp only [Act.put, List.setIfInBounds_toArray, List.set_cons_zero, List.set_cons_succ]
                        refine wpAnyH_takeD (i := 12) (some 149) (v := ?vE12) rfl rfl (by kernel_rfl) (by kernel_rfl) (by kernel_rfl) (fun _ _ _ h => h) (Or.inl ⟨by kernel_rfl, ?hyE12⟩) (by assumption) ?restE12
                        case hyE12 => (intro x hSx; (try dsimp only at hSx); go_simp; first | done | with_reducible rfl)
                        try simp only [Act.put, List.setIfInBounds_toArray, List.set_cons_zero, List.set_cons_succ]
                        refine wpAnyH_takeD (i := 13) (some 150) (v := ?vE13) rfl rfl (by kernel_rfl) (by kernel_rfl) (by kernel_rfl) (fun _ _ _ h => h) (Or.inl ⟨by kernel_rfl, ?hyE13⟩) (by assumption) ?restE13
                        case hyE13 => (intro x hSx; (try dsimp only at hSx); go_simp; first | done | with_reducible rfl)
                        try simp only [Act.put, List.setIfInBounds_toArray, List.set_cons_zero, List.set_cons_succ]
                        refine wpAnyH_takeD (i := 14) (some 151) (v := ?vE14) rfl rfl (by kernel_rfl) (by kernel_rfl) (by kernel_rfl) (fun _ _ _ h => h) (Or.inl ⟨by kernel_rfl, ?hyE14⟩) (by assumption) ?restE14
                        case hyE14 => (intro x hSx; (try dsimp only at hSx); go_simp; first | done | with_reducible rfl)
                        try simp only [Act.put, List.setIfInBounds_toArray, List.set_cons_zero, List.set_cons_succ]
                        refine wpAnyH_takeD (i := 15) (some 152) (v := ?vE15) rfl rfl (by kernel_rfl) (by kernel_rfl) (by kernel_rfl) (fun _ _ _ h => h) (Or.inl ⟨by kernel_rfl, ?hyE15⟩) (by assumption) ?restE15
                        case hyE15 => (intro x hSx; (try dsimp only at hSx); go_simp; first | done | with_reducible rfl)
                        try simp only [Act.put, List.setIfInBounds_toArray, List.set_cons_zero, List.set_cons_succ]
                        refine wpAnyH_takeD (i := 16) (some 153) (v := ?vE16) rfl rfl (by kernel_rfl) (by kernel_rfl) (by kernel_rfl) (fun _ _ _ h => h) (Or.inl ⟨by kernel_rfl, ?hyE16⟩) (by assumption) ?restE16
                        case hyE16 => (intro x hSx; (try dsimp only at hSx); obtain ⟨z0, z1, z2, z3, z4⟩ := HF.out x hSx; go_simp; first | done | with_reducible rfl)
                        try simp only [Act.put, List.setIfInBounds_toArray, List.set_cons_zero, List.set_cons_succ]
                        refine wpAnyH_takeD (i := 17) (some 154) (v := ?vE17) rfl rfl (by kernel_rfl) (by kernel_rfl) (by kernel_rfl) (fun _ _ _ h => h) (Or.inl ⟨by kernel_rfl, ?hyE17⟩) (by assumption) ?restE17
                        case hyE17 => (intro x hSx; (try dsimp only at hSx); go_simp; first | done | with_reducible rfl)
                        try simp only [Act.put, List.setIfInBounds_toArray, List.set_cons_zero, List.set_cons_succ]
                        refine wpAnyH_takeD (i := 18) (some 155) (v := ?vE18) rfl rfl (by kernel_rfl) (by kernel_rfl) (by kernel_rfl) (fun _ _ _ h => h) (Or.inl ⟨by kernel_rfl, ?hyE18⟩) (by assumption) ?restE18
                        case hyE18 => (intro x hSx; (try dsimp only at hSx); obtain ⟨z0, z1, z2, z3, z4⟩ := HF.out x hSx; go_simp; first | done | with_reducible rfl)
                        try simp only [Act.put, List.setIfInBounds_toArray, List.set_cons_zero, List.set_cons_succ]
                        refine wpAnyH_takeD (i := 19) (some 156) (v := .bool false) rfl rfl (by kernel_rfl) (by kernel_rfl) (by kernel_rfl) (fun _ _ _ h => h) (Or.inl ⟨by kernel_rfl, ?hyE19⟩) (by assumption) ?restE19
                        case hyE19 => (intro x hSx; (try dsimp only at hSx); go_simp; first | done | with_reducible rfl)
                        try simp only [Act.put, List.setIfInBounds_toArray, List.set_cons_zero, List.set_cons_succ]
                        refine wpAnyH_takeD (i := 20) (some 157) (v := ?vE20) rfl rfl (by kernel_rfl) (by kernel_rfl) (by kernel_rfl) (fun _ _ _ h => h) (Or.inl ⟨by kernel_rfl, ?hyE20⟩) (by assumption) ?restE20
                        case hyE20 => (intro x hSx; (try dsimp only at hSx); go_simp; first | done | with_reducible rfl)
                        try simp only [Act.put, List.setIfInBounds_toArray, List.set_cons_zero, List.set_cons_succ]
                        refine wpAnyH_takeD (i := 21) (some 158) (v := ?vE21) rfl rfl (by kernel_rfl) (by kernel_rfl) (by kernel_rfl) (fun _ _ _ h => h) (Or.inl ⟨by kernel_rfl, ?hyE21⟩) (by assumption) ?restE21
                        case hyE21 => (intro x hSx; (try dsimp only at hSx); go_simp; first | done | with_reducible rfl)
                        try simp only [Act.put, List.setIfInBounds_toArray, List.set_cons_zero, List.set_cons_succ]
                        refine wpAnyH_takeD (i := 22) (some 21) (v := ?vE22) rfl rfl (by kernel_rfl) (by kernel_rfl) (by kernel_rfl) (fun _ _ _ h => h) (Or.inl ⟨by kernel_rfl, ?hyE22⟩) (by assumption) ?restE22
                        case hyE22 => (intro x hSx; (try dsimp only at hSx); go_simp; first | done | with_reducible rfl)
                        try simp only [Act.put, List.setIfInBounds_toArray, List.set_cons_zero, List.set_cons_succ]
                        refine wpAnyH_done (by kernel_rfl) ?_ _
                        have HNI : Hid (inSp f t false pk = false) := by show _ = _; unfold inSp; rw [hlt, hlt2]; rfl
                        have HK3 : Hid (k2 = ((R.take (i2 + 1)).filter (fun x => inSp f t false x.1)).length) := by
                          show _ = _
                          rw [HTK.out, HNI.out, if_neg (by decide), List.append_nil]
                          exact HK2.out
                        clear HF
                        go_wp2
                        go_roundw
                        case rel => exact ⟨i2 + 1, k2, by omega, by go_num, rfl, hk2, HK3, hb.out.trans (hHeldE.mono hb.out.size)⟩
                        case measure => simp [intOf]; omega
                · have hin2 : i2 = na := by omega
                  have hii : ¬ (i2 : Int) < (na : Int) := by omega
                  have hke : k2 = nl := by
                    rw [HK2.out, hin2, Hna.out, List.take_length, Hnl.out]
                    rfl
                  have hkk : (k2 : Int) = (nl : Int) := by omega
                  have HBe : Hid (Below w.heap.size w wr) := HBi.out.trans (hb.out.mono HBi.out.size)
                  clear hin2 HK2
                  subst hke
                  clear hkk
                  go_wp2_with fail
                  refine (callsIn_wide.1 (awake_in 8 (Nat.le_refl _) wr)).mono ?_
                  rintro e wz ⟨rfl, hbz⟩
                  go_wp2
                  go_ret
                  exact ⟨rfl, HBe.out.trans (hbz.mono HBe.out.size)⟩
        · have d3 : decide ((536870911 : Int) < (q.size : Int)) = true := by simp; omega
          go_wp2
          go_ret
          exact ⟨rfl, HB2.out⟩
      · have d2 : decide ((536870911 : Int) < (t.size : Int)) = true := by simp; omega
        go_wp2
        go_ret
        exact ⟨rfl, HB2.out⟩
    · have d1 : decide ((536870911 : Int) < (f.size : Int)) = true := by simp; omega
      go_wp2
      go_ret
      exact ⟨rfl, HB2.out⟩
end Go.Proofs.Ytklnnkdcnaieoaa
