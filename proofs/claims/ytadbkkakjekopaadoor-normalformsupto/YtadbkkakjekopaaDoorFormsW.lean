/- NormalForms: Form, Is and Same answer as the document asks (a walk; nothing is claimed here). -/
import Derived.Test.YtadbkkakjekopaaDoorFormU
import Derived.Test.YtadbkkakjekopaaDoorLentN
import Derived.Test.YtadbkkakjekopaaDoorLoadsK
namespace Go.Proofs.YtadbkkakjekopaaDoor
open Go.RowKit Go.Vf Go.Maps

theorem grownBy_put {w w' : World} {g k : Nat} {v : Value} (h : w.grownBy w' (some g)) : w.grownBy (w'.setCell ⟨g, k, none⟩ v) (some g) :=
  ⟨h.os, h.tape, h.output, by simpa [World.setCell] using h.size, fun j hj hne => (Below.heap_setCell _ ⟨g, k, none⟩ _ j (by show j ≠ g; intro e; subst e; exact hne rfl)).trans (h.block j hj hne)⟩
theorem grownBy_more {w w1 w2 : World} {g : Nat} {r : Option Nat} (h : w.grownBy w1 (some g)) (k : w1.grownBy w2 r) (hr : ∀ j, r = some j → j = g ∨ w.heap.size ≤ j) : w.grownBy w2 (some g) :=
  ⟨k.os.trans h.os, k.tape.trans h.tape, k.output.trans h.output, Nat.le_trans h.size k.size, fun j hj hne => (k.block j (Nat.lt_of_lt_of_le hj h.size) (fun e => by
    rcases hr j e.symm with h1 | h1
    · exact hne (by rw [h1])
    · omega)).trans (h.block j hj hne)⟩

set_option maxHeartbeats 4000000 in
set_option maxRecDepth 20000 in
theorem forms_bad (s : ByteArray) (hs : s.size ≤ 281474976710656) (v u : Value) (w : World) (hg : Glob w) (why line : Int) (hl : loadR s.data.toList = .error (why, line)) :
    Calls Tryd.prog 3 #[.string s, v, u] w fun e w' => e = .returned (.bool true) ∧ Below w.heap.size w w' := by
  have hy0 := load_why hl
  have hy1 : (why == 0) = false := by simpa using hy0
  have hy2 : (why != 0) = true := by simpa using hy0
  have h1 := load_glob s w hg hs
  rw [hl] at h1
  have h2 : ∀ x, Calls Tryd.prog 8 #[.string s] x fun e w' => RefLoadPost s.data.toList x e w' := refLoad_any s hs
  have HL : Aside (loadR s.data.toList = .error (why, line)) := hl
  clear hl
  go_enter Tryd.func3, Tryd.ntmps3
  go_wp2_with fail
  refine h1.mono ?_
  rintro e w1 ⟨hb1, hp1⟩
  obtain rfl : e = _ := hp1
  clear h1
  go_wp2_with fail
  refine (h2 w1).mono ?_
  intro e w2 hp2
  unfold RefLoadPost at hp2
  rw [HL.out] at hp2
  obtain ⟨hb2, hp2⟩ := hp2
  obtain rfl : e = _ := hp2
  have hb12 := hb1.trans (hb2.mono hb1.size)
  clear h2
  go_upto_region 3 with fail
  have hb3 := hb12.alloc hb12.size (.cells #[.slice none 0 0] 29)
  have hg3 : Glob (w2.alloc (.cells #[.slice none 0 0] 29)) := hg.below hb3
  generalize w2.alloc (.cells #[.slice none 0 0] 29) = w3 at hb3 hg3 ⊢
  have haw := awake_any w3 hg3
  go_wp2_with fail
  refine haw.mono ?_
  rintro e w4 ⟨rfl, hb4⟩
  go_wp2
  go_ret
  exact ⟨rfl, hb3.trans (hb4.mono hb3.size)⟩

set_option maxHeartbeats 16000000 in
set_option maxRecDepth 20000 in
theorem forms_good (s : ByteArray) (hs : s.size ≤ 281474976710656) (a b : Option Addr) (kz cz ky cy : Nat) (zs ys : List Int) (w : World) (hg : Glob w) (L : List Mk) (E : Int → List Int) (hl : loadR s.data.toList = .ok (L, E)) (ha : Numb w a kz cz zs) (hb : Numb w b ky cy ys) (fa : zs.length ≤ 1048576) (fb : ys.length ≤ 1048576) :
    Calls Tryd.prog 3 #[.string s, .slice a kz cz, .slice b ky cy] w fun e w' => e = .returned (.bool true) ∧ Below w.heap.size w w' := by
  have h1 := load_glob s w hg hs
  rw [hl] at h1
  have h2 : ∀ x, Calls Tryd.prog 8 #[.string s] x fun e w' => RefLoadPost s.data.toList x e w' := refLoad_any s hs
  have HL : Aside (loadR s.data.toList = .ok (L, E)) := hl
  have HA : Aside (Numb w a kz cz zs) := ha
  have HB : Aside (Numb w b ky cy ys) := hb
  obtain ⟨Y, hY, hYl⟩ := form_there (fun p => (load_cls hl p).1) (flatR E ys)
  have HY : Aside (IsForm L E ys Y) := hY
  clear hl ha hb hY
  go_enter Tryd.func3, Tryd.ntmps3
  go_wp2_with fail
  refine h1.mono ?_
  rintro e w1 ⟨hb1, hp1⟩
  obtain ⟨bd, rfl, hd1⟩ := hp1
  clear h1
  go_wp2_with fail
  refine (h2 w1).mono ?_
  intro e w2 hp2
  unfold RefLoadPost at hp2
  rw [HL.out] at hp2
  obtain ⟨hb2, am, n, c, rfl, hm2⟩ := hp2
  have hb12 := hb1.trans (hb2.mono hb1.size)
  have hd2 := hd1.below hb2
  clear h2 hd1
  go_upto_region 3 with fail
  have hb23 := (Below.refl w2.heap.size w2).alloc (Nat.le_refl _) (.cells #[.slice am n c] 29)
  have hx3 := Blk.new w2 29 #[.slice am n c]
  have hb3 := hb12.trans (hb23.mono hb12.size)
  have hm3 := hm2.go hb23
  have hd3 := hd2.below hb23
  generalize w2.alloc (.cells #[.slice am n c] 29) = w3 at hb3 hx3 hm3 hd3 hb23 ⊢
  generalize w2.heap.size = bx at hx3 ⊢
  have hg3 : Glob w3 := hg.below hb3
  have haw := awake_any w3 hg3
  clear hb1 hb2 hb12 hd2 hm2 hb23
  go_wp2_with fail
  refine haw.mono ?_
  rintro e w4 ⟨rfl, hb4⟩
  have HX4 : Aside (Blk w4 bx 29 #[.slice am n c]) := hx3.below hb4 hx3.lt
  have HM4 : Aside (MIn w4.heap.size w4 (.slice am n c) (marksR L)) := hm3.go hb4
  have HD4 : Aside (DataAt w4 bd L E) := hd3.below hb4
  have HB4 : Aside (Below w.heap.size w w4) := hb3.trans (hb4.mono hb3.size)
  have x4 : w4.cell? ⟨bx, 0, none⟩ = some (.slice am n c) := HX4.out.cell 0
  have H57 : Aside (∀ q, (partsR' E q).length ≤ 57 ∧ 0 < (partsR' E q).length) := fun q => hd3.plen q
  have hYf : Y.length ≤ 60000000 := by have := (flat_len hd3 ys).1; omega
  have HA4 : Aside (Numb w4 a kz cz zs) := HA.out.below HB4.out
  have HY4 : Aside (Numb w4 b ky cy ys) := HB.out.below HB4.out
  have hf5 := rform_load HL.out a kz cz zs w4 HM4.out HA4.out H57.out (by omega)
  clear haw hb3 hb4 hx3 hm3 hd3 hg3 hYl
  -- want
  go_wp2_with fail
  refine hf5.mono ?_
  rintro e w5 ⟨aw, nw, cw, X, rfl, ho5, hfo5, hb5⟩
  have HFX : Aside (IsForm L E zs X) := hfo5
  have HW5 : Aside (IOwn w5 w4.heap.size (.slice aw nw cw) X) := ho5
  have HB5 : Aside (Below w4.heap.size w4 w5) := hb5
  clear hf5 ho5 hfo5 hb5
  -- a := lent(l)
  go_wp2_with fail
  refine (lent_any (HA4.out.below HB5.out)).mono ?_
  rintro e w6 ⟨ga, ca, rfl, hla, hb6⟩
  have HLA6 : Aside (LentAt w6 w5.heap.size ga ca kz zs) := hla
  have HB6 : Aside (Below w4.heap.size w4 w6) := HB5.out.trans (hb6.mono HB5.out.size)
  have HW6 : Aside (IOwn w6 w4.heap.size (.slice aw nw cw) X) := own_after HW5.out hb6
  clear hla hb6 HB5 HW5
  -- b := lent(other)
  go_wp2_with fail
  refine (lent_any (HY4.out.below HB6.out)).mono ?_
  rintro e w7 ⟨gb, cb, rfl, hlb, hb7⟩
  have HLB7 : Aside (LentAt w7 w6.heap.size gb cb ky ys) := hlb
  have HLA7 : Aside (LentAt w7 w5.heap.size ga ca kz zs) := HLA6.out.go hb7
  have HB7 : Aside (Below w4.heap.size w4 w7) := HB6.out.trans (hb7.mono HB6.out.size)
  have HW7 : Aside (IOwn w7 w4.heap.size (.slice aw nw cw) X) := own_after HW6.out hb7
  have HD7 : Aside (DataAt w7 bd L E) := HD4.out.below HB7.out
  clear hlb hb7 HB6 HW6 HLA6
  have HNA : Aside (Numb w7 (some ⟨ga, 0, none⟩) kz ca zs) := HLA7.out.numb HA.out.int HA.out.few
  have HNB : Aside (Numb w7 (some ⟨gb, 0, none⟩) ky cb ys) := HLB7.out.numb HB.out.int HB.out.few
  -- one
  go_wp2_with fail
  refine (form_load HL.out HD7.out HNA.out).mono ?_
  intro e w8 hpost
  obtain ⟨g1, k1, c1, X1, rfl, ho8, hf8, hb8⟩ := hpost.formed
  obtain rfl : X1 = X := hf8.form.same HFX.out
  have hX57 := form_few HD7.out hf8 1048576 fa
  have HO8 : Aside (IOwn w8 w7.heap.size (.slice (some ⟨g1, 0, none⟩) k1 c1) X1) := ho8
  have HB8 : Aside (Below w7.heap.size w7 w8) := hb8
  clear hpost ho8 hf8 hb8
  -- two
  go_wp2_with fail
  refine (form_load HL.out (HD7.out.below HB8.out) (HNA.out.below HB8.out)).mono ?_
  intro e w9 hpost
  obtain ⟨g2, k2, c2, X2, rfl, ho9, hf9, hb9⟩ := hpost.formed
  obtain rfl : X2 = X1 := hf9.form.same HFX.out
  have HT9 : Aside (IOwn w9 w8.heap.size (.slice (some ⟨g2, 0, none⟩) k2 c2) X2) := ho9
  have HO9 : Aside (IOwn w9 w7.heap.size (.slice (some ⟨g1, 0, none⟩) k1 c1) X2) := own_after HO8.out hb9
  have HB9 : Aside (Below w7.heap.size w7 w9) := HB8.out.trans (hb9.mono HB8.out.size)
  have HG12 : Hid (g1 < w8.heap.size ∧ w8.heap.size ≤ g2 ∧ w7.heap.size ≤ g1) := ⟨row_lt HO8.out rfl, (own_ge ho9 rfl).1, (own_ge HO8.out rfl).1⟩
  clear hpost ho9 hf9 hb9 HO8 HB8
  -- is
  go_wp2_with fail
  refine (is_load HL.out (HD7.out.below HB9.out) (HNA.out.below HB9.out) HFX.out (by omega)).mono ?_
  rintro e wa ⟨rfl, hba⟩
  have HTa : Aside (IOwn wa w8.heap.size (.slice (some ⟨g2, 0, none⟩) k2 c2) X2) := own_after HT9.out hba
  have HOa : Aside (IOwn wa w7.heap.size (.slice (some ⟨g1, 0, none⟩) k1 c1) X2) := own_after HO9.out hba
  have HBa : Aside (Below w7.heap.size w7 wa) := HB9.out.trans (hba.mono HB9.out.size)
  clear hba HT9 HO9 HB9
  generalize hIB : decide (X2 = zs) = IB
  have HIB : Hid (decide (X2 = zs) = IB) := hIB
  clear hIB
  -- same
  go_wp2_with fail
  refine (same_load HL.out (HD7.out.below HBa.out) (HNA.out.below HBa.out) (HNB.out.below HBa.out) HFX.out (by omega) HY.out (by omega)).mono ?_
  rintro e wb ⟨rfl, hbb⟩
  have HTb : Aside (IOwn wb w8.heap.size (.slice (some ⟨g2, 0, none⟩) k2 c2) X2) := own_after HTa.out hbb
  have HOb : Aside (IOwn wb w7.heap.size (.slice (some ⟨g1, 0, none⟩) k1 c1) X2) := own_after HOa.out hbb
  have HBb : Aside (Below w7.heap.size w7 wb) := HBa.out.trans (hbb.mono HBa.out.size)
  clear hbb HTa HOa HBa
  generalize hSB : decide (X2 = Y) = SB
  have HSB : Hid (decide (X2 = Y) = SB) := hSB
  clear hSB
  -- SameInts(one, want)
  have hq1 := sameInts_any _ _ X2 X2 wb.heap.size wb.heap.size wb HOb.out.ints (IOwn.ints (own_after HW7.out HBb.out)) (by omega) (by omega)
  rw [show decide (X2 = X2) = true by simp] at hq1
  go_wp2_with fail
  refine hq1.mono ?_
  rintro e wc ⟨rfl, hbc⟩
  have HTc : Aside (IOwn wc w8.heap.size (.slice (some ⟨g2, 0, none⟩) k2 c2) X2) := own_after HTb.out hbc
  have HOc : Aside (IOwn wc w7.heap.size (.slice (some ⟨g1, 0, none⟩) k1 c1) X2) := own_after HOb.out hbc
  have HBc : Aside (Below w7.heap.size w7 wc) := HBb.out.trans (hbc.mono HBb.out.size)
  clear hbc hq1 HTb HOb HBb
  have h4c := HB7.out.trans (HBc.out.mono HB7.out.size)
  have xc : wc.cell? ⟨bx, 0, none⟩ = some (.slice am n c) := (HX4.out.below h4c HX4.out.lt).cell 0
  have hri := ris_load HL.out a kz cz zs X2 wc (HM4.out.go h4c) (HA4.out.below h4c) H57.out (by omega) HFX.out (by omega)
  rw [HIB.out] at hri
  clear h4c
  go_wp2_with fail
  refine hri.mono ?_
  rintro e wd ⟨rfl, hbd⟩
  have HTd : Aside (IOwn wd w8.heap.size (.slice (some ⟨g2, 0, none⟩) k2 c2) X2) := own_after HTc.out hbd
  have HOd : Aside (IOwn wd w7.heap.size (.slice (some ⟨g1, 0, none⟩) k1 c1) X2) := own_after HOc.out hbd
  have HBd : Aside (Below w7.heap.size w7 wd) := HBc.out.trans (hbd.mono HBc.out.size)
  clear hbd hri HTc HOc HBc xc
  have h4d := HB7.out.trans (HBd.out.mono HB7.out.size)
  have xd : wd.cell? ⟨bx, 0, none⟩ = some (.slice am n c) := (HX4.out.below h4d HX4.out.lt).cell 0
  have hrs := rsame_load HL.out a kz cz zs X2 b ky cy ys Y wd (HM4.out.go h4d) (HA4.out.below h4d) (HY4.out.below h4d) H57.out (by omega) (by omega) HFX.out (by omega) HY.out (by omega)
  rw [HSB.out] at hrs
  clear h4d
  have eI : (IB == IB) = true := by simp
  have eS : (SB == SB) = true := by simp
  go_wp2_with fail
  refine hrs.mono ?_
  rintro e we ⟨rfl, hbe⟩
  have HTe : Aside (IOwn we w8.heap.size (.slice (some ⟨g2, 0, none⟩) k2 c2) X2) := own_after HTd.out hbe
  have HOe : Aside (IOwn we w7.heap.size (.slice (some ⟨g1, 0, none⟩) k1 c1) X2) := own_after HOd.out hbe
  have HBe : Aside (Below w7.heap.size w7 we) := HBd.out.trans (hbe.mono HBd.out.size)
  have hk1 : k1 = X2.length := by obtain ⟨_, _, e⟩ := HOe.out.val; exact (Value.slice.inj e).2.1
  have HK1 : Hid (k1 = X2.length) := hk1
  have hk1l : k1 ≤ 60000000 := by omega
  clear hbe hrs HTd HOd HBd xd x4 hk1
  have HS0 : Aside (IOwn we w7.heap.size (.slice (some ⟨g1, 0, none⟩) k1 c1) X2 ∧ X2.length = k1 ∧ we.grownBy we (some g1)) := ⟨HOe.out, HK1.out.symm, World.grownBy.refl _ _⟩
  go_wp2_with fail
  go_loopg [21] k1 (fun g v wr => ∃ (i : Nat) (Zi : List Int), v = .int .i64 i ∧ i ≤ k1 ∧ k1 - i ≤ g ∧ Aside (IOwn wr w7.heap.size (.slice (some ⟨g1, 0, none⟩) k1 c1) Zi ∧ Zi.length = k1 ∧ we.grownBy wr (some g1)))
  case atStart => exact ⟨0, X2, rfl, Nat.zero_le _, by omega, HS0⟩
  case round =>
    clear HS0
    obtain ⟨i, Zi, rfl, hik, hgg, HS⟩ := hrel
    by_cases hil : i < k1
    · have hilz : (i : Int) < (k1 : Int) := by omega
      obtain ⟨hcz, hfz⟩ : wr.cell? ⟨g1, i, none⟩ = some (.int .i64 (Zi[i]?.getD 0)) ∧ wr.frozen? ⟨g1, i, none⟩ = false := by
        rcases HS.out.1.form with ⟨e, _⟩ | ⟨g', cap', e, _, _, _, h1, h2⟩
        · cases e
        · obtain ⟨e1, _, _⟩ := Value.slice.inj e
          cases e1
          exact ⟨h1 i (by rw [HS.out.2.1]; exact hil), h2 i⟩
      have HS2 : Aside (IOwn (wr.setCell ⟨g1, i, none⟩ (.int .i64 (-5))) w7.heap.size (.slice (some ⟨g1, 0, none⟩) k1 c1) (Zi.set i (-5)) ∧ (Zi.set i (-5)).length = k1 ∧ we.grownBy (wr.setCell ⟨g1, i, none⟩ (.int .i64 (-5))) (some g1)) := ⟨HS.out.1.set i (-5), by rw [List.length_set]; exact HS.out.2.1, grownBy_put HS.out.2.2⟩
      clear HS
      go_wp2_with fail
      generalize wr.setCell ⟨g1, i, none⟩ (.int .i64 (-5)) = wq at HS2 ⊢
      clear hcz hfz
      go_wp2
      go_roundg (k1 - (i + 1))
      case measure => omega
      case rel => exact ⟨i + 1, _, by first | rfl | go_num, by omega, Nat.le_refl _, HS2⟩
    · have hilz : ¬ (i : Int) < (k1 : Int) := by omega
      have HS3 : Aside (IOwn wr w7.heap.size (.slice (some ⟨g1, 0, none⟩) k1 c1) Zi ∧ (∀ j, (Value.slice (some ⟨g1, 0, none⟩) k1 c1).ownBlock = some j → j = g1 ∨ we.heap.size ≤ j) ∧ we.grownBy wr (some g1)) := ⟨HS.out.1, fun j hj => .inl (by simpa [Value.ownBlock] using hj.symm), HS.out.2.2⟩
      clear HS hik hgg
      go_wp2_with fail
      go_loopg [16, 22] 9 (fun g v16 v22 wr => ∃ (i : Nat) (aa : Option Addr) (kk cc : Nat) (Zj : List Int), v22 = .int .i64 i ∧ v16 = .slice aa kk cc ∧ i ≤ 9 ∧ 9 - i ≤ g ∧ kk ≤ k1 + i ∧ Aside (IOwn wr w7.heap.size (.slice aa kk cc) Zj ∧ (∀ j, (Value.slice aa kk cc).ownBlock = some j → j = g1 ∨ we.heap.size ≤ j) ∧ we.grownBy wr (some g1)))
      case atStart => exact ⟨0, _, k1, c1, Zi, rfl, rfl, by omega, by omega, by omega, HS3⟩
      case round =>
        clear HS3
        obtain ⟨j, aa, kk, cc, Zj, rfl, rfl, hj9, hgg, hkk, HS⟩ := hrel
        by_cases hjl : j < 9
        · have hjlz : (j : Int) < 9 := by omega
          have hkkl : kk = Zj.length := by obtain ⟨_, _, e⟩ := HS.out.1.val; exact (Value.slice.inj e).2.1
          have hbA := (Below.refl wr.heap.size wr).alloc (Nat.le_refl _) (.cells #[.int .i64 (-6)] 3)
          have hnA := Blk.new wr 3 #[.int .i64 (-6)]
          have hcA : ∀ u, u < [(-6 : Int)].length → (wr.alloc (.cells #[.int .i64 (-6)] 3)).cell? ((⟨wr.heap.size, 0, none⟩ : Addr).add u) = some (.int .i64 ([(-6 : Int)][u]?.getD 0)) := fun u hu => by
            obtain rfl : u = 0 := by simpa using hu
            rw [Go.WideShapes.add_plain]
            exact hnA.cell 0
          have HS4 : Aside (IOwn (wr.alloc (.cells #[.int .i64 (-6)] 3)) w7.heap.size (.slice aa kk cc) Zj ∧ we.grownBy (wr.alloc (.cells #[.int .i64 (-6)] 3)) (some g1)) := ⟨own_after HS.out.1 hbA, grownBy_more HS.out.2.2 (grown_of_below hbA) (fun j hj => by cases hj)⟩
          have HSB2 : Aside (∀ j, (Value.slice aa kk cc).ownBlock = some j → j = g1 ∨ we.heap.size ≤ j) := HS.out.2.1
          have hszA : w7.heap.size ≤ (wr.alloc (.cells #[.int .i64 (-6)] 3)).heap.size := Nat.le_trans HBe.out.size HS4.out.2.size
          have HWS : Hid (we.heap.size ≤ (wr.alloc (.cells #[.int .i64 (-6)] 3)).heap.size) := HS4.out.2.size
          have HCA : Aside _ := hcA
          have hpl2 : Zj.length + [(-6 : Int)].length ≤ 1099511627776 := by simp; omega
          have hzk : Zj.length ≤ k1 + j := by omega
          clear hbA hnA hcA HS hkkl
          go_wp2_with (first | (at_builtin; refine wpList_append_ints rfl _ _ rfl w7.heap.size _ Zj rfl HS4.out.1 [-6] ⟨wr.heap.size, 0, none⟩ _ rfl HCA.out hpl2 hszA ?_; intro a8 c8 wq hown8 hgr8 hnil8 hat8))
          have HS5 : Aside (IOwn wq w7.heap.size (.slice a8 (Zj.length + [(-6 : Int)].length) c8) (Zj ++ [-6]) ∧ (∀ j, (Value.slice a8 (Zj.length + [(-6 : Int)].length) c8).ownBlock = some j → j = g1 ∨ we.heap.size ≤ j) ∧ we.grownBy wq (some g1)) := ⟨hown8, fun u hu => by
            rcases hat8 with e | e
            · exact HSB2.out u (e.symm.trans hu)
            · rw [e] at hu
              have h1 : (wr.alloc (.cells #[.int .i64 (-6)] 3)).heap.size = u := by simpa using hu
              exact .inr (by have := HWS.out; omega), grownBy_more HS4.out.2 hgr8 (fun u hu => HSB2.out u hu)⟩
          clear hown8 hgr8 hnil8 hat8 HS4 HSB2 HCA HWS
          go_roundg (9 - (j + 1))
          case measure => omega
          case rel => exact ⟨j + 1, a8, _, c8, _, by first | rfl | go_num, by first | rfl | simp, by omega, Nat.le_refl _, by simp; omega, HS5⟩
        · have hjlz : ¬ (j : Int) < 9 := by omega
          have hgz : we.grownBy wr (Value.slice (some ⟨g1, 0, none⟩) k1 c1).ownBlock := HS.out.2.2
          have HTz : Aside (IOwn wr w8.heap.size (.slice (some ⟨g2, 0, none⟩) k2 c2) X2) := own_grown HTe.out hgz (fun g hg1 hg2 => by
            have e1 : g1 = g := by simpa [Value.ownBlock] using hg1
            have e2 : g2 = g := by simpa [Value.ownBlock] using hg2
            have := HG12.out
            omega)
          have HBz : Aside (Below w7.heap.size w7 wr) := HBe.out.grown hgz HBe.out.size (fun k hk => by
            have e1 : g1 = k := by simpa [Value.ownBlock] using hk
            have := HG12.out
            omega)
          have HWz : Aside (IOwn wr w4.heap.size (.slice aw nw cw) X2) := own_after HW7.out HBz.out
          have h4z := HB7.out.trans (HBz.out.mono HB7.out.size)
          have HAz : Aside (Numb wr a kz cz zs) := HA4.out.below h4z
          have HYz : Aside (Numb wr b ky cy ys) := HY4.out.below h4z
          have HB4z : Aside (Below w.heap.size w wr) := HB4.out.trans (h4z.mono HB4.out.size)
          have hq2 := sameInts_any _ _ X2 X2 wr.heap.size wr.heap.size wr HTz.out.ints HWz.out.ints (by omega) (by omega)
          rw [show decide (X2 = X2) = true by simp] at hq2
          clear HS HTe HOe h4z
          go_wp2_with fail
          refine hq2.mono ?_
          rintro e u1 ⟨rfl, hu1⟩
          have hkp1 := kept_any ((HLA7.out.go HBz.out).go hu1) HA.out.int (HAz.out.below hu1)
          clear hq2
          go_wp2_with fail
          refine hkp1.mono ?_
          rintro e u2 ⟨rfl, hu2⟩
          have hu12 := hu1.trans (hu2.mono hu1.size)
          have hkp2 := kept_any ((HLB7.out.go HBz.out).go hu12) HB.out.int (HYz.out.below hu12)
          clear hkp1
          go_wp2_with fail
          refine hkp2.mono ?_
          rintro e u3 ⟨rfl, hu3⟩
          have hu13 := hu12.trans (hu3.mono hu12.size)
          clear hkp2 hu12 hu1 hu2 hu3
          have hfz := form_load HL.out ((HD7.out.below HBz.out).below hu13) ((HNA.out.below HBz.out).below hu13)
          go_wp2_with fail
          refine hfz.mono ?_
          intro e u4 hpost
          obtain ⟨g4, k4, c4, X4, rfl, ho4, hf4, hu4⟩ := hpost.formed
          obtain rfl : X4 = X2 := hf4.form.same HFX.out
          have hu14 := hu13.trans (hu4.mono hu13.size)
          have hq3 := sameInts_any _ _ X4 X4 u4.heap.size u4.heap.size u4 ho4.ints (IOwn.ints (own_after HWz.out hu14)) (by omega) (by omega)
          rw [show decide (X4 = X4) = true by simp] at hq3
          clear hfz hpost ho4 hf4
          go_wp2_with fail
          refine hq3.mono ?_
          rintro e u5 ⟨rfl, hu5⟩
          go_wp2
          go_ret
          have h15 := hu14.trans (hu5.mono hu14.size)
          exact ⟨rfl, HB4z.out.trans (h15.mono HB4z.out.size)⟩
end Go.Proofs.YtadbkkakjekopaaDoor
