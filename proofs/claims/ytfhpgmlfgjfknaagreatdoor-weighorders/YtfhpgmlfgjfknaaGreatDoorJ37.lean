/- Contracts and lemmas (nothing is claimed here). -/
import Derived.Test.YtfhpgmlfgjfknaaGreatDoorJ36
import Derived.Test.YtfhpgmlfgjfknaaGreatDoorJ25
import Derived.BigRegion
import Derived.RegionTactic
import Derived.ChangeAlike
namespace Go.Proofs.YtfhpgmlfgjfknaaGreatDoor
open Go.ChangeShapes Go.WideShapes Go.ChangeAt Go.RowKit Go.Vf Go.Maps
theorem sgn_of {s : Int} {sh back : Bool} {xs ys : List El} (hx : ∀ e ∈ xs, WtOk e) (hy : ∀ e ∈ ys, WtOk e) : cmpL (keyG s sh back xs 0).data.toList (keyG s sh back ys 0).data.toList = cmpG s sh back xs ys 0 0 := by
  simp [keyG, cmpG, bs_data, key_cmp hx hy]
theorem pre_of {s : Int} {sh back : Bool} {xs ys : List El} (hx : ∀ e ∈ xs, WtOk e) (hy : ∀ e ∈ ys, WtOk e) : ¬ ((keyG s sh back ys 0).size < (keyG s sh back xs 0).size ∧ (keyG s sh back xs 0).extract 0 (keyG s sh back ys 0).size = keyG s sh back ys 0) := by
  have := key_pre (s := s.toNat) (sh := sh) (back := back) hx hy
  simpa [keyG] using this
theorem neg_of {s : Int} {sh back : Bool} {xs ys : List El} (hx : ∀ e ∈ xs, WtOk e) (hy : ∀ e ∈ ys, WtOk e) : cmpG s sh back ys xs 0 0 = - cmpG s sh back xs ys 0 0 := by
  rw [← sgn_of hx hy, ← sgn_of hy hx, cmpL_neg]
theorem same_of {s : Int} {sh back : Bool} {xs : List El} (hx : ∀ e ∈ xs, WtOk e) : cmpG s sh back xs xs 0 0 = 0 := by
  rw [← sgn_of hx hx, cmpL_same]
theorem three_cmp {s : Int} {sh back : Bool} {xs ys : List El} (hx : ∀ e ∈ xs, WtOk e) (hy : ∀ e ∈ ys, WtOk e) : cmpG s sh back xs ys 0 0 = -1 ∨ cmpG s sh back xs ys 0 0 = 0 ∨ cmpG s sh back xs ys 0 0 = 1 := by
  rw [← sgn_of hx hy]
  exact cmpL_three _ _
theorem trans_of {s : Int} {sh back : Bool} {xs ys zs : List El} (hx : ∀ e ∈ xs, WtOk e) (hy : ∀ e ∈ ys, WtOk e) (hz : ∀ e ∈ zs, WtOk e) : (cmpG s sh back xs ys 0 0 ≤ 0 → cmpG s sh back ys zs 0 0 ≤ 0 → cmpG s sh back xs zs 0 0 ≤ 0) ∧ (0 ≤ cmpG s sh back xs ys 0 0 → 0 ≤ cmpG s sh back ys zs 0 0 → 0 ≤ cmpG s sh back xs zs 0 0) := by
  refine ⟨?_, ?_⟩
  · rw [← sgn_of hx hy, ← sgn_of hy hz, ← sgn_of hx hz]
    exact cmpL_le
  · intro h1 h2
    have n1 := neg_of (s := s) (sh := sh) (back := back) hx hy
    have n2 := neg_of (s := s) (sh := sh) (back := back) hy hz
    have n3 := neg_of (s := s) (sh := sh) (back := back) hx hz
    have h : cmpG s sh back zs ys 0 0 ≤ 0 → cmpG s sh back ys xs 0 0 ≤ 0 → cmpG s sh back zs xs 0 0 ≤ 0 := by
      rw [← sgn_of hz hy, ← sgn_of hy hx, ← sgn_of hz hx]
      exact cmpL_le
    omega
theorem size_of (s : Int) (sh back : Bool) (xs : List El) (hs : 1 ≤ s ∧ s ≤ 4) (hf : xs.length ≤ 60000000) : (keyG s sh back xs 0).size % 2 = 0 ∧ 2 * s ≤ ((keyG s sh back xs 0).size : Int) ∧ (keyG s sh back xs 0).size ≤ 600000000 := by
  have h1 := key_even s.toNat sh back xs
  have h2 := keyLv_len s.toNat sh back xs hf
  have h3 : (keyG s sh back xs 0).size = (keyLv s.toNat sh back xs).length := by simp [keyG, bs_size]
  have h4 : s.toNat * 120000002 ≤ 4 * 120000002 := Nat.mul_le_mul_right _ (by omega)
  omega
set_option maxHeartbeats 8000000 in
set_option maxRecDepth 20000 in
theorem orders_any (m e : ByteArray) (hm : m.size ≤ 1048576) (he : e.size ≤ 1048576) (s : Int) (hs : InI s) (sh back : Bool) (a b x : ByteArray) (ha : a.size ≤ 1048576) (hb : b.size ≤ 1048576) (hxx : x.size ≤ 1048576) (w : World) (hg : Glob w) (htb : Tabs w) :
    Calls Tryz.prog 3 #[.agg #[.string m, .string e], caseA s sh back a b x] w fun e w' => e = .returned (.bool true) ∧ Below w.heap.size w w' := by
  have hb0 := (Below.refl w.heap.size w).alloc (Nat.le_refl _) (.cells #[.string m, .string e] 23)
  have hn0 := Blk.new w 23 #[.string m, .string e]
  have hb1 := hb0.alloc hb0.size (.cells #[.int .i64 s, .bool sh, .bool back, .string a, .string b, .string x] 27)
  have hn1 := Blk.new (w.alloc (.cells #[.string m, .string e] 23)) 27 #[.int .i64 s, .bool sh, .bool back, .string a, .string b, .string x]
  have hn01 := hn0.below ((Below.refl _ _).alloc (Nat.le_refl _) (.cells #[.int .i64 s, .bool sh, .bool back, .string a, .string b, .string x] 27)) hn0.lt
  have hs1 : (w.alloc (.cells #[.string m, .string e] 23)).heap.size = w.heap.size + 1 := by simp
  have hs2 : ((w.alloc (.cells #[.string m, .string e] 23)).alloc (.cells #[.int .i64 s, .bool sh, .bool back, .string a, .string b, .string x] 27)).heap.size = w.heap.size + 2 := by simp
  rw [hs1] at hn1
  have HG : Aside (Glob w) := hg
  have HTB : Aside (Tabs w) := htb
  clear hg htb
  unfold caseA
  go_enter Tryz.func3, Tryz.ntmps3
  go_upto_region 1 with fail
  generalize (w.alloc (.cells #[.string m, .string e] 23)).alloc (.cells #[.int .i64 s, .bool sh, .bool back, .string a, .string b, .string x] 27) = W1 at hb1 hn1 hn01 hs2 ⊢
  clear hb0 hn0 hs1
  have hx := (Below.refl W1.heap.size W1).alloc (Nat.le_refl _) (.cells #[.int .i64 0, .bool false, .bool false] 25)
  have d0 : W1.cell? ⟨w.heap.size + 1, 0, none⟩ = some (.int .i64 s) := hn1.cell 0
  have d1 : W1.cell? ⟨w.heap.size + 1, 1, none⟩ = some (.bool sh) := hn1.cell 1
  have d2 : W1.cell? ⟨w.heap.size + 1, 2, none⟩ = some (.bool back) := hn1.cell 2
  have d3 : W1.cell? ⟨w.heap.size + 1, 3, none⟩ = some (.string a) := hn1.cell 3
  have d4 : W1.cell? ⟨w.heap.size + 1, 4, none⟩ = some (.string b) := hn1.cell 4
  have d5 : W1.cell? ⟨w.heap.size + 1, 5, none⟩ = some (.string x) := hn1.cell 5
  have e5 := (hx.cell (p := ⟨w.heap.size + 1, 5, none⟩) hn1.lt).trans d5
  have e0 := (hx.cell (p := ⟨w.heap.size + 1, 0, none⟩) hn1.lt).trans d0
  have e1 := (hx.cell (p := ⟨w.heap.size + 1, 1, none⟩) hn1.lt).trans d1
  have e2 := (hx.cell (p := ⟨w.heap.size + 1, 2, none⟩) hn1.lt).trans d2
  have e3 := (hx.cell (p := ⟨w.heap.size + 1, 3, none⟩) hn1.lt).trans d3
  have e4 := (hx.cell (p := ⟨w.heap.size + 1, 4, none⟩) hn1.lt).trans d4
  have hb2 : Below w.heap.size w (W1.alloc (.cells #[.int .i64 s, .bool sh, .bool back] 25)).drew := (hb1.alloc hb1.size (.cells #[.int .i64 s, .bool sh, .bool back] 25)).drew
  have hC2' := Blk.new W1 25 #[.int .i64 s, .bool sh, .bool back]
  rw [hs2] at hC2'
  have hC2 : Blk (W1.alloc (.cells #[.int .i64 s, .bool sh, .bool back] 25)).drew (w.heap.size + 2) 25 #[.int .i64 s, .bool sh, .bool back] := hC2'
  have hM2 : Blk (W1.alloc (.cells #[.int .i64 s, .bool sh, .bool back] 25)).drew w.heap.size 23 #[.string m, .string e] := hn01.below ((Below.refl W1.heap.size W1).alloc (Nat.le_refl _) (.cells #[.int .i64 s, .bool sh, .bool back] 25)).drew hn01.lt
  clear hC2'
  go_region
  clear d5 e5 d0 d1 d2 d3 d4 e0 e1 e2 e3 e4 hx hn1 hn01 hb1
  generalize (W1.alloc (.cells #[.int .i64 s, .bool sh, .bool back] 25)).drew = W2 at hb2 hC2 hM2 ⊢
  have m0 : W2.cell? ⟨w.heap.size, 0, none⟩ = some (.string m) := hM2.cell 0
  have m1 : W2.cell? ⟨w.heap.size, 1, none⟩ = some (.string e) := hM2.cell 1
  have hCl : w.heap.size + 2 < W2.heap.size := hC2.lt
  go_wp2_with fail
  refine (loadW_up m e (by omega) (by omega) W2 (HG.out.below hb2)).mono ?_
  clear m0 m1
  rintro r w3 ⟨hb3, ⟨why, which, line, hl, hy0, rfl⟩ | ⟨L, F, E, tb, bd, T, hl, hR, rfl, hT3⟩⟩
  · have hy1 : (why == 0) = false := by simpa using hy0
    have hy2 : (why != 0) = true := by simpa using hy0
    have hb03 := hb2.trans (hb3.mono hb2.size)
    have haw := awake_any w3 (HG.out.below hb03) (HTB.out.own hb03)
    clear hl
    go_wp2_with fail
    refine haw.mono ?_
    rintro _ w4 ⟨rfl, hb4⟩
    go_wp2
    go_ret
    exact ⟨rfl, hb03.trans (hb4.mono hb03.size)⟩
  · have h57 : ∀ L F, loadR m.data.toList = .ok (L, F) → ∀ q, (partsR' F q).length ≤ 57 := by
      intro L' F' h q
      rw [hR] at h
      cases h
      exact (hT3.tb.data.plen q).1
    have H57 : Aside (∀ L F, loadR m.data.toList = .ok (L, F) → ∀ q, (partsR' F q).length ≤ 57) := h57
    have HT3 : Aside (TbUp w3 W2.heap.size tb bd T L F E) := hT3
    have hb03 := hb2.trans (hb3.mono hb2.size)
    have hM3 := hM2.below hb3 hM2.lt
    have hC3 := hC2.below hb3 hC2.lt
    have m0 : w3.cell? ⟨w.heap.size, 0, none⟩ = some (.string m) := hM3.cell 0
    have m1 : w3.cell? ⟨w.heap.size, 1, none⟩ = some (.string e) := hM3.cell 1
    clear hl hR h57 hT3 hM2 hC2
    go_wp2_with fail
    refine (wlight_any m e a (by omega) (by omega) (by omega) H57.out w3).mono ?_
    clear m0 m1
    rintro _ w4 ⟨⟨la, rfl⟩, hb4⟩
    have HT4 : Aside (TbUp w4 W2.heap.size tb bd T L F E) := HT3.out.below hb4
    have hb04 := hb03.trans (hb4.mono hb03.size)
    have hM4 := hM3.below hb4 hM3.lt
    have hC4 := hC3.below hb4 hC3.lt
    have m0 : w4.cell? ⟨w.heap.size, 0, none⟩ = some (.string m) := hM4.cell 0
    have m1 : w4.cell? ⟨w.heap.size, 1, none⟩ = some (.string e) := hM4.cell 1
    clear HT3 hM3 hC3
    cases la with
    | false =>
      go_wp2_with fail
      go_ret
      exact ⟨rfl, hb04⟩
    | true =>
      go_wp2_with fail
      refine (wlight_any m e b (by omega) (by omega) (by omega) H57.out w4).mono ?_
      clear m0 m1
      rintro _ w5 ⟨⟨lb, rfl⟩, hb5⟩
      have HT5 : Aside (TbUp w5 W2.heap.size tb bd T L F E) := HT4.out.below hb5
      have hb05 := hb04.trans (hb5.mono hb04.size)
      have hM5 := hM4.below hb5 hM4.lt
      have hC5 := hC4.below hb5 hC4.lt
      have m0 : w5.cell? ⟨w.heap.size, 0, none⟩ = some (.string m) := hM5.cell 0
      have m1 : w5.cell? ⟨w.heap.size, 1, none⟩ = some (.string e) := hM5.cell 1
      clear HT4 hM4 hC4
      cases lb with
      | false =>
        go_wp2_with fail
        go_ret
        exact ⟨rfl, hb05⟩
      | true =>
       go_wp2_with fail
       refine (wlight_any m e x (by omega) (by omega) (by omega) H57.out w5).mono ?_
       clear m0 m1
       rintro _ w6 ⟨⟨lx, rfl⟩, hb6⟩
       have HT6 : Aside (TbUp w6 W2.heap.size tb bd T L F E) := HT5.out.below hb6
       have hb06 := hb05.trans (hb6.mono hb05.size)
       have hC6 := hC5.below hb6 hC5.lt
       clear HT5 hM5 hC5
       cases lx with
       | false =>
        go_wp2_with fail
        go_ret
        exact ⟨rfl, hb06⟩
       | true =>
        obtain ⟨xs, ea, hA⟩ := welF_any HT6.out.tb s hs sh back a
        obtain ⟨ys, eb, hB⟩ := welF_any HT6.out.tb s hs sh back b
        obtain ⟨zs, ez, hZ⟩ := welF_any HT6.out.tb s hs sh back x
        have HA : Aside (WelF tb bd T L F E s sh back a xs ea) := hA
        have HB : Aside (WelF tb bd T L F E s sh back b ys eb) := hB
        have HZ : Aside (WelF tb bd T L F E s sh back x zs ez) := hZ
        clear hA hB hZ H57
        have r0 : w6.cell? ⟨w.heap.size + 2, 0, none⟩ = some (.int .i64 s) := hC6.cell 0
        have r1 : w6.cell? ⟨w.heap.size + 2, 1, none⟩ = some (.bool sh) := hC6.cell 1
        have r2 : w6.cell? ⟨w.heap.size + 2, 2, none⟩ = some (.bool back) := hC6.cell 2
        go_wp2_with fail
        refine (key_g HA.out HT6.out.tb (HTB.out.own hb06)).mono ?_
        clear r0 r1 r2
        rintro _ w7 ⟨rfl, hb7⟩
        have HT7 : Aside (TbUp w7 W2.heap.size tb bd T L F E) := HT6.out.below hb7
        have hb07 := hb06.trans (hb7.mono hb06.size)
        have hC7 := hC6.below hb7 hC6.lt
        have r0 : w7.cell? ⟨w.heap.size + 2, 0, none⟩ = some (.int .i64 s) := hC7.cell 0
        have r1 : w7.cell? ⟨w.heap.size + 2, 1, none⟩ = some (.bool sh) := hC7.cell 1
        have r2 : w7.cell? ⟨w.heap.size + 2, 2, none⟩ = some (.bool back) := hC7.cell 2
        clear HT6 hC6 hb06 hb7
        go_wp2_with fail
        refine (key_g HB.out HT7.out.tb (HTB.out.own hb07)).mono ?_
        clear r0 r1 r2
        rintro _ w8 ⟨rfl, hb8⟩
        have HT8 : Aside (TbUp w8 W2.heap.size tb bd T L F E) := HT7.out.below hb8
        have hb08 := hb07.trans (hb8.mono hb07.size)
        have hC8 := hC7.below hb8 hC7.lt
        have r0 : w8.cell? ⟨w.heap.size + 2, 0, none⟩ = some (.int .i64 s) := hC8.cell 0
        have r1 : w8.cell? ⟨w.heap.size + 2, 1, none⟩ = some (.bool sh) := hC8.cell 1
        have r2 : w8.cell? ⟨w.heap.size + 2, 2, none⟩ = some (.bool back) := hC8.cell 2
        clear HT7 hC7 hb07 hb8
        go_wp2_with fail
        refine (key_g HZ.out HT8.out.tb (HTB.out.own hb08)).mono ?_
        clear r0 r1 r2
        rintro _ w9 ⟨rfl, hb9⟩
        have HT9 : Aside (TbUp w9 W2.heap.size tb bd T L F E) := HT8.out.below hb9
        have hb09 := hb08.trans (hb9.mono hb08.size)
        have hC9 := hC8.below hb9 hC8.lt
        have r0 : w9.cell? ⟨w.heap.size + 2, 0, none⟩ = some (.int .i64 s) := hC9.cell 0
        have r1 : w9.cell? ⟨w.heap.size + 2, 1, none⟩ = some (.bool sh) := hC9.cell 1
        have r2 : w9.cell? ⟨w.heap.size + 2, 2, none⟩ = some (.bool back) := hC9.cell 2
        clear HT8 hC8 hb08 hb9
        go_wp2_with fail
        refine (cmp_g HA.out HB.out HT9.out.tb (HTB.out.own hb09)).mono ?_
        clear r0 r1 r2
        rintro _ w10 ⟨rfl, hb10⟩
        have HT10 : Aside (TbUp w10 W2.heap.size tb bd T L F E) := HT9.out.below hb10
        have hb010 := hb09.trans (hb10.mono hb09.size)
        have hC10 := hC9.below hb10 hC9.lt
        have r0 : w10.cell? ⟨w.heap.size + 2, 0, none⟩ = some (.int .i64 s) := hC10.cell 0
        have r1 : w10.cell? ⟨w.heap.size + 2, 1, none⟩ = some (.bool sh) := hC10.cell 1
        have r2 : w10.cell? ⟨w.heap.size + 2, 2, none⟩ = some (.bool back) := hC10.cell 2
        clear HT9 hC9 hb09 hb10
        have haw := awake_any w10 (HG.out.below hb010) (HTB.out.own hb010)
        rcases HA.out.why with rfl | rfl | rfl | rfl
        · rcases HB.out.why with rfl | rfl | rfl | rfl
          · have q2 : errG 0 0 = 0 := rfl
            rw [q2]
            have S1 : Hid (_ = _) := sgn_of (s := s) (sh := sh) (back := back) HA.out.ok HB.out.ok
            rcases HZ.out.why with rfl | rfl | rfl | rfl
            · clear haw
              go_wp2_with fail
              refine (cmp_g HB.out HA.out HT10.out.tb (HTB.out.own hb010)).mono ?_
              clear r0 r1 r2
              rintro _ w11 ⟨rfl, hb11⟩
              have HT11 : Aside (TbUp w11 W2.heap.size tb bd T L F E) := HT10.out.below hb11
              have hb011 := hb010.trans (hb11.mono hb010.size)
              have hC11 := hC10.below hb11 hC10.lt
              have r0 : w11.cell? ⟨w.heap.size + 2, 0, none⟩ = some (.int .i64 s) := hC11.cell 0
              have r1 : w11.cell? ⟨w.heap.size + 2, 1, none⟩ = some (.bool sh) := hC11.cell 1
              have r2 : w11.cell? ⟨w.heap.size + 2, 2, none⟩ = some (.bool back) := hC11.cell 2
              clear HT10 hC10 hb010 hb11
              rw [neg_of HA.out.ok HB.out.ok, q2]
              go_wp2_with fail
              refine (cmp_g HB.out HZ.out HT11.out.tb (HTB.out.own hb011)).mono ?_
              clear r0 r1 r2
              rintro _ w12 ⟨rfl, hb12⟩
              have HT12 : Aside (TbUp w12 W2.heap.size tb bd T L F E) := HT11.out.below hb12
              have hb012 := hb011.trans (hb12.mono hb011.size)
              have hC12 := hC11.below hb12 hC11.lt
              have r0 : w12.cell? ⟨w.heap.size + 2, 0, none⟩ = some (.int .i64 s) := hC12.cell 0
              have r1 : w12.cell? ⟨w.heap.size + 2, 1, none⟩ = some (.bool sh) := hC12.cell 1
              have r2 : w12.cell? ⟨w.heap.size + 2, 2, none⟩ = some (.bool back) := hC12.cell 2
              clear HT11 hC11 hb011 hb12
              rw [q2]
              go_wp2_with fail
              refine (cmp_g HA.out HZ.out HT12.out.tb (HTB.out.own hb012)).mono ?_
              clear r0 r1 r2
              rintro _ w13 ⟨rfl, hb13⟩
              have HT13 : Aside (TbUp w13 W2.heap.size tb bd T L F E) := HT12.out.below hb13
              have hb013 := hb012.trans (hb13.mono hb012.size)
              have hC13 := hC12.below hb13 hC12.lt
              have r0 : w13.cell? ⟨w.heap.size + 2, 0, none⟩ = some (.int .i64 s) := hC13.cell 0
              have r1 : w13.cell? ⟨w.heap.size + 2, 1, none⟩ = some (.bool sh) := hC13.cell 1
              have r2 : w13.cell? ⟨w.heap.size + 2, 2, none⟩ = some (.bool back) := hC13.cell 2
              clear HT12 hC12 hb012 hb13
              rw [q2]
              go_wp2_with fail
              refine (cmp_g HA.out HA.out HT13.out.tb (HTB.out.own hb013)).mono ?_
              clear r0 r1 r2
              rintro _ w14 ⟨rfl, hb14⟩
              have HT14 : Aside (TbUp w14 W2.heap.size tb bd T L F E) := HT13.out.below hb14
              have hb014 := hb013.trans (hb14.mono hb013.size)
              have hC14 := hC13.below hb14 hC13.lt
              have r0 : w14.cell? ⟨w.heap.size + 2, 0, none⟩ = some (.int .i64 s) := hC14.cell 0
              have r1 : w14.cell? ⟨w.heap.size + 2, 1, none⟩ = some (.bool sh) := hC14.cell 1
              have r2 : w14.cell? ⟨w.heap.size + 2, 2, none⟩ = some (.bool back) := hC14.cell 2
              clear HT13 hC13 hb013 hb14
              rw [same_of HA.out.ok, q2]
              have haw := awake_any w14 (HG.out.below hb014) (HTB.out.own hb014)
              have S2 : Hid (_ = _) := sgn_of (s := s) (sh := sh) (back := back) HB.out.ok HZ.out.ok
              have S3 : Hid (_ = _) := sgn_of (s := s) (sh := sh) (back := back) HA.out.ok HZ.out.ok
              have P1 : Hid (¬ _) := pre_of (s := s) (sh := sh) (back := back) HA.out.ok HB.out.ok
              have P2 : Hid (¬ _) := pre_of (s := s) (sh := sh) (back := back) HB.out.ok HA.out.ok
              have P3 : Hid (¬ _) := pre_of (s := s) (sh := sh) (back := back) HB.out.ok HZ.out.ok
              have P4 : Hid (¬ _) := pre_of (s := s) (sh := sh) (back := back) HZ.out.ok HB.out.ok
              have P5 : Hid (¬ _) := pre_of (s := s) (sh := sh) (back := back) HA.out.ok HZ.out.ok
              have P6 : Hid (¬ _) := pre_of (s := s) (sh := sh) (back := back) HZ.out.ok HA.out.ok
              have TR : Hid (_ ∧ _) := trans_of (s := s) (sh := sh) (back := back) HA.out.ok HB.out.ok HZ.out.ok
              have V1 := three_cmp (s := s) (sh := sh) (back := back) HA.out.ok HB.out.ok
              have V2 : Hid (_ ∨ _) := three_cmp (s := s) (sh := sh) (back := back) HB.out.ok HZ.out.ok
              have V3 : Hid (_ ∨ _) := three_cmp (s := s) (sh := sh) (back := back) HA.out.ok HZ.out.ok
              obtain ⟨z1, z2, z3⟩ := size_of s sh back xs (HA.out.rg rfl) HA.out.few
              have hs4 := HA.out.rg rfl
              generalize cmpG s sh back xs ys 0 0 = cab at S1 TR V1 ⊢
              generalize cmpG s sh back ys zs 0 0 = cbx at S2 TR V2 ⊢
              generalize cmpG s sh back xs zs 0 0 = cax at S3 TR V3 ⊢
              generalize keyG s sh back xs 0 = k1 at S1 S3 P1 P2 P5 P6 z1 z2 z3 ⊢
              generalize keyG s sh back ys 0 = k2 at S1 S2 P1 P2 P3 P4 ⊢
              generalize keyG s sh back zs 0 = k3 at S2 S3 P3 P4 P5 P6 ⊢
              have g1 : Int.tmod (k1.size : Int) 2 = 0 := by rw [Int.tmod_eq_emod_of_nonneg (by omega)]; omega
              have g2 : (k1.size : Int) % 2 = 0 := by omega
              have g3 : decide ((k1.size : Int) < 2 * s) = false := by simp; omega
              clear r1 r2 HA HB HZ
              have hv1 : -1 ≤ cab := by omega
              have hv2 : cab ≤ 1 := by omega
              have V0 : Hid (_ ∨ _) := V1
              clear V1
              go_wp2_with fail
              refine (sign_any _ _ w14).mono ?_
              rintro _ _ ⟨rfl, rfl⟩
              rw [S1.out]
              go_wp2_with fail
              refine (sign_any _ _ w14).mono ?_
              rintro _ _ ⟨rfl, rfl⟩
              rw [S2.out]
              go_wp2_with fail
              refine (sign_any _ _ w14).mono ?_
              rintro _ _ ⟨rfl, rfl⟩
              rw [S3.out]
              go_wp2_with fail
              refine (begins_any _ _ w14 P1.out).mono ?_
              rintro _ _ ⟨rfl, rfl⟩
              go_wp2_with fail
              refine (begins_any _ _ w14 P2.out).mono ?_
              rintro _ _ ⟨rfl, rfl⟩
              go_wp2_with fail
              refine (begins_any _ _ w14 P3.out).mono ?_
              rintro _ _ ⟨rfl, rfl⟩
              go_wp2_with fail
              refine (begins_any _ _ w14 P4.out).mono ?_
              rintro _ _ ⟨rfl, rfl⟩
              go_wp2_with fail
              refine (begins_any _ _ w14 P5.out).mono ?_
              rintro _ _ ⟨rfl, rfl⟩
              go_wp2_with fail
              refine (begins_any _ _ w14 P6.out).mono ?_
              rintro _ _ ⟨rfl, rfl⟩
              go_wp2_with fail
              refine haw.mono ?_
              rintro _ W ⟨rfl, hbW⟩
              have hbe := hb014.trans (hbW.mono hb014.size)
              obtain ⟨t1, t2⟩ := TR.out
              rcases V0.out with rfl | rfl | rfl
              · by_cases hq : cbx ≤ 0
                · have d1 : decide (cbx ≤ 0) = true := by simpa using hq
                  have d2 : decide (0 < cax) = false := by have := t1 (by omega) hq; simp; omega
                  go_wp2
                  all_goals first | (go_ret; exact ⟨rfl, hbe⟩) | (exfalso; simp_all; omega)
                · have d1 : decide (cbx ≤ 0) = false := by simpa using hq
                  go_wp2
                  all_goals first | (go_ret; exact ⟨rfl, hbe⟩) | (exfalso; simp_all; omega)
              · rcases V2.out with rfl | rfl | rfl
                · have d2 : decide (0 < cax) = false := by have := t1 (by omega) (by omega); simp; omega
                  go_wp2
                  all_goals first | (go_ret; exact ⟨rfl, hbe⟩) | (exfalso; simp_all; omega)
                · have d2 : decide (0 < cax) = false := by have := t1 (by omega) (by omega); simp; omega
                  have d3 : decide (cax < 0) = false := by have := t2 (by omega) (by omega); simp; omega
                  go_wp2
                  all_goals first | (go_ret; exact ⟨rfl, hbe⟩) | (exfalso; simp_all; omega)
                · have d3 : decide (cax < 0) = false := by have := t2 (by omega) (by omega); simp; omega
                  go_wp2
                  all_goals first | (go_ret; exact ⟨rfl, hbe⟩) | (exfalso; simp_all; omega)
              · by_cases hq : 0 ≤ cbx
                · have d1 : decide (0 ≤ cbx) = true := by simpa using hq
                  have d3 : decide (cax < 0) = false := by have := t2 (by omega) hq; simp; omega
                  go_wp2
                  all_goals first | (go_ret; exact ⟨rfl, hbe⟩) | (exfalso; simp_all; omega)
                · have d1 : decide (0 ≤ cbx) = false := by simpa using hq
                  go_wp2
                  all_goals first | (go_ret; exact ⟨rfl, hbe⟩) | (exfalso; simp_all; omega)
            · clear r0 r1 r2 q2
              go_wp2_with fail
              refine haw.mono ?_
              rintro _ W ⟨rfl, hbW⟩
              go_wp2_with fail
              refine (sign_any _ _ W).mono ?_
              rintro _ _ ⟨rfl, rfl⟩
              rw [S1.out]
              go_wp2
              go_ret
              exact ⟨rfl, hb010.trans (hbW.mono hb010.size)⟩
            · clear r0 r1 r2 q2
              go_wp2_with fail
              refine haw.mono ?_
              rintro _ W ⟨rfl, hbW⟩
              go_wp2_with fail
              refine (sign_any _ _ W).mono ?_
              rintro _ _ ⟨rfl, rfl⟩
              rw [S1.out]
              go_wp2
              go_ret
              exact ⟨rfl, hb010.trans (hbW.mono hb010.size)⟩
            · clear r0 r1 r2 q2
              go_wp2_with fail
              refine haw.mono ?_
              rintro _ W ⟨rfl, hbW⟩
              go_wp2_with fail
              refine (sign_any _ _ W).mono ?_
              rintro _ _ ⟨rfl, rfl⟩
              rw [S1.out]
              go_wp2
              go_ret
              exact ⟨rfl, hb010.trans (hbW.mono hb010.size)⟩
          · have q1 : cmpG s sh back xs ys 0 1 = 0 := by simp [cmpG]
            have q2 : errG 0 1 = 1 := by simp [errG]
            rw [q1, q2]
            clear q1 q2 r0 r1 r2
            go_wp2_with fail
            refine haw.mono ?_
            rintro _ W ⟨rfl, hbW⟩
            go_wp2
            go_ret
            exact ⟨rfl, hb010.trans (hbW.mono hb010.size)⟩
          · have q1 : cmpG s sh back xs ys 0 2 = 0 := by simp [cmpG]
            have q2 : errG 0 2 = 2 := by simp [errG]
            rw [q1, q2]
            clear q1 q2 r0 r1 r2
            go_wp2_with fail
            refine haw.mono ?_
            rintro _ W ⟨rfl, hbW⟩
            go_wp2
            go_ret
            exact ⟨rfl, hb010.trans (hbW.mono hb010.size)⟩
          · have q1 : cmpG s sh back xs ys 0 30 = 0 := by simp [cmpG]
            have q2 : errG 0 30 = 30 := by simp [errG]
            rw [q1, q2]
            clear q1 q2 r0 r1 r2
            go_wp2_with fail
            refine haw.mono ?_
            rintro _ W ⟨rfl, hbW⟩
            go_wp2
            go_ret
            exact ⟨rfl, hb010.trans (hbW.mono hb010.size)⟩
        · have q1 : cmpG s sh back xs ys 1 eb = 0 := by simp [cmpG]
          have q2 : errG 1 eb = 1 := by simp [errG]
          rw [q1, q2]
          clear q1 q2 r0 r1 r2
          go_wp2_with fail
          refine haw.mono ?_
          rintro _ W ⟨rfl, hbW⟩
          go_wp2
          go_ret
          exact ⟨rfl, hb010.trans (hbW.mono hb010.size)⟩
        · have q1 : cmpG s sh back xs ys 2 eb = 0 := by simp [cmpG]
          have q2 : errG 2 eb = 2 := by simp [errG]
          rw [q1, q2]
          clear q1 q2 r0 r1 r2
          go_wp2_with fail
          refine haw.mono ?_
          rintro _ W ⟨rfl, hbW⟩
          go_wp2
          go_ret
          exact ⟨rfl, hb010.trans (hbW.mono hb010.size)⟩
        · have q1 : cmpG s sh back xs ys 30 eb = 0 := by simp [cmpG]
          have q2 : errG 30 eb = 30 := by simp [errG]
          rw [q1, q2]
          clear q1 q2 r0 r1 r2
          go_wp2_with fail
          refine haw.mono ?_
          rintro _ W ⟨rfl, hbW⟩
          go_wp2
          go_ret
          exact ⟨rfl, hb010.trans (hbW.mono hb010.size)⟩
set_option maxRecDepth 100000 in
theorem orders_open {H : Type} {enc : TypeId × Value → H} {base : Nat} {W : World} (v : Value) (d : DataW H) (pl : List MemPlace) (hok : Value.okWide Tryz.prog W .any base 23 v) (h : DataW.Trod enc Tryz.prog W 0 (fun _ => true) true 23 v d pl) (_hw : ∀ n ∈ d.weights Tryz.prog 23, n ≤ reachBytes) (hbk : Rows.uptoBulk d ≤ 1048576)
    (v1 : Value) (d1 : DataW H) (pl1 : List MemPlace) (hok1 : Value.okWide Tryz.prog W .any base 27 v1) (h1 : DataW.Trod enc Tryz.prog W 0 (fun _ => true) true 27 v1 d1 pl1) (_hw1 : ∀ n ∈ d1.weights Tryz.prog 27, n ≤ reachBytes) (hbk1 : Rows.uptoBulk d1 ≤ 1048576)
    (w : World) (hg : Glob w) (ht : Tabs w) (_hW : w = W) :
    Calls Tryz.prog 3 #[v, v1] w fun e w' => e = .returned (.bool true) ∧ Below w.heap.size w w' := by
  obtain ⟨m, e, rfl, hm, he⟩ := ttexts_open v d pl hok h hbk
  obtain ⟨s, sh, back, a, b, x, rfl, hs, ha, hb, hx⟩ := case_open v1 d1 pl1 hok1 h1 hbk1
  exact orders_any m e hm he s hs sh back a b x ha hb hx w hg ht
end Go.Proofs.YtfhpgmlfgjfknaaGreatDoor
