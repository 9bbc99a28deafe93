/- Contracts and lemmas (nothing is claimed here). -/
import Derived.Test.YtfhpgmlfgjfknaaGreatDoorJ23
import Derived.Test.YtfhpgmlfgjfknaaGreatDoorWgE
import Derived.Laws.EntriesVeiled
namespace Go.Proofs.YtfhpgmlfgjfknaaGreatDoor
open Go.RowKit Go.Vf Go.Maps
def lvC (sh back : Bool) : Array Value := #[.func (.func 59) #[] #[], .bool sh, .bool false, .func (.func 60) #[] #[], .bool sh, .bool back, .func (.func 61) #[] #[], .bool sh, .bool false, .func (.func 62) #[] #[], .bool sh, .bool false]
set_option maxHeartbeats 1000000 in
theorem levels_any (n : Nat) (hn : 1 ≤ n ∧ n ≤ 4) (sh back : Bool) (w : World) : Calls Tryz.prog 26 #[colA n sh back] w fun e w' => ∃ g, e = .returned (.slice (some ⟨g, 0, none⟩) n 4) ∧ w.heap.size ≤ g ∧ Blk w' g 79 (lvC sh back) ∧ Below w.heap.size w w' := by
  have hb0 := (Below.refl w.heap.size w).alloc (Nat.le_refl _) (.cells #[.int .i64 n, .bool sh, .bool back] 25)
  have hn0 := Blk.new w 25 #[.int .i64 n, .bool sh, .bool back]
  have c0 : (w.alloc (.cells #[.int .i64 n, .bool sh, .bool back] 25)).cell? ⟨w.heap.size, 0, none⟩ = some (.int .i64 n) := hn0.cell 0
  have c1 : (w.alloc (.cells #[.int .i64 n, .bool sh, .bool back] 25)).cell? ⟨w.heap.size, 1, none⟩ = some (.bool sh) := hn0.cell 1
  have c2 : (w.alloc (.cells #[.int .i64 n, .bool sh, .bool back] 25)).cell? ⟨w.heap.size, 2, none⟩ = some (.bool back) := hn0.cell 2
  go_enter Tryz.func26, Tryz.ntmps26
  go_upto_region 1 with fail
  generalize w.alloc (.cells #[.int .i64 n, .bool sh, .bool back] 25) = w0 at *
  have hb1 := (Below.refl w0.heap.size w0).alloc (Nat.le_refl _) (.cells (lvC sh back) 79)
  have hn1 : Blk (w0.alloc (.cells (lvC sh back) 79)) w0.heap.size 79 (lvC sh back) := Blk.new w0 79 _
  have d0 := (hb1.cell (p := ⟨w.heap.size, 0, none⟩) hn0.lt).trans c0
  unfold lvC at d0
  go_wp2_with fail
  go_ret
  exact ⟨w0.heap.size, rfl, hb0.size, hn1, hb0.trans (hb1.mono hb0.size)⟩
def LvOwn (w : World) (g : Nat) (sh back : Bool) : Prop := w.ownsRow 0 79 3 (.slice (some ⟨g, 0, none⟩) 4 4) 4 (lvC sh back).toList
theorem lv_of_blk {w : World} {g : Nat} {sh back : Bool} (h : Blk w g 79 (lvC sh back)) : LvOwn w g sh back :=
  ⟨rfl, .inr ⟨g, 4, lvC sh back, rfl, Nat.zero_le _, h, Nat.le_refl _, by unfold maxLen; omega, rfl, rfl⟩⟩
theorem lv_cells {W : World} {g : Nat} {sh back : Bool} (h : LvOwn W g sh back) (i : Nat) (hi : i < 4) : W.cell? ⟨g, i * 3, none⟩ = some (.func (.func (59 + i)) #[] #[]) ∧ W.cell? ⟨g, i * 3 + 1, none⟩ = some (.bool sh) ∧ W.cell? ⟨g, i * 3 + 2, none⟩ = some (.bool (decide (i = 1) && back)) := by
  have hc : ∀ j u, (lvC sh back).toList[j]? = some u → W.cell? ⟨g, j, none⟩ = some u := fun j u hu => by
    have := World.ownsRow.cells (g := g) h rfl j u hu
    rwa [show (⟨g, 0, none⟩ : Addr).add j = ⟨g, j, none⟩ by by_cases hj : j = 0 <;> simp [Addr.add, hj]] at this
  match i, hi with
  | 0, _ => exact ⟨hc 0 _ rfl, hc 1 _ rfl, hc 2 _ rfl⟩
  | 1, _ => exact ⟨hc 3 _ rfl, hc 4 _ rfl, hc 5 _ rfl⟩
  | 2, _ => exact ⟨hc 6 _ rfl, hc 7 _ rfl, hc 8 _ rfl⟩
  | 3, _ => exact ⟨hc 9 _ rfl, hc 10 _ rfl, hc 11 _ rfl⟩
theorem lev_eq (sh back : Bool) (k : Nat) (es : List El) : (if (decide (k = 1) && back) = true then (lvl sh k false es).reverse else lvl sh k false es) = lev sh back k es := by
  unfold lev
  simp only [Bool.and_eq_true, decide_eq_true_eq]
theorem range_drop {n i : Nat} (h : i < n) : (List.range n).drop i = i :: (List.range n).drop (i + 1) := by
  rw [List.drop_eq_getElem_cons (by simpa using h)]
  simp
def KeyPost (s : Int) (sh back : Bool) (es : List El) (er : Int) (w : World) (e : Ending) (w' : World) : Prop :=
  Below w.heap.size w w' ∧ ((er = 0 ∧ e = .returned (.tuple #[.string (bs (keyLv s.toNat sh back es)), .int .i64 0])) ∨ (er ≠ 0 ∧ e = .returned (.tuple #[.string ⟨#[]⟩, .int .i64 er])))
set_option maxHeartbeats 4000000 in
set_option maxRecDepth 20000 in
theorem key_any {es : List El} {er : Int} {b : Nat} {s : Int} {sh back : Bool} {txt : ByteArray} {w : World} (hok : ∀ e ∈ es, WtOk e) (hes : es.length ≤ 60000000) (hs : er = 0 → 1 ≤ s ∧ s ≤ 4)
    (hel : ∀ W, Below w.heap.size w W → Calls Tryz.prog 25 #[.pointer (some ⟨b, 0, none⟩), colA s sh back, .string txt] W fun e w' => ElPost es er W e w') :
    Calls Tryz.prog 12 #[.pointer (some ⟨b, 0, none⟩), colA s sh back, .string txt] w fun e w' => KeyPost s sh back es er w e w' := by
  have hb0 := (Below.refl w.heap.size w).alloc (Nat.le_refl _) (.cells #[.int .i64 s, .bool sh, .bool back] 25)
  have hn0 := Blk.new w 25 #[.int .i64 s, .bool sh, .bool back]
  have c0 : (w.alloc (.cells #[.int .i64 s, .bool sh, .bool back] 25)).cell? ⟨w.heap.size, 0, none⟩ = some (.int .i64 s) := hn0.cell 0
  have c1 : (w.alloc (.cells #[.int .i64 s, .bool sh, .bool back] 25)).cell? ⟨w.heap.size, 1, none⟩ = some (.bool sh) := hn0.cell 1
  have c2 : (w.alloc (.cells #[.int .i64 s, .bool sh, .bool back] 25)).cell? ⟨w.heap.size, 2, none⟩ = some (.bool back) := hn0.cell 2
  have hel0 := hel _ hb0
  clear hel
  obtain ⟨i5, hi5, hz0, hz1, hz2⟩ := info_parts info5
  go_enter Tryz.func12, Tryz.ntmps12
  go_wp2_with fail
  generalize w.alloc (.cells #[.int .i64 s, .bool sh, .bool back] 25) = w0 at *
  refine hel0.mono ?_
  rintro r w1 ⟨hb1, ⟨rfl, v1, rfl, hown1⟩ | ⟨her, rfl⟩⟩
  · obtain ⟨n, rfl⟩ : ∃ n : Nat, s = (n : Int) := ⟨s.toNat, by have := hs rfl; omega⟩
    have hn : 1 ≤ n ∧ n ≤ 4 := by have := hs rfl; omega
    have hb01 := hb0.trans (hb1.mono hb0.size)
    have k0 := (hb1.cell (p := ⟨w.heap.size, 0, none⟩) hn0.lt).trans c0
    have k1 := (hb1.cell (p := ⟨w.heap.size, 1, none⟩) hn0.lt).trans c1
    have k2 := (hb1.cell (p := ⟨w.heap.size, 2, none⟩) hn0.lt).trans c2
    obtain ⟨ea, ec, rfl, _⟩ := hown1.cap
    have HE1 : Aside (Els w1.heap.size w1 (.slice ea es.length ec) es) := EOwn.els hown1
    clear hs c0 c1 c2 hown1 hel0
    generalize hR : keyLv (n : Int).toNat sh back es = R
    have HR : Hid ([] ++ levs sh back es ((List.range n).drop 0) = R) := by show _ = _; rw [← hR]; simp [keyLv]
    have HKQ : Hid _ := hR
    clear hR
    go_upto_region 4 with fail
    go_cut [10] from 23 to 30 (fun kv wx => ∃ g c, kv = .slice (some ⟨g, 0, none⟩) 0 c ∧ Aside (BOwn 5 wx w1.heap.size (.slice (some ⟨g, 0, none⟩) 0 c) []) ∧ Below w1.heap.size w1 wx)
    case first =>
      clear HR
      have hmx : 600000000 ≤ maxLen := by unfold maxLen; omega
      obtain rfl | rfl | rfl | rfl : n = 1 ∨ n = 2 ∨ n = 3 ∨ n = 4 := by omega
      · go_wp2_with (first | (refine wpList_make_own _ rfl _ _ 74 rfl w1.heap.size 5 i5 (.int .u8 0) 1 Tryz.underlying74 hi5 hz0 hz1 .i64 .i64 _ (2 * (es.length + 1)) rfl rfl (by omega) (by rw [hz2]; omega) (by omega) (Nat.le_refl _) ?_; intro w2 hown2 hg2))
        go_meet
        exact ⟨_, _, rfl, hown2, (Below.refl _ w1).grown hg2 (Nat.le_refl _) (fun j hj => by cases hj)⟩
      · go_wp2_with (first | (refine wpList_make_own _ rfl _ _ 74 rfl w1.heap.size 5 i5 (.int .u8 0) 1 Tryz.underlying74 hi5 hz0 hz1 .i64 .i64 _ (4 * (es.length + 1)) rfl rfl (by omega) (by rw [hz2]; omega) (by omega) (Nat.le_refl _) ?_; intro w2 hown2 hg2))
        go_meet
        exact ⟨_, _, rfl, hown2, (Below.refl _ w1).grown hg2 (Nat.le_refl _) (fun j hj => by cases hj)⟩
      · go_wp2_with (first | (refine wpList_make_own _ rfl _ _ 74 rfl w1.heap.size 5 i5 (.int .u8 0) 1 Tryz.underlying74 hi5 hz0 hz1 .i64 .i64 _ (6 * (es.length + 1)) rfl rfl (by omega) (by rw [hz2]; omega) (by omega) (Nat.le_refl _) ?_; intro w2 hown2 hg2))
        go_meet
        exact ⟨_, _, rfl, hown2, (Below.refl _ w1).grown hg2 (Nat.le_refl _) (fun j hj => by cases hj)⟩
      · go_wp2_with (first | (refine wpList_make_own _ rfl _ _ 74 rfl w1.heap.size 5 i5 (.int .u8 0) 1 Tryz.underlying74 hi5 hz0 hz1 .i64 .i64 _ (8 * (es.length + 1)) rfl rfl (by omega) (by rw [hz2]; omega) (by omega) (Nat.le_refl _) ?_; intro w2 hown2 hg2))
        go_meet
        exact ⟨_, _, rfl, hown2, (Below.refl _ w1).grown hg2 (Nat.le_refl _) (fun j hj => by cases hj)⟩
    case rest =>
      obtain ⟨g0, cp0, rfl, HB, hb2⟩ := hcut
      have m0 := (hb2.cell (p := ⟨w.heap.size, 0, none⟩) (Nat.lt_of_lt_of_le hn0.lt hb1.size)).trans k0
      have m1 := (hb2.cell (p := ⟨w.heap.size, 1, none⟩) (Nat.lt_of_lt_of_le hn0.lt hb1.size)).trans k1
      have m2 := (hb2.cell (p := ⟨w.heap.size, 2, none⟩) (Nat.lt_of_lt_of_le hn0.lt hb1.size)).trans k2
      clear k0 k1 k2 hn0
      go_wp2_with fail
      refine (levels_any n hn sh back wc).mono ?_
      rintro _ w2 ⟨g, rfl, _, hlv, hb3⟩
      have HLV : Aside (LvOwn w2 g sh back) := lv_of_blk hlv
      have HB2 : Aside (BOwn 5 w2 w1.heap.size (.slice (some ⟨g0, 0, none⟩) 0 cp0) []) := own_after HB.out hb3
      have hb13 := hb2.trans (hb3.mono hb2.size)
      clear HB hlv m0 m1 m2 hb2 hb3
      go_wp2_with fail
      go_loopw [10, 34] (fun kv iv wr => ∃ (i : Nat) (ac : List UInt8) (a1 : Option Addr) (c1 : Nat), i ≤ n ∧ iv = .int .i64 i ∧ kv = .slice a1 ac.length c1 ∧ Aside (BOwn 5 wr w1.heap.size (.slice a1 ac.length c1) ac) ∧ Hid (ac ++ levs sh back es ((List.range n).drop i) = R) ∧ Hid (ac.length ≤ i * 120000002) ∧ Below w1.heap.size w1 wr ∧ Aside (LvOwn wr g sh back)) (fun _ iv _ => n - (intOf iv).toNat)
      case atStart => exact ⟨0, [], _, _, by omega, rfl, rfl, HB2, HR, by show _ ≤ _; simp, hb13, HLV⟩
      case round =>
        clear HR HB2 HLV hb13
        obtain ⟨i, ac, a1, c1, hi1, rfl, rfl, HB, HR, HL, hbr, HLV⟩ := hrel
        by_cases hlt : i < n
        · obtain ⟨l0, l1, l2⟩ := lv_cells HLV.out i (by omega)
          have hHR := HR.out
          rw [range_drop hlt, levs_cons, ← List.append_assoc] at hHR
          have HR2 : Hid ((ac ++ rowK (lev sh back i es)) ++ levs sh back es ((List.range n).drop (i + 1)) = R) := hHR
          have hal := HL.out
          have hrl := lev_len sh back i es
          have hbk := lev_eq sh back i es
          have hrok := lev_ok (sh := sh) (back := back) (k := i) hok
          generalize (decide (i = 1) && back) = bk at l2 hbk
          have hb4 := (Below.refl wr.heap.size wr).alloc (Nat.le_refl _) (.cells #[.func (.func (59 + i)) #[] #[], .bool sh, .bool bk] 79)
          have hn4 := Blk.new wr 79 #[.func (.func (59 + i)) #[] #[], .bool sh, .bool bk]
          clear hHR HR
          go_upto_region 8 with fail
          have hw4 := weights_any i (by omega) sh bk hok ((HE1.out.below hbr (Nat.le_refl _)).below hb4 hbr.size) (Nat.le_trans hbr.size hb4.size) (by omega)
          have HB4 : Aside (BOwn 5 (wr.alloc (.cells #[.func (.func (59 + i)) #[] #[], .bool sh, .bool bk] 79)) w1.heap.size (.slice a1 ac.length c1) ac) := own_after HB.out hb4
          have HLV4 : Aside (LvOwn (wr.alloc (.cells #[.func (.func (59 + i)) #[] #[], .bool sh, .bool bk] 79)) g sh back) := own_after HLV.out hb4
          have hb14 := hbr.trans (hb4.mono hbr.size)
          have y0 : (wr.alloc (.cells #[.func (.func (59 + i)) #[] #[], .bool sh, .bool bk] 79)).cell? ⟨wr.heap.size, 0, none⟩ = some (.func (.func (59 + i)) #[] #[]) := hn4.cell 0
          have y1 : (wr.alloc (.cells #[.func (.func (59 + i)) #[] #[], .bool sh, .bool bk] 79)).cell? ⟨wr.heap.size, 1, none⟩ = some (.bool sh) := hn4.cell 1
          have y2 : (wr.alloc (.cells #[.func (.func (59 + i)) #[] #[], .bool sh, .bool bk] 79)).cell? ⟨wr.heap.size, 2, none⟩ = some (.bool bk) := hn4.cell 2
          rw [hbk] at hw4
          generalize wr.alloc (.cells #[.func (.func (59 + i)) #[] #[], .bool sh, .bool bk] 79) = W4 at *
          clear HB HLV l0 l1 l2 hn4 hb4 hbr hbk
          go_wp2_with fail
          refine hw4.mono ?_
          rintro _ w5 ⟨u5, rfl, hu5, hb5⟩
          have hb15 := hb14.trans (hb5.mono hb14.size)
          have hkB : BOwn 5 w5 w1.heap.size (.slice a1 ac.length c1) ac := own_after HB4.out hb5
          have hlB : LvOwn w5 g sh back := own_after HLV4.out hb5
          generalize lev sh back i es = row at *
          have hap := appendLevel_any hkB hu5 hrok (by omega) hb15.size
          have HLB : Aside (LvOwn w5 g sh back) := hlB
          clear hkB hw4 HB4 HLV4 hlB y0 y1 y2 hu5
          go_wp2_with fail
          refine hap.mono ?_
          rintro _ w6 ⟨v6, rfl, hk6, hb6, ho6⟩
          obtain ⟨a6, c6, rfl⟩ : ∃ a6 c6, v6 = .slice a6 (ac ++ rowK row).length c6 := by
            rcases hk6.form with ⟨rfl, e⟩ | ⟨g', c', rfl, _⟩
            · exact ⟨_, _, by rw [e]; rfl⟩
            · exact ⟨_, _, rfl⟩
          have HK6 : Aside (BOwn 5 w6 w1.heap.size (.slice a6 (ac ++ rowK row).length c6) (ac ++ rowK row)) := hk6
          have HL6 : Aside (LvOwn w6 g sh back) := ho6 _ _ _ _ _ _ (by decide) HLB.out
          have hlen6 : (ac ++ rowK row).length ≤ (i + 1) * 120000002 := by rw [List.length_append, rowK_len]; omega
          have hb16 := hb15.trans hb6
          clear hk6 ho6 hap HLB
          generalize ac ++ rowK row = ac6 at *
          go_wp2_with fail
          go_roundw
          case rel => exact ⟨i + 1, ac6, a6, c6, by omega, by simp, rfl, HK6, HR2, hlen6, hb16, HL6⟩
          case measure => simp only [intOf]; omega
        · have hRR : R = ac := by rw [← HR.out, List.drop_of_length_le (by simp; omega)]; simp [levs]
          have hconv := run_string_own (P := Tryz.prog) wr 74 9 5 Tryz.underlying74 Tryz.underlying5 Tryz.underlying9 w1.heap.size _ ac HB.out
          subst hRR
          clear HR
          go_wp2_with fail
          go_ret2
          exact ⟨hb01.trans (hbr.mono hb01.size), .inl ⟨rfl, by rw [HKQ.out]; rfl⟩⟩
  · have hy1 : (er == 0) = false := by simpa using her
    have hy2 : (er != 0) = true := by simpa using her
    go_wp2_with fail
    go_ret2
    exact ⟨hb0.trans (hb1.mono hb0.size), .inr ⟨her, rfl⟩⟩
def CmpPost (s : Int) (sh back : Bool) (xs ys : List El) (ex ey : Int) (w : World) (e : Ending) (w' : World) : Prop :=
  Below w.heap.size w w' ∧ ((ex = 0 ∧ ey = 0 ∧ e = .returned (.tuple #[.int .i64 (cmpLv sh back xs ys (List.range s.toNat)), .int .i64 0])) ∨ (ex ≠ 0 ∧ e = .returned (.tuple #[.int .i64 0, .int .i64 ex])) ∨ (ex = 0 ∧ ey ≠ 0 ∧ e = .returned (.tuple #[.int .i64 0, .int .i64 ey])))
set_option maxHeartbeats 8000000 in
set_option maxRecDepth 20000 in
theorem wcompare_any {xs ys : List El} {ex ey : Int} {b : Nat} {s : Int} {sh back : Bool} {ta tb : ByteArray} {w : World} (hokx : ∀ e ∈ xs, WtOk e) (hoky : ∀ e ∈ ys, WtOk e) (hlx : xs.length ≤ 60000000) (hly : ys.length ≤ 60000000) (hs : ex = 0 → 1 ≤ s ∧ s ≤ 4)
    (helx : ∀ W, Below w.heap.size w W → Calls Tryz.prog 25 #[.pointer (some ⟨b, 0, none⟩), colA s sh back, .string ta] W fun e w' => ElPost xs ex W e w')
    (hely : ∀ W, Below w.heap.size w W → Calls Tryz.prog 25 #[.pointer (some ⟨b, 0, none⟩), colA s sh back, .string tb] W fun e w' => ElPost ys ey W e w') :
    Calls Tryz.prog 13 #[.pointer (some ⟨b, 0, none⟩), colA s sh back, .string ta, .string tb] w fun e w' => CmpPost s sh back xs ys ex ey w e w' := by
  have hb0 := (Below.refl w.heap.size w).alloc (Nat.le_refl _) (.cells #[.int .i64 s, .bool sh, .bool back] 25)
  have hn0 := Blk.new w 25 #[.int .i64 s, .bool sh, .bool back]
  have c0 : (w.alloc (.cells #[.int .i64 s, .bool sh, .bool back] 25)).cell? ⟨w.heap.size, 0, none⟩ = some (.int .i64 s) := hn0.cell 0
  have c1 : (w.alloc (.cells #[.int .i64 s, .bool sh, .bool back] 25)).cell? ⟨w.heap.size, 1, none⟩ = some (.bool sh) := hn0.cell 1
  have c2 : (w.alloc (.cells #[.int .i64 s, .bool sh, .bool back] 25)).cell? ⟨w.heap.size, 2, none⟩ = some (.bool back) := hn0.cell 2
  have hx0 := helx _ hb0
  have HELY : Hid _ := hely
  clear helx hely
  go_enter Tryz.func13, Tryz.ntmps13
  go_wp2_with fail
  generalize w.alloc (.cells #[.int .i64 s, .bool sh, .bool back] 25) = w0 at *
  refine hx0.mono ?_
  rintro r w1 ⟨hb1, ⟨rfl, v1, rfl, hown1⟩ | ⟨her, rfl⟩⟩
  · have hb01 := hb0.trans (hb1.mono hb0.size)
    have hy0 := HELY.out w1 hb01
    have k0 := (hb1.cell (p := ⟨w.heap.size, 0, none⟩) hn0.lt).trans c0
    have k1 := (hb1.cell (p := ⟨w.heap.size, 1, none⟩) hn0.lt).trans c1
    have k2 := (hb1.cell (p := ⟨w.heap.size, 2, none⟩) hn0.lt).trans c2
    obtain ⟨xa, xc, rfl, _⟩ := hown1.cap
    have HX1 : Aside (Els w1.heap.size w1 (.slice xa xs.length xc) xs) := EOwn.els hown1
    clear hx0 HELY c0 c1 c2 hown1
    go_wp2_with fail
    refine hy0.mono ?_
    rintro r w2 ⟨hb2, ⟨rfl, v2, rfl, hown2⟩ | ⟨her, rfl⟩⟩
    · obtain ⟨n, rfl⟩ : ∃ n : Nat, s = (n : Int) := ⟨s.toNat, by have := hs (by first | rfl | trivial); omega⟩
      have hn : 1 ≤ n ∧ n ≤ 4 := by have := hs (by first | rfl | trivial); omega
      have hb02 := hb01.trans (hb2.mono hb01.size)
      have hw1 : w.heap.size < w1.heap.size := Nat.lt_of_lt_of_le hn0.lt hb1.size
      have m0 := (hb2.cell (p := ⟨w.heap.size, 0, none⟩) hw1).trans k0
      have m1 := (hb2.cell (p := ⟨w.heap.size, 1, none⟩) hw1).trans k1
      have m2 := (hb2.cell (p := ⟨w.heap.size, 2, none⟩) hw1).trans k2
      obtain ⟨ya, yc, rfl, _⟩ := hown2.cap
      have HY2 : Aside (Els w2.heap.size w2 (.slice ya ys.length yc) ys) := EOwn.els hown2
      have HX2 : Aside (Els w2.heap.size w2 (.slice xa xs.length xc) xs) := (HX1.out.below hb2 (Nat.le_refl _)).mono hb2.size
      generalize hR : cmpLv sh back xs ys (List.range (n : Int).toNat) = R
      have HR : Hid (cmpLv sh back xs ys ((List.range n).drop 0) = R) := by show _ = _; rw [← hR]; simp
      have HKQ : Hid _ := hR
      clear hR hs k0 k1 k2 hown2 HX1 hy0 hn0
      go_wp2_with fail
      refine (levels_any n hn sh back w2).mono ?_
      rintro _ w3 ⟨g, rfl, _, hlv, hb3⟩
      have HLV : Aside (LvOwn w3 g sh back) := lv_of_blk hlv
      have HX3 : Aside (Els w3.heap.size w3 (.slice xa xs.length xc) xs) := (HX2.out.below hb3 (Nat.le_refl _)).mono hb3.size
      have HY3 : Aside (Els w3.heap.size w3 (.slice ya ys.length yc) ys) := (HY2.out.below hb3 (Nat.le_refl _)).mono hb3.size
      have hb03 := hb02.trans (hb3.mono hb02.size)
      clear hlv m0 m1 m2 HX2 HY2 hb2 hb3
      go_wp2_with fail
      go_loopw [39] (fun iv wr => ∃ (i : Nat), i ≤ n ∧ iv = .int .i64 i ∧ Hid (cmpLv sh back xs ys ((List.range n).drop i) = R) ∧ Below w3.heap.size w3 wr) (fun iv _ => n - (intOf iv).toNat)
      case atStart => exact ⟨0, by omega, rfl, HR, Below.refl _ _⟩
      case round =>
        clear HR
        obtain ⟨i, hi1, rfl, HR, hbr⟩ := hrel
        by_cases hlt : i < n
        · obtain ⟨l0, l1, l2⟩ := lv_cells (show LvOwn wr g sh back from own_after HLV.out hbr) i (by omega)
          have hHR := HR.out
          rw [range_drop hlt] at hHR
          have HRQ : Hid ((if cmpU (lev sh back i xs) (lev sh back i ys) = 0 then cmpLv sh back xs ys ((List.range n).drop (i + 1)) else cmpU (lev sh back i xs) (lev sh back i ys)) = R) := hHR
          have hrlx := lev_len sh back i xs
          have hrly := lev_len sh back i ys
          have hbkx := lev_eq sh back i xs
          have hbky := lev_eq sh back i ys
          generalize (decide (i = 1) && back) = bk at l2 hbkx hbky
          have hb4 := (Below.refl wr.heap.size wr).alloc (Nat.le_refl _) (.cells #[.func (.func (59 + i)) #[] #[], .bool sh, .bool bk] 79)
          have hn4 := Blk.new wr 79 #[.func (.func (59 + i)) #[] #[], .bool sh, .bool bk]
          clear hHR HR
          go_upto_region 10 with fail
          have hx4 := (HX3.out.below hbr (Nat.le_refl _)).below hb4 hbr.size
          have hy4 := (HY3.out.below hbr (Nat.le_refl _)).below hb4 hbr.size
          have hb14 := hbr.trans (hb4.mono hbr.size)
          have y0 : (wr.alloc (.cells #[.func (.func (59 + i)) #[] #[], .bool sh, .bool bk] 79)).cell? ⟨wr.heap.size, 0, none⟩ = some (.func (.func (59 + i)) #[] #[]) := hn4.cell 0
          have y1 : (wr.alloc (.cells #[.func (.func (59 + i)) #[] #[], .bool sh, .bool bk] 79)).cell? ⟨wr.heap.size, 1, none⟩ = some (.bool sh) := hn4.cell 1
          have y2 : (wr.alloc (.cells #[.func (.func (59 + i)) #[] #[], .bool sh, .bool bk] 79)).cell? ⟨wr.heap.size, 2, none⟩ = some (.bool bk) := hn4.cell 2
          have hlt4 := hn4.lt
          generalize wr.alloc (.cells #[.func (.func (59 + i)) #[] #[], .bool sh, .bool bk] 79) = W4 at *
          have HWX : Hid (∀ W, Below W4.heap.size W4 W → Calls Tryz.prog 28 #[lvA (59 + i) sh bk, .slice xa xs.length xc] W fun e w' => ∃ u, e = .returned u ∧ Uns w' u (lev sh back i xs) ∧ Below W4.heap.size W4 w' ∧ w'.cell? ⟨wr.heap.size, 0, none⟩ = some (.func (.func (59 + i)) #[] #[]) ∧ w'.cell? ⟨wr.heap.size, 1, none⟩ = some (.bool sh) ∧ w'.cell? ⟨wr.heap.size, 2, none⟩ = some (.bool bk)) := fun W hW => by
            refine (weights_any i (by omega) sh bk hokx (hx4.below hW hb14.size) (Nat.le_trans hb14.size hW.size) (by omega)).mono ?_
            rintro _ w' ⟨u, rfl, hu, hb⟩
            rw [hbkx] at hu
            have hbb := hW.trans (hb.mono hW.size)
            exact ⟨u, rfl, hu.uns, hbb, (hbb.cell (p := ⟨wr.heap.size, 0, none⟩) hlt4).trans y0, (hbb.cell (p := ⟨wr.heap.size, 1, none⟩) hlt4).trans y1, (hbb.cell (p := ⟨wr.heap.size, 2, none⟩) hlt4).trans y2⟩
          have HWY : Hid (∀ W u5, Below W4.heap.size W4 W → Uns W u5 (lev sh back i xs) → Calls Tryz.prog 28 #[lvA (59 + i) sh bk, .slice ya ys.length yc] W fun e w' => ∃ u, e = .returned u ∧ Uns w' u (lev sh back i ys) ∧ Uns w' u5 (lev sh back i xs) ∧ Below W4.heap.size W4 w') := fun W u5 hW hu5 => by
            refine (weights_any i (by omega) sh bk hoky (hy4.below hW hb14.size) (Nat.le_trans hb14.size hW.size) (by omega)).mono ?_
            rintro _ w' ⟨u, rfl, hu, hb⟩
            rw [hbky] at hu
            exact ⟨u, rfl, hu.uns, hu5.below hb, hW.trans (hb.mono hW.size)⟩
          have HCC : Hid (∀ W u5 u6, Uns W u5 (lev sh back i xs) → Uns W u6 (lev sh back i ys) → Calls Tryz.prog 29 #[u5, u6] W fun e w' => e = .returned (.int .i64 (cmpU (lev sh back i xs) (lev sh back i ys))) ∧ W = w') := fun W u5 u6 h5 h6 => cmpU_any u5 u6 _ _ W h5 h6 (by omega) (by omega)
          generalize lev sh back i xs = rx at *
          generalize lev sh back i ys = ry at *
          have hbz : Below W4.heap.size W4 W4.drew := (Below.refl _ W4).drew
          clear hx4 hy4 hbkx hbky l0 l1 l2 hb4 hn4
          go_cut [15] from 43 to 49 (fun v wx => v = .int .i64 (cmpU rx ry) ∧ Below W4.heap.size W4 wx)
          case first =>
            go_region_with (first | (go_at_call 28; with_reducible refine (HWX.out _ (by assumption)).mono ?_; rintro e w5 ⟨u5, rfl, hu5, hb5, z0, z1, z2⟩) | (go_at_call 28; with_reducible refine (HWY.out _ _ (by assumption) (by assumption)).mono ?_; rintro e w6 ⟨u6, rfl, hu6, hu7, hb6⟩) | (go_at_call 29; with_reducible refine (HCC.out _ _ _ (by assumption) (by assumption)).mono ?_; rintro e w7 ⟨rfl, rfl⟩))
            all_goals
              go_wp2_with fail
              go_meet
              exact ⟨rfl, by assumption⟩
          case rest =>
            obtain ⟨rfl, hb6⟩ := hcut
            have hb16 := hb14.trans (hb6.mono hb14.size)
            by_cases hz : cmpU rx ry = 0
            · have hzt : (cmpU rx ry != 0) = false := by simp [hz]
              have HR2 : Hid (cmpLv sh back xs ys ((List.range n).drop (i + 1)) = R) := by show _ = _; rw [← HRQ.out, if_pos hz]
              clear HRQ hz
              go_wp2_with fail
              go_roundw
              case rel => exact ⟨i + 1, by omega, by simp, HR2, hb16⟩
              case measure => simp only [intOf]; omega
            · have hzt : (cmpU rx ry != 0) = true := by simp [hz]
              have hRR : R = cmpU rx ry := by rw [← HRQ.out, if_neg hz]
              clear HRQ hz
              go_wp2_with fail
              go_ret2
              exact ⟨hb03.trans (hb16.mono hb03.size), .inl ⟨rfl, rfl, by rw [HKQ.out, hRR]; rfl⟩⟩
        · have hRR : R = 0 := by rw [← HR.out, List.drop_of_length_le (by simp; omega)]; rfl
          clear HR
          go_wp2_with fail
          go_ret2
          exact ⟨hb03.trans (hbr.mono hb03.size), .inl ⟨rfl, rfl, by rw [HKQ.out, hRR]; rfl⟩⟩
    · have hy1 : (ey == 0) = false := by simpa using her
      have hy2 : (ey != 0) = true := by simpa using her
      go_wp2_with fail
      go_ret2
      exact ⟨hb01.trans (hb2.mono hb01.size), .inr (.inr ⟨rfl, her, rfl⟩)⟩
  · have hy1 : (ex == 0) = false := by simpa using her
    have hy2 : (ex != 0) = true := by simpa using her
    go_wp2_with fail
    go_ret2
    exact ⟨hb0.trans (hb1.mono hb0.size), .inr (.inl ⟨her, rfl⟩)⟩
end Go.Proofs.YtfhpgmlfgjfknaaGreatDoor
