/- Contracts and lemmas (nothing is claimed here). -/
import Derived.Test.YtfhpgmlfgjfknaaGreatDoorJ8
import Derived.Test.YtfhpgmlfgjfknaaGreatDoorWgE
import Derived.Test.YtfhpgmlfgjfknaaGreatDoorJ33
import Derived.Test.YtfhpgmlfgjfknaaGreatDoorJ25
import Derived.BigRegion
import Derived.RegionTactic
import Derived.ChangeAlike
namespace Go.Proofs.YtfhpgmlfgjfknaaGreatDoor
open Go.RowKit Go.Vf Go.Maps
theorem load_globU (s : ByteArray) (w : World) (hg : Glob w) (hbig : s.size ≤ 281474976710656) : Calls Tryz.prog 17 #[.string s] w fun e w' => LoadUp (loadR s.data.toList) w e w' := by
  obtain ⟨m, hm⟩ := hg
  exact load_up s m w hm hbig
theorem mapR_ne {w : World} {b bm n : Nat} {f : List Int → Option Value} {t : TypeId} {cs : Array Value} (h : Blk w b t cs) (hm : MapR w bm n f) : b ≠ bm := by
  rintro rfl
  obtain ⟨D, ⟨es, clock, hb, _⟩, _⟩ := hm
  have h' : w.heap[b]? = _ := h
  rw [hb] at h'
  cases h'
theorem els_set {w : World} {C : Nat} {t : TypeId} {c0 c1 c2 : Value} (hC : Blk w C t #[c0, c1, c2]) {n₀ : Nat} {v : Value} {l : List El} (h : Els n₀ w v l) (j : Nat) (u : Value) : Els n₀ (w.setCell ⟨C, j, none⟩ u) v l := by
  rcases h with h | ⟨b, off, cap, e, hb, hc⟩
  · exact .inl h
  · by_cases hl : l = []
    · subst hl; exact .inl ⟨_, _, e, rfl⟩
    · have hpos : 0 < l.length := List.length_pos_iff.2 hl
      have hne : C ≠ b := by
        rintro rfl
        have h3 := (hc 0 hpos).2.2.2
        rw [hC.cell] at h3
        simp at h3
      exact .inr ⟨b, off, cap, e, hb, fun k hk => by
        obtain ⟨h0, h1, h2, h3⟩ := hc k hk
        exact ⟨(World.cell?_setCell_far w _ _ u hne).trans h0, (World.cell?_setCell_far w _ _ u hne).trans h1, (World.cell?_setCell_far w _ _ u hne).trans h2, (World.cell?_setCell_far w _ _ u hne).trans h3⟩⟩
structure TbUp (w : World) (B b bd T : Nat) (L : List Mk) (F : Int → List Int) (E : List Ent) : Prop where
  tb : TbAt w b bd T L F E
  up : DataUp w B bd L F
theorem TbUp.below {w w' : World} {B b bd T : Nat} {L : List Mk} {F : Int → List Int} {E : List Ent} (h : TbUp w B b bd T L F E) (hb : Below w.heap.size w w') : TbUp w' B b bd T L F E := ⟨h.tb.below hb, h.up.below hb⟩
theorem TbUp.set {w : World} {B b bd T C : Nat} {L : List Mk} {F : Int → List Int} {E : List Ent} {c0 c1 c2 : Value} (h : TbUp w B b bd T L F E) (hC : Blk w C 25 #[c0, c1, c2]) (hB : C < B) (j : Nat) (u : Value) : TbUp (w.setCell ⟨C, j, none⟩ u) B b bd T L F E := by
  have hu := h.up.set hC (by decide) hB j u
  obtain ⟨me, ml, val, ht⟩ := h.tb.tab
  refine ⟨⟨(Below.heap_setCell w ⟨C, j, none⟩ u b (blk_ne h.tb.blk hC (by decide))).trans h.tb.blk, hu.at, ⟨me, ml, val, ?_⟩, h.tb.load⟩, hu⟩
  refine ⟨(Below.heap_setCell w ⟨C, j, none⟩ u T (blk_ne ht.blk hC (by decide))).trans ht.blk, ht.ents.block (Below.heap_setCell w ⟨C, j, none⟩ u me (Ne.symm (mapR_ne hC ht.ents))), ht.longs.setCell (a := ⟨C, j, none⟩) (Ne.symm (map_ne_blk hC ht.longs)) u, ht.ne, fun e he => ?_, ht.ok⟩
  simpa using els_set hC (ht.els e he) j u
def LoadWUp (m e : List UInt8) (w : World) (r : Ending) (w' : World) : Prop :=
  Below w.heap.size w w' ∧ ((∃ why which line, loadW m e = .error (why, which, line) ∧ why ≠ 0 ∧ r = .returned (.tuple #[.pointer none, .int .i64 why, .int .i64 which, .int .i64 line])) ∨
    (∃ L F E b bd T, loadW m e = .ok ((L, F), E) ∧ loadR m = .ok (L, F) ∧ r = .returned (.tuple #[.pointer (some ⟨b, 0, none⟩), .int .i64 0, .int .i64 0, .int .i64 0]) ∧ TbUp w' w.heap.size b bd T L F E))
set_option maxHeartbeats 2000000 in
theorem loadW_up (m e : ByteArray) (hm : m.size ≤ 281474976710656) (he : e.size ≤ 281474976710656) (w : World) (hg : Glob w) : Calls Tryz.prog 9 #[.string m, .string e] w fun r w' => LoadWUp m.data.toList e.data.toList w r w' := by
  have hl1 := load_globU m w hg hm
  go_enter Tryz.func9, Tryz.ntmps9
  go_wp2_with fail
  refine hl1.mono ?_
  rintro r w1 ⟨hb1, hp1⟩
  have hl2 := loadT_glob e w1 (hg.below hb1) he
  clear hl1
  cases h1 : loadR m.data.toList with
  | error q =>
    obtain ⟨why, line⟩ := q
    rw [h1] at hp1
    obtain rfl : r = _ := hp1
    have hy0 := load_why h1
    have hy1 : (why == 0) = false := by simpa using hy0
    have hy2 : (why != 0) = true := by simpa using hy0
    clear hl2
    go_wp2_with fail
    refine bodyPost_ret (results9_run rfl rfl rfl rfl) rfl ?_
    exact ⟨hb1, .inl ⟨why, 1, line, by unfold loadW; rw [h1], hy0, rfl⟩⟩
  | ok q =>
    obtain ⟨L, F⟩ := q
    rw [h1] at hp1
    obtain ⟨bd, rfl, hd⟩ := hp1
    go_wp2_with fail
    refine hl2.mono ?_
    rintro r w2 ⟨hb2, hp2⟩
    have hb02 := hb1.trans (hb2.mono hb1.size)
    cases h2 : loadT e.data.toList with
    | error q2 =>
      obtain ⟨why2, line2⟩ := q2
      rw [h2] at hp2
      obtain rfl : r = _ := hp2
      have hy0 := loadT_why h2
      have hy1 : (why2 == 0) = false := by simpa using hy0
      have hy2 : (why2 != 0) = true := by simpa using hy0
      go_wp2_with fail
      refine bodyPost_ret (results9_run rfl rfl rfl rfl) rfl ?_
      exact ⟨hb02, .inl ⟨why2, 2, line2, by unfold loadW; rw [h1]; simp only [h2], hy0, rfl⟩⟩
    | ok E =>
      rw [h2] at hp2
      obtain ⟨T, me, ml, val, rfl, ht⟩ := hp2
      have hb3 := (Below.refl w2.heap.size w2).alloc (Nat.le_refl _) (.cells #[.pointer (some ⟨bd, 0, none⟩), .pointer (some ⟨T, 0, none⟩)] 59)
      have hn3 := Blk.new w2 59 #[.pointer (some ⟨bd, 0, none⟩), .pointer (some ⟨T, 0, none⟩)]
      go_wp2_with fail
      refine bodyPost_ret (results9_run rfl rfl rfl rfl) rfl ?_
      exact ⟨hb02.trans (hb3.mono hb02.size), .inr ⟨L, F, E, w2.heap.size, bd, T, by unfold loadW; rw [h1]; simp only [h2], h1, rfl, ⟨hn3, ((hd.below hb2).below hb3).at, ⟨me, ml, val, ht.below hb3⟩, ⟨_, h1⟩⟩, (hd.below hb2).below hb3⟩⟩
end Go.Proofs.YtfhpgmlfgjfknaaGreatDoor

namespace Go.Proofs.YtfhpgmlfgjfknaaGreatDoor
open Go.ChangeShapes Go.WideShapes Go.ChangeAt Go.RowKit Go.Vf Go.Maps
theorem key_steps (n : Nat) (sh back : Bool) (es : List El) (h : es.length ≤ 60000000) (hn : n ≤ 4) : (bs (keyLv n sh back es)).size + 2 ≤ (bs (keyLv (n + 1) sh back es)).size ∧ (bs (keyLv (n + 1) sh back es)).size ≤ 900000000 ∧ (bs (keyLv (n + 1) sh back es)).extract 0 (bs (keyLv n sh back es)).size = bs (keyLv n sh back es) := by
  have h1 := keyLv_len (n + 1) sh back es h
  have h2 := rowK_len (lev sh back n es)
  refine ⟨?_, ?_, ?_⟩
  · rw [bs_size, bs_size, keyLv_succ, List.length_append]; omega
  · rw [bs_size]; have : (n + 1) * 120000002 ≤ 5 * 120000002 := Nat.mul_le_mul_right _ (by omega); omega
  · apply data_inj
    rw [extract_list, bs_size, bs_data, bs_data, keyLv_succ]
    simp
set_option maxHeartbeats 8000000 in
set_option maxRecDepth 20000 in
theorem strong_any (m e : ByteArray) (hm : m.size ≤ 1048576) (he : e.size ≤ 1048576) (s : Int) (sh back : Bool) (a b x : ByteArray) (ha : a.size ≤ 1048576) (hb : b.size ≤ 1048576) (w : World) (hg : Glob w) (htb : Tabs w) :
    Calls Tryz.prog 5 #[.agg #[.string m, .string e], caseA s sh back a b x] w fun e w' => e = .returned (.bool true) ∧ Below w.heap.size w w' := by
  have hb0 := (Below.refl w.heap.size w).alloc (Nat.le_refl _) (.cells #[.string m, .string e] 23)
  have hn0 := Blk.new w 23 #[.string m, .string e]
  have hb1 := hb0.alloc hb0.size (.cells #[.int .i64 s, .bool sh, .bool back, .string a, .string b, .string x] 27)
  have hn1 := Blk.new (w.alloc (.cells #[.string m, .string e] 23)) 27 #[.int .i64 s, .bool sh, .bool back, .string a, .string b, .string x]
  have hn01 := hn0.below ((Below.refl _ _).alloc (Nat.le_refl _) (.cells #[.int .i64 s, .bool sh, .bool back, .string a, .string b, .string x] 27)) hn0.lt
  have hs1 : (w.alloc (.cells #[.string m, .string e] 23)).heap.size = w.heap.size + 1 := by simp
  have hs2 : ((w.alloc (.cells #[.string m, .string e] 23)).alloc (.cells #[.int .i64 s, .bool sh, .bool back, .string a, .string b, .string x] 27)).heap.size = w.heap.size + 2 := by simp
  rw [hs1] at hn1
  have HG : Aside (Glob w) := hg
  have HTB : Aside (Tabs w) := htb
  clear hg htb
  unfold caseA
  go_enter Tryz.func5, Tryz.ntmps5
  go_upto_region 1 with fail
  generalize (w.alloc (.cells #[.string m, .string e] 23)).alloc (.cells #[.int .i64 s, .bool sh, .bool back, .string a, .string b, .string x] 27) = W1 at hb1 hn1 hn01 hs2 ⊢
  clear hb0 hn0 hs1
  have hx := (Below.refl W1.heap.size W1).alloc (Nat.le_refl _) (.cells #[.int .i64 0, .bool false, .bool false] 25)
  have d0 : W1.cell? ⟨w.heap.size + 1, 0, none⟩ = some (.int .i64 s) := hn1.cell 0
  have d1 : W1.cell? ⟨w.heap.size + 1, 1, none⟩ = some (.bool sh) := hn1.cell 1
  have d2 : W1.cell? ⟨w.heap.size + 1, 2, none⟩ = some (.bool back) := hn1.cell 2
  have d3 : W1.cell? ⟨w.heap.size + 1, 3, none⟩ = some (.string a) := hn1.cell 3
  have d4 : W1.cell? ⟨w.heap.size + 1, 4, none⟩ = some (.string b) := hn1.cell 4
  have e0 := (hx.cell (p := ⟨w.heap.size + 1, 0, none⟩) hn1.lt).trans d0
  have e1 := (hx.cell (p := ⟨w.heap.size + 1, 1, none⟩) hn1.lt).trans d1
  have e2 := (hx.cell (p := ⟨w.heap.size + 1, 2, none⟩) hn1.lt).trans d2
  have e3 := (hx.cell (p := ⟨w.heap.size + 1, 3, none⟩) hn1.lt).trans d3
  have e4 := (hx.cell (p := ⟨w.heap.size + 1, 4, none⟩) hn1.lt).trans d4
  have hb2 : Below w.heap.size w (W1.alloc (.cells #[.int .i64 s, .bool sh, .bool back] 25)).drew := (hb1.alloc hb1.size (.cells #[.int .i64 s, .bool sh, .bool back] 25)).drew
  have hC2' := Blk.new W1 25 #[.int .i64 s, .bool sh, .bool back]
  rw [hs2] at hC2'
  have hC2 : Blk (W1.alloc (.cells #[.int .i64 s, .bool sh, .bool back] 25)).drew (w.heap.size + 2) 25 #[.int .i64 s, .bool sh, .bool back] := hC2'
  have hM2 : Blk (W1.alloc (.cells #[.int .i64 s, .bool sh, .bool back] 25)).drew w.heap.size 23 #[.string m, .string e] := hn01.below ((Below.refl W1.heap.size W1).alloc (Nat.le_refl _) (.cells #[.int .i64 s, .bool sh, .bool back] 25)).drew hn01.lt
  clear hC2'
  go_region
  clear d0 d1 d2 d3 d4 e0 e1 e2 e3 e4 hx hn1 hn01 hb1
  generalize (W1.alloc (.cells #[.int .i64 s, .bool sh, .bool back] 25)).drew = W2 at hb2 hC2 hM2 ⊢
  have m0 : W2.cell? ⟨w.heap.size, 0, none⟩ = some (.string m) := hM2.cell 0
  have m1 : W2.cell? ⟨w.heap.size, 1, none⟩ = some (.string e) := hM2.cell 1
  have hCl : w.heap.size + 2 < W2.heap.size := hC2.lt
  go_wp2_with fail
  refine (loadW_up m e (by omega) (by omega) W2 (HG.out.below hb2)).mono ?_
  clear m0 m1
  rintro r w3 ⟨hb3, ⟨why, which, line, hl, hy0, rfl⟩ | ⟨L, F, E, tb, bd, T, hl, hR, rfl, hT3⟩⟩
  · have hy1 : (why == 0) = false := by simpa using hy0
    have hy2 : (why != 0) = true := by simpa using hy0
    have hb03 := hb2.trans (hb3.mono hb2.size)
    have haw := awake_any w3 (HG.out.below hb03) (HTB.out.own hb03)
    clear hl
    go_wp2_with fail
    refine haw.mono ?_
    rintro _ w4 ⟨rfl, hb4⟩
    go_wp2
    go_ret
    exact ⟨rfl, hb03.trans (hb4.mono hb03.size)⟩
  · have h57 : ∀ L F, loadR m.data.toList = .ok (L, F) → ∀ q, (partsR' F q).length ≤ 57 := by
      intro L' F' h q
      rw [hR] at h
      cases h
      exact (hT3.tb.data.plen q).1
    have H57 : Aside (∀ L F, loadR m.data.toList = .ok (L, F) → ∀ q, (partsR' F q).length ≤ 57) := h57
    have HT3 : Aside (TbUp w3 W2.heap.size tb bd T L F E) := hT3
    have hb03 := hb2.trans (hb3.mono hb2.size)
    have hM3 := hM2.below hb3 hM2.lt
    have hC3 := hC2.below hb3 hC2.lt
    have m0 : w3.cell? ⟨w.heap.size, 0, none⟩ = some (.string m) := hM3.cell 0
    have m1 : w3.cell? ⟨w.heap.size, 1, none⟩ = some (.string e) := hM3.cell 1
    clear hl hR h57 hT3 hM2 hC2
    go_wp2_with fail
    refine (wlight_any m e a (by omega) (by omega) (by omega) H57.out w3).mono ?_
    clear m0 m1
    rintro _ w4 ⟨⟨la, rfl⟩, hb4⟩
    have HT4 : Aside (TbUp w4 W2.heap.size tb bd T L F E) := HT3.out.below hb4
    have hb04 := hb03.trans (hb4.mono hb03.size)
    have hM4 := hM3.below hb4 hM3.lt
    have hC4 := hC3.below hb4 hC3.lt
    have m0 : w4.cell? ⟨w.heap.size, 0, none⟩ = some (.string m) := hM4.cell 0
    have m1 : w4.cell? ⟨w.heap.size, 1, none⟩ = some (.string e) := hM4.cell 1
    clear HT3 hM3 hC3
    cases la with
    | false =>
      go_wp2_with fail
      go_ret
      exact ⟨rfl, hb04⟩
    | true =>
      go_wp2_with fail
      refine (wlight_any m e b (by omega) (by omega) (by omega) H57.out w4).mono ?_
      clear m0 m1
      rintro _ w5 ⟨⟨lb, rfl⟩, hb5⟩
      have HT5 : Aside (TbUp w5 W2.heap.size tb bd T L F E) := HT4.out.below hb5
      have hb05 := hb04.trans (hb5.mono hb04.size)
      have hC5 := hC4.below hb5 hC4.lt
      clear HT4 hM4 hC4
      cases lb with
      | false =>
        go_wp2_with fail
        go_ret
        exact ⟨rfl, hb05⟩
      | true =>
        obtain ⟨xs, ex, hX⟩ := wel_any HT5.out.tb a
        obtain ⟨ys, ey, hY⟩ := wel_any HT5.out.tb b
        have HX : Aside (Wel tb bd T L F E a xs ex) := hX
        have HY : Aside (Wel tb bd T L F E b ys ey) := hY
        clear hX hY H57
        have f1 : w5.cell? ⟨w.heap.size + 2, 1, none⟩ = some (.bool sh) := hC5.cell 1
        cases sh with
        | false =>
          go_wp2_with fail
          clear f1
          go_loopw [13, 14, 15] (fun wv kv iv wr => ∃ (n : Nat) (s' : Int), n ≤ 3 ∧ iv = .int .i64 ((n : Int) + 1) ∧ wv = .int .i64 (cmpLv false back xs ys (List.range n)) ∧ kv = .string (bs (keyLv n false back xs)) ∧ Blk wr (w.heap.size + 2) 25 #[.int .i64 s', .bool false, .bool back] ∧ Aside (TbUp wr W2.heap.size tb bd T L F E) ∧ Below w.heap.size w wr) (fun _ _ iv _ => 5 - (intOf iv).toNat)
          case atStart => exact ⟨0, s, by omega, rfl, rfl, rfl, hC5, HT5, hb05⟩
          case round =>
            clear HT5 hC5 hb05
            obtain ⟨n, s', hn, rfl, rfl, rfl, hCr, HTr, hbr⟩ := hrel
            by_cases hlt : n < 3
            · have hz : decide ((n : Int) + 1 ≤ 3) = true := by simp; omega
              obtain ⟨⟨r0, r1, r2⟩, rz0, rz1, rz2⟩ := three_of hCr
              have hC6 : Blk (wr.setCell ⟨w.heap.size + 2, 0, none⟩ (.int .i64 ((n : Int) + 1))) (w.heap.size + 2) 25 #[.int .i64 ((n : Int) + 1), .bool false, .bool back] := by simpa using hCr.set 0 (.int .i64 ((n : Int) + 1))
              have HT6 : Aside (TbUp (wr.setCell ⟨w.heap.size + 2, 0, none⟩ (.int .i64 ((n : Int) + 1))) W2.heap.size tb bd T L F E) := HTr.out.set hCr hCl 0 _
              have hb6 : Below w.heap.size w (wr.setCell ⟨w.heap.size + 2, 0, none⟩ (.int .i64 ((n : Int) + 1))) := hbr.setCell (p := ⟨w.heap.size + 2, 0, none⟩) (by show w.heap.size ≤ w.heap.size + 2; omega) _
              clear HTr hCr hbr
              go_upto_region 16 with fail
              generalize wr.setCell ⟨w.heap.size + 2, 0, none⟩ (.int .i64 ((n : Int) + 1)) = W6 at hC6 HT6 hb6 ⊢
              clear r0 r1 r2 rz0 rz1 rz2
              obtain ⟨⟨r0, r1, r2⟩, _, _, _⟩ := three_of hC6
              have hright : rightC ((n : Int) + 1) false = true := by unfold rightC; simp; omega
              have hrg : ∀ z : Int, z = 0 → 1 ≤ (n : Int) + 1 ∧ (n : Int) + 1 ≤ 4 := fun _ _ => by omega
              have htb6 : Aside (Tabs W6) := HTB.out.own hb6
              go_wp2_with fail
              refine (wcompare_any HX.out.ok HY.out.ok HX.out.few HY.out.few (hrg ex) (HX.out.call W6 HT6.out.tb htb6.out _ _ _ hright) (HY.out.call W6 HT6.out.tb htb6.out _ _ _ hright)).mono ?_
              rintro r w7 ⟨hb7, hp7⟩
              have hC7 := hC6.below hb7 hC6.lt
              have HT7 : Aside (TbUp w7 W2.heap.size tb bd T L F E) := HT6.out.below hb7
              have hb07 := hb6.trans (hb7.mono hb6.size)
              have htb7 : Aside (Tabs w7) := HTB.out.own hb07
              clear r0 r1 r2 HT6 htb6 hC6
              obtain ⟨⟨r0, r1, r2⟩, _, _, _⟩ := three_of hC7
              have HK : Aside (Calls Tryz.prog 12 #[.pointer (some ⟨tb, 0, none⟩), colA ((n : Int) + 1) false back, .string a] w7 fun e w' => KeyPost ((n : Int) + 1) false back xs ex w7 e w') := key_any HX.out.ok HX.out.few (hrg ex) (HX.out.call w7 HT7.out.tb htb7.out _ _ back hright)
              rcases hp7 with ⟨hex, hey, rfl⟩ | ⟨hex, rfl⟩ | ⟨hex, hey, rfl⟩
              · have htn : ((n : Int) + 1).toNat = n + 1 := by omega
                have hcm := cmpLv_stays false back xs ys n
                rw [htn]
                generalize hcn : cmpLv false back xs ys (List.range (n + 1)) = cn at hcm ⊢
                generalize hcw : cmpLv false back xs ys (List.range n) = cw at hcm ⊢
                have HCN : Hid (cmpLv false back xs ys (List.range (n + 1)) = cn) := hcn
                have HCM : Hid (cw ≠ 0 → cn = cw) := hcm
                clear hcn hcw hcm
                go_wp2_with fail
                refine (show Calls _ _ _ _ _ from HK.out).mono ?_
                rintro r w8 ⟨hb8, ⟨_, rfl⟩ | ⟨h, _⟩⟩
                · have hC8 := hC7.below hb8 hC7.lt
                  have HT8 : Aside (TbUp w8 W2.heap.size tb bd T L F E) := HT7.out.below hb8
                  have hb08 := hb07.trans (hb8.mono hb07.size)
                  have hks := key_steps n false back xs HX.out.few (by omega)
                  rw [htn]
                  generalize hkn : bs (keyLv (n + 1) false back xs) = kn at hks ⊢
                  generalize hko : bs (keyLv n false back xs) = ko at hks ⊢
                  have HKN : Hid (bs (keyLv (n + 1) false back xs) = kn) := hkn
                  have hcm : cw ≠ 0 → cn = cw := HCM.out
                  clear hkn hko htn r0 r1 r2 HK HT7 htb7 hC7 HCM
                  obtain ⟨hk1, hk2, hk3⟩ := hks
                  have hk4 : decide ((kn.size : Int) < (ko.size : Int) + 2) = false := by simp; omega
                  by_cases hc0 : cw = 0
                  · subst hc0
                    clear hcm
                    go_wp2_with fail
                    go_roundw
                    case rel => exact ⟨n + 1, _, by omega, by simp, by rw [HCN.out], by rw [HKN.out], hC8, HT8, hb08⟩
                    case measure => simp only [intOf]; omega
                  · obtain rfl := hcm hc0
                    have hc1 : (cn == 0) = false := by simpa using hc0
                    have hc2 : (cn != 0) = true := by simpa using hc0
                    go_wp2_with fail
                    go_roundw
                    case rel => exact ⟨n + 1, _, by omega, by simp, by rw [HCN.out], by rw [HKN.out], hC8, HT8, hb08⟩
                    case measure => simp only [intOf]; omega
                · exact absurd hex h
              · go_wp2_with fail
                refine (show Calls _ _ _ _ _ from HK.out).mono ?_
                rintro r w8 ⟨hb8, ⟨h, _⟩ | ⟨_, rfl⟩⟩
                · exact absurd h hex
                · have hb08 := hb07.trans (hb8.mono hb07.size)
                  have haw := awake_any w8 (HG.out.below hb08) (HTB.out.own hb08)
                  clear r0 r1 r2 HK HT7 htb7 hC7
                  rcases HX.out.why with rfl | rfl | rfl
                  · exact absurd rfl hex
                  · go_wp2_with fail
                    refine haw.mono ?_
                    rintro _ w9 ⟨rfl, hb9⟩
                    go_wp2
                    go_ret
                    exact ⟨rfl, hb08.trans (hb9.mono hb08.size)⟩
                  · go_wp2_with fail
                    refine haw.mono ?_
                    rintro _ w9 ⟨rfl, hb9⟩
                    go_wp2
                    go_ret
                    exact ⟨rfl, hb08.trans (hb9.mono hb08.size)⟩
              · go_wp2_with fail
                refine (show Calls _ _ _ _ _ from HK.out).mono ?_
                rintro r w8 ⟨hb8, ⟨_, rfl⟩ | ⟨h, _⟩⟩
                · have hb08 := hb07.trans (hb8.mono hb07.size)
                  have haw := awake_any w8 (HG.out.below hb08) (HTB.out.own hb08)
                  clear r0 r1 r2 HK HT7 htb7 hC7
                  rcases HY.out.why with rfl | rfl | rfl
                  · exact absurd rfl hey
                  · go_wp2_with fail
                    refine haw.mono ?_
                    rintro _ w9 ⟨rfl, hb9⟩
                    go_wp2
                    go_ret
                    exact ⟨rfl, hb08.trans (hb9.mono hb08.size)⟩
                  · go_wp2_with fail
                    refine haw.mono ?_
                    rintro _ w9 ⟨rfl, hb9⟩
                    go_wp2
                    go_ret
                    exact ⟨rfl, hb08.trans (hb9.mono hb08.size)⟩
                · exact absurd hex h
            · obtain rfl : n = 3 := by omega
              have haw := awake_any wr (HG.out.below hbr) (HTB.out.own hbr)
              clear HTr hCr
              go_wp2_with fail
              refine haw.mono ?_
              rintro _ w9 ⟨rfl, hb9⟩
              go_wp2
              go_ret
              exact ⟨rfl, hbr.trans (hb9.mono hbr.size)⟩
        | true =>
          go_wp2_with fail
          clear f1
          go_loopw [13, 14, 15] (fun wv kv iv wr => ∃ (n : Nat) (s' : Int), n ≤ 4 ∧ iv = .int .i64 ((n : Int) + 1) ∧ wv = .int .i64 (cmpLv true back xs ys (List.range n)) ∧ kv = .string (bs (keyLv n true back xs)) ∧ Blk wr (w.heap.size + 2) 25 #[.int .i64 s', .bool true, .bool back] ∧ Aside (TbUp wr W2.heap.size tb bd T L F E) ∧ Below w.heap.size w wr) (fun _ _ iv _ => 6 - (intOf iv).toNat)
          case atStart => exact ⟨0, s, by omega, rfl, rfl, rfl, hC5, HT5, hb05⟩
          case round =>
            clear HT5 hC5 hb05
            obtain ⟨n, s', hn, rfl, rfl, rfl, hCr, HTr, hbr⟩ := hrel
            by_cases hlt : n < 4
            · have hz : decide ((n : Int) + 1 ≤ 4) = true := by simp; omega
              obtain ⟨⟨r0, r1, r2⟩, rz0, rz1, rz2⟩ := three_of hCr
              have hC6 : Blk (wr.setCell ⟨w.heap.size + 2, 0, none⟩ (.int .i64 ((n : Int) + 1))) (w.heap.size + 2) 25 #[.int .i64 ((n : Int) + 1), .bool true, .bool back] := by simpa using hCr.set 0 (.int .i64 ((n : Int) + 1))
              have HT6 : Aside (TbUp (wr.setCell ⟨w.heap.size + 2, 0, none⟩ (.int .i64 ((n : Int) + 1))) W2.heap.size tb bd T L F E) := HTr.out.set hCr hCl 0 _
              have hb6 : Below w.heap.size w (wr.setCell ⟨w.heap.size + 2, 0, none⟩ (.int .i64 ((n : Int) + 1))) := hbr.setCell (p := ⟨w.heap.size + 2, 0, none⟩) (by show w.heap.size ≤ w.heap.size + 2; omega) _
              clear HTr hCr hbr
              go_upto_region 16 with fail
              generalize wr.setCell ⟨w.heap.size + 2, 0, none⟩ (.int .i64 ((n : Int) + 1)) = W6 at hC6 HT6 hb6 ⊢
              clear r0 r1 r2 rz0 rz1 rz2
              obtain ⟨⟨r0, r1, r2⟩, _, _, _⟩ := three_of hC6
              have hright : rightC ((n : Int) + 1) true = true := by unfold rightC; simp; omega
              have hrg : ∀ z : Int, z = 0 → 1 ≤ (n : Int) + 1 ∧ (n : Int) + 1 ≤ 4 := fun _ _ => by omega
              have htb6 : Aside (Tabs W6) := HTB.out.own hb6
              go_wp2_with fail
              refine (wcompare_any HX.out.ok HY.out.ok HX.out.few HY.out.few (hrg ex) (HX.out.call W6 HT6.out.tb htb6.out _ _ _ hright) (HY.out.call W6 HT6.out.tb htb6.out _ _ _ hright)).mono ?_
              rintro r w7 ⟨hb7, hp7⟩
              have hC7 := hC6.below hb7 hC6.lt
              have HT7 : Aside (TbUp w7 W2.heap.size tb bd T L F E) := HT6.out.below hb7
              have hb07 := hb6.trans (hb7.mono hb6.size)
              have htb7 : Aside (Tabs w7) := HTB.out.own hb07
              clear r0 r1 r2 HT6 htb6 hC6
              obtain ⟨⟨r0, r1, r2⟩, _, _, _⟩ := three_of hC7
              have HK : Aside (Calls Tryz.prog 12 #[.pointer (some ⟨tb, 0, none⟩), colA ((n : Int) + 1) true back, .string a] w7 fun e w' => KeyPost ((n : Int) + 1) true back xs ex w7 e w') := key_any HX.out.ok HX.out.few (hrg ex) (HX.out.call w7 HT7.out.tb htb7.out _ _ back hright)
              rcases hp7 with ⟨hex, hey, rfl⟩ | ⟨hex, rfl⟩ | ⟨hex, hey, rfl⟩
              · have htn : ((n : Int) + 1).toNat = n + 1 := by omega
                have hcm := cmpLv_stays true back xs ys n
                rw [htn]
                generalize hcn : cmpLv true back xs ys (List.range (n + 1)) = cn at hcm ⊢
                generalize hcw : cmpLv true back xs ys (List.range n) = cw at hcm ⊢
                have HCN : Hid (cmpLv true back xs ys (List.range (n + 1)) = cn) := hcn
                have HCM : Hid (cw ≠ 0 → cn = cw) := hcm
                clear hcn hcw hcm
                go_wp2_with fail
                refine (show Calls _ _ _ _ _ from HK.out).mono ?_
                rintro r w8 ⟨hb8, ⟨_, rfl⟩ | ⟨h, _⟩⟩
                · have hC8 := hC7.below hb8 hC7.lt
                  have HT8 : Aside (TbUp w8 W2.heap.size tb bd T L F E) := HT7.out.below hb8
                  have hb08 := hb07.trans (hb8.mono hb07.size)
                  have hks := key_steps n true back xs HX.out.few (by omega)
                  rw [htn]
                  generalize hkn : bs (keyLv (n + 1) true back xs) = kn at hks ⊢
                  generalize hko : bs (keyLv n true back xs) = ko at hks ⊢
                  have HKN : Hid (bs (keyLv (n + 1) true back xs) = kn) := hkn
                  have hcm : cw ≠ 0 → cn = cw := HCM.out
                  clear hkn hko htn r0 r1 r2 HK HT7 htb7 hC7 HCM
                  obtain ⟨hk1, hk2, hk3⟩ := hks
                  have hk4 : decide ((kn.size : Int) < (ko.size : Int) + 2) = false := by simp; omega
                  by_cases hc0 : cw = 0
                  · subst hc0
                    clear hcm
                    go_wp2_with fail
                    go_roundw
                    case rel => exact ⟨n + 1, _, by omega, by simp, by rw [HCN.out], by rw [HKN.out], hC8, HT8, hb08⟩
                    case measure => simp only [intOf]; omega
                  · obtain rfl := hcm hc0
                    have hc1 : (cn == 0) = false := by simpa using hc0
                    have hc2 : (cn != 0) = true := by simpa using hc0
                    go_wp2_with fail
                    go_roundw
                    case rel => exact ⟨n + 1, _, by omega, by simp, by rw [HCN.out], by rw [HKN.out], hC8, HT8, hb08⟩
                    case measure => simp only [intOf]; omega
                · exact absurd hex h
              · go_wp2_with fail
                refine (show Calls _ _ _ _ _ from HK.out).mono ?_
                rintro r w8 ⟨hb8, ⟨h, _⟩ | ⟨_, rfl⟩⟩
                · exact absurd h hex
                · have hb08 := hb07.trans (hb8.mono hb07.size)
                  have haw := awake_any w8 (HG.out.below hb08) (HTB.out.own hb08)
                  clear r0 r1 r2 HK HT7 htb7 hC7
                  rcases HX.out.why with rfl | rfl | rfl
                  · exact absurd rfl hex
                  · go_wp2_with fail
                    refine haw.mono ?_
                    rintro _ w9 ⟨rfl, hb9⟩
                    go_wp2
                    go_ret
                    exact ⟨rfl, hb08.trans (hb9.mono hb08.size)⟩
                  · go_wp2_with fail
                    refine haw.mono ?_
                    rintro _ w9 ⟨rfl, hb9⟩
                    go_wp2
                    go_ret
                    exact ⟨rfl, hb08.trans (hb9.mono hb08.size)⟩
              · go_wp2_with fail
                refine (show Calls _ _ _ _ _ from HK.out).mono ?_
                rintro r w8 ⟨hb8, ⟨_, rfl⟩ | ⟨h, _⟩⟩
                · have hb08 := hb07.trans (hb8.mono hb07.size)
                  have haw := awake_any w8 (HG.out.below hb08) (HTB.out.own hb08)
                  clear r0 r1 r2 HK HT7 htb7 hC7
                  rcases HY.out.why with rfl | rfl | rfl
                  · exact absurd rfl hey
                  · go_wp2_with fail
                    refine haw.mono ?_
                    rintro _ w9 ⟨rfl, hb9⟩
                    go_wp2
                    go_ret
                    exact ⟨rfl, hb08.trans (hb9.mono hb08.size)⟩
                  · go_wp2_with fail
                    refine haw.mono ?_
                    rintro _ w9 ⟨rfl, hb9⟩
                    go_wp2
                    go_ret
                    exact ⟨rfl, hb08.trans (hb9.mono hb08.size)⟩
                · exact absurd hex h
            · obtain rfl : n = 4 := by omega
              have haw := awake_any wr (HG.out.below hbr) (HTB.out.own hbr)
              clear HTr hCr
              go_wp2_with fail
              refine haw.mono ?_
              rintro _ w9 ⟨rfl, hb9⟩
              go_wp2
              go_ret
              exact ⟨rfl, hbr.trans (hb9.mono hbr.size)⟩
end Go.Proofs.YtfhpgmlfgjfknaaGreatDoor

namespace Go.Proofs.YtfhpgmlfgjfknaaGreatDoor
open Go.ChangeShapes Go.WideShapes Go.ChangeAt Go.RowKit Go.Vf Go.Maps
set_option maxRecDepth 100000 in
theorem strong_open {H : Type} {enc : TypeId × Value → H} {base : Nat} {W : World} (v : Value) (d : DataW H) (pl : List MemPlace) (hok : Value.okWide Tryz.prog W .any base 23 v) (h : DataW.Trod enc Tryz.prog W 0 (fun _ => true) true 23 v d pl) (_hw : ∀ n ∈ d.weights Tryz.prog 23, n ≤ reachBytes) (hbk : Rows.uptoBulk d ≤ 1048576)
    (v1 : Value) (d1 : DataW H) (pl1 : List MemPlace) (hok1 : Value.okWide Tryz.prog W .any base 27 v1) (h1 : DataW.Trod enc Tryz.prog W 0 (fun _ => true) true 27 v1 d1 pl1) (_hw1 : ∀ n ∈ d1.weights Tryz.prog 27, n ≤ reachBytes) (hbk1 : Rows.uptoBulk d1 ≤ 1048576)
    (w : World) (hg : Glob w) (ht : Tabs w) (_hW : w = W) :
    Calls Tryz.prog 5 #[v, v1] w fun e w' => e = .returned (.bool true) ∧ Below w.heap.size w w' := by
  obtain ⟨m, e, rfl, hm, he⟩ := ttexts_open v d pl hok h hbk
  obtain ⟨s, sh, back, a, b, x, rfl, _, ha, hb, _⟩ := case_open v1 d1 pl1 hok1 h1 hbk1
  exact strong_any m e hm he s sh back a b x ha hb w hg ht
end Go.Proofs.YtfhpgmlfgjfknaaGreatDoor
