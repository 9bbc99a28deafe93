/- The walk of WeighSame (contracts; nothing is claimed here). -/
import Derived.Test.YtfhpgmlfgjfknaaGreatDoorWgS
import Derived.Test.YtfhpgmlfgjfknaaGreatDoorJ37
import Derived.Test.YtfhpgmlfgjfknaaGreatDoorJ36
import Derived.BigRegion
import Derived.RegionTactic
namespace Go.Proofs.YtfhpgmlfgjfknaaGreatDoor
open Go.RowKit Go.Vf Go.Maps
theorem cmpU_self : ∀ l : List Int, cmpU l l = 0
 | [] => rfl
 | x :: r => by simp [cmpU, cmpU_self r]
theorem cmpLv_self (sh back : Bool) (a : List El) : ∀ r : List Nat, cmpLv sh back a a r = 0
 | [] => rfl
 | k :: r => by simp [cmpLv, cmpU_self, cmpLv_self sh back a r]
theorem cmpG_self (s : Int) (sh back : Bool) (a : List El) (e : Int) : cmpG s sh back a a e e = 0 := by
 unfold cmpG
 split
 ·
  exact cmpLv_self sh back a _
 ·
  rfl
theorem errG_self (e : Int) : errG e e = e := by unfold errG; split <;> rfl
theorem loadW_part {m e : List UInt8} {L : List Mk} {F : Int → List Int} {E : List Ent} (h : loadW m e = .ok ((L, F), E)) : loadR m = .ok (L, F) := by
 unfold loadW at h
 cases hm : loadR m with
 | error q => obtain ⟨a, b⟩ := q; rw [hm] at h; cases h
 | ok d =>
  rw [hm] at h
  cases ht : loadT e with
  | error q => obtain ⟨a, b⟩ := q; rw [ht] at h; cases h
  | ok E' => rw [ht] at h; cases h; rfl
theorem loadW_why {m e : List UInt8} {why which line : Int} (h : loadW m e = .error (why, which, line)) : why ≠ 0 := by
 unfold loadW at h
 cases hm : loadR m with
 | error q => obtain ⟨a, b⟩ := q; rw [hm] at h; cases h; exact load_why hm
 | ok d =>
  rw [hm] at h
  cases ht : loadT e with
  | error q => obtain ⟨a, b⟩ := q; rw [ht] at h; cases h; exact loadT_why ht
  | ok E' => rw [ht] at h; cases h
theorem welS {w : World} {b bd T : Nat} {L : List Mk} {F : Int → List Int} {E : List Ent} (h : TbAt w b bd T L F E) {s : Int} (hs : InI s) (sh back : Bool) {txt : ByteArray} {ps : List Nat} {rest : List UInt8} {X : List Int} (ha : Spelt L F txt ps rest X) (hsz : txt.size ≤ 65536) :
  WelF b bd T L F E s sh back txt (wEls L E X) (elErr s sh txt.size rest) := by
 have hx := ha.xlen h.data
 have hl := ha.len
 refine ⟨?_, fun h0 => ?_, (wel_ok h X).1, by have := (wel_ok h X).2; omega, fun w hw ht W hW => welements_any (hw.below hW) (ht.own hW) s hs sh back txt ps rest ha.split ha.pts ha.rest ha.form.form hx⟩
 ·
  unfold elErr
  repeat' split
  all_goals simp
 ·
  unfold elErr at h0
  split at h0
  ·
   rename_i hr
   exact right_in hr
  ·
   exact absurd h0 (by decide)
theorem elErr_at {s : Int} {sh : Bool} {n : Nat} (h : n ≤ 65536) : elErr s sh n [] = if rightC s sh = true then 0 else 1 := by
 unfold elErr
 rw [if_neg (by omega : ¬ 65536 < n), if_pos rfl]
set_option maxHeartbeats 8000000 in
set_option maxRecDepth 20000 in
theorem wsames_any (m e : ByteArray) (hm : m.size ≤ 1048576) (he : e.size ≤ 1048576) (s : Int) (hs : InI s) (sh back : Bool) (a b x : ByteArray) (ha : a.size ≤ 1048576) (hb : b.size ≤ 1048576) (_hxx : x.size ≤ 1048576) (w : World) (hg : Glob w) (htb : Tabs w) :
  Calls Tryz.prog 4 #[.agg #[.string m, .string e], caseA s sh back a b x] w fun e w' => e = .returned (.bool true) ∧ Below w.heap.size w w' := by
 have hb0 := (Below.refl w.heap.size w).alloc (Nat.le_refl _) (.cells #[.string m, .string e] 23)
 have hn0 := Blk.new w 23 #[.string m, .string e]
 have hb1 := hb0.alloc hb0.size (.cells #[.int .i64 s, .bool sh, .bool back, .string a, .string b, .string x] 27)
 have hn1 := Blk.new (w.alloc (.cells #[.string m, .string e] 23)) 27 #[.int .i64 s, .bool sh, .bool back, .string a, .string b, .string x]
 have hn01 := hn0.below ((Below.refl _ _).alloc (Nat.le_refl _) (.cells #[.int .i64 s, .bool sh, .bool back, .string a, .string b, .string x] 27)) hn0.lt
 have hs1 : (w.alloc (.cells #[.string m, .string e] 23)).heap.size = w.heap.size + 1 := by simp
 have hs2 : ((w.alloc (.cells #[.string m, .string e] 23)).alloc (.cells #[.int .i64 s, .bool sh, .bool back, .string a, .string b, .string x] 27)).heap.size = w.heap.size + 2 := by simp
 rw [hs1] at hn1
 have HG : Aside (Glob w) := hg
 have HTB : Aside (Tabs w) := htb
 clear hg htb
 unfold caseA
 go_enter Tryz.func4, Tryz.ntmps4
 go_upto_region 1 with fail
 generalize (w.alloc (.cells #[.string m, .string e] 23)).alloc (.cells #[.int .i64 s, .bool sh, .bool back, .string a, .string b, .string x] 27) = W1 at hb1 hn1 hn01 hs2 ⊢
 clear hb0 hn0 hs1
 have hx := (Below.refl W1.heap.size W1).alloc (Nat.le_refl _) (.cells #[.int .i64 0, .bool false, .bool false] 25)
 have d0 : W1.cell? ⟨w.heap.size + 1, 0, none⟩ = some (.int .i64 s) := hn1.cell 0
 have d1 : W1.cell? ⟨w.heap.size + 1, 1, none⟩ = some (.bool sh) := hn1.cell 1
 have d2 : W1.cell? ⟨w.heap.size + 1, 2, none⟩ = some (.bool back) := hn1.cell 2
 have d3 : W1.cell? ⟨w.heap.size + 1, 3, none⟩ = some (.string a) := hn1.cell 3
 have d4 : W1.cell? ⟨w.heap.size + 1, 4, none⟩ = some (.string b) := hn1.cell 4
 have e0 := (hx.cell (p := ⟨w.heap.size + 1, 0, none⟩) hn1.lt).trans d0
 have e1 := (hx.cell (p := ⟨w.heap.size + 1, 1, none⟩) hn1.lt).trans d1
 have e2 := (hx.cell (p := ⟨w.heap.size + 1, 2, none⟩) hn1.lt).trans d2
 have e3 := (hx.cell (p := ⟨w.heap.size + 1, 3, none⟩) hn1.lt).trans d3
 have e4 := (hx.cell (p := ⟨w.heap.size + 1, 4, none⟩) hn1.lt).trans d4
 have hb2 : Below w.heap.size w (W1.alloc (.cells #[.int .i64 s, .bool sh, .bool back] 25)).drew := (hb1.alloc hb1.size (.cells #[.int .i64 s, .bool sh, .bool back] 25)).drew
 have hC2' := Blk.new W1 25 #[.int .i64 s, .bool sh, .bool back]
 rw [hs2] at hC2'
 have hC2 : Blk (W1.alloc (.cells #[.int .i64 s, .bool sh, .bool back] 25)).drew (w.heap.size + 2) 25 #[.int .i64 s, .bool sh, .bool back] := hC2'
 have hM2 : Blk (W1.alloc (.cells #[.int .i64 s, .bool sh, .bool back] 25)).drew w.heap.size 23 #[.string m, .string e] := hn01.below ((Below.refl W1.heap.size W1).alloc (Nat.le_refl _) (.cells #[.int .i64 s, .bool sh, .bool back] 25)).drew hn01.lt
 clear hC2'
 go_region
 clear d0 d1 d2 d3 d4 e0 e1 e2 e3 e4 hx hn1 hn01 hb1
 generalize (W1.alloc (.cells #[.int .i64 s, .bool sh, .bool back] 25)).drew = W2 at hb2 hC2 hM2 ⊢
 have m0 : W2.cell? ⟨w.heap.size, 0, none⟩ = some (.string m) := hM2.cell 0
 have m1 : W2.cell? ⟨w.heap.size, 1, none⟩ = some (.string e) := hM2.cell 1
 go_wp2_with fail
 refine (loadW_any m e (by omega) (by omega) W2 (HG.out.below hb2)).mono ?_
 clear m0 m1
 rintro r w3 ⟨hb3, ⟨why, which, line, hl, rfl⟩ | ⟨L, F, E, tb, bd, T, hl, rfl, hT3⟩⟩
 ·
  have hy0 := loadW_why hl
  have hy1 : (why == 0) = false := by simpa using hy0
  have hy2 : (why != 0) = true := by simpa using hy0
  have hb03 := hb2.trans (hb3.mono hb2.size)
  have haw := awake_any w3 (HG.out.below hb03) (HTB.out.own hb03)
  clear hl
  go_wp2_with fail
  refine haw.mono ?_
  rintro _ w4 ⟨rfl, hb4⟩
  go_wp2
  go_ret
  exact ⟨rfl, hb03.trans (hb4.mono hb03.size)⟩
 have hR := loadW_part hl
 have h57 : ∀ L F, loadR m.data.toList = .ok (L, F) → ∀ q, (partsR' F q).length ≤ 57 := by
  intro L' F' h q
  rw [hR] at h
  cases h
  exact (hT3.data.plen q).1
 have H57 : Aside (∀ L F, loadR m.data.toList = .ok (L, F) → ∀ q, (partsR' F q).length ≤ 57) := h57
 have HT3 : Aside (TbAt w3 tb bd T L F E) := hT3
 have HRM : Aside (loadR m.data.toList = .ok (L, F)) := hR
 have HSI : Hid (InI s) := hs
 have hb03 := hb2.trans (hb3.mono hb2.size)
 have hM3 := hM2.below hb3 hM2.lt
 have hC3 := hC2.below hb3 hC2.lt
 have m0 : w3.cell? ⟨w.heap.size, 0, none⟩ = some (.string m) := hM3.cell 0
 have m1 : w3.cell? ⟨w.heap.size, 1, none⟩ = some (.string e) := hM3.cell 1
 clear hl hR h57 hT3 hM2 hC2 hs
 go_wp2_with fail
 refine (wlight_any m e a (by omega) (by omega) (by omega) H57.out w3).mono ?_
 clear m0 m1
 rintro _ w4 ⟨⟨la, rfl⟩, hb4⟩
 have HT4 : Aside (TbAt w4 tb bd T L F E) := HT3.out.below hb4
 have hb04 := hb03.trans (hb4.mono hb03.size)
 have hM4 := hM3.below hb4 hM3.lt
 have hC4 := hC3.below hb4 hC3.lt
 have m0 : w4.cell? ⟨w.heap.size, 0, none⟩ = some (.string m) := hM4.cell 0
 have m1 : w4.cell? ⟨w.heap.size, 1, none⟩ = some (.string e) := hM4.cell 1
 clear HT3 hM3 hC3
 cases la with
 | false =>
  go_wp2_with fail
  go_ret
  exact ⟨rfl, hb04⟩
 | true =>
 go_wp2_with fail
 refine (wlight_any m e b (by omega) (by omega) (by omega) H57.out w4).mono ?_
 clear m0 m1
 rintro _ w5 ⟨⟨lb, rfl⟩, hb5⟩
 have HT5 : Aside (TbAt w5 tb bd T L F E) := HT4.out.below hb5
 have hb05 := hb04.trans (hb5.mono hb04.size)
 have hM5 := hM4.below hb5 hM4.lt
 have hC5 := hC4.below hb5 hC4.lt
 clear HT4 hM4 hC4 H57 hb2 hb3 hb03 hb4 hb04 hb5
 cases lb with
 | false =>
  go_wp2_with fail
  go_ret
  exact ⟨rfl, hb05⟩
 | true =>
 have HB05 : Aside (Below w.heap.size w w5) := hb05
 have HM5 : Aside (Blk w5 w.heap.size 23 #[.string m, .string e]) := hM5
 have HC5 : Aside (Blk w5 (w.heap.size + 2) 25 #[.int .i64 s, .bool sh, .bool back]) := hC5
 have HGW : Aside (∀ W, Below w.heap.size w W → Glob W) := fun W h => HG.out.below h
 have HTW : Aside (∀ W, Below w.heap.size w W → Tabs W) := fun W h => HTB.out.own h
 have HTT : Aside (∀ W, Below w5.heap.size w5 W → TbAt W tb bd T L F E) := fun W h => HT5.out.below h
 obtain ⟨pa, ra, X, hpa⟩ := spelt_any HRM.out a
 obtain ⟨pb, rb, Y, hpb⟩ := spelt_any HRM.out b
 have HPA : Aside (Spelt L F a pa ra X) := hpa
 have HPB : Aside (Spelt L F b pb rb Y) := hpb
 clear hb05 hM5 hC5 hpa hpb HG HTB HT5 hs2
 by_cases hlong : 65536 < a.size
 ·
  have t1 : decide ((65536 : Int) < (a.size : Int)) = true := decide_eq_true (by omega)
  have t2 : ((a.size : Int) > 65536) := by omega
  have hc := wsame_any (HTT.out w5 (Below.refl _ _)) (HTW.out _ HB05.out) HPA.out HPB.out
  have u1 : smE a.size b.size ra rb = 2 := by unfold smE; rw [if_pos (by omega)]
  have u2 : smB a.size b.size ra rb X Y = false := by unfold smB; rw [u1]; rfl
  rw [u1, u2] at hc
  clear u1 u2 hlong
  go_wp2_with fail
  refine hc.mono ?_
  clear hc
  rintro _ w6 ⟨rfl, hb6⟩
  have hz6 : Below w.heap.size w w6 := HB05.out.trans (hb6.mono HB05.out.size)
  have haw := awake_any w6 (HGW.out _ hz6) (HTW.out _ hz6)
  go_wp2_with fail
  refine haw.mono ?_
  clear haw
  rintro _ wz ⟨rfl, hbz⟩
  go_wp2
  go_ret
  exact ⟨rfl, hz6.trans (hbz.mono hz6.size)⟩
 have t1 : decide ((65536 : Int) < (a.size : Int)) = false := decide_eq_false (by omega)
 have HAZ : Hid (a.size ≤ 65536) := by show _ ≤ _; omega
 clear hlong
 by_cases hlong : 65536 < b.size
 ·
  have t2 : decide ((65536 : Int) < (b.size : Int)) = true := decide_eq_true (by omega)
  have hc := wsame_any (HTT.out w5 (Below.refl _ _)) (HTW.out _ HB05.out) HPA.out HPB.out
  have u1 : smE a.size b.size ra rb = 2 := by unfold smE; rw [if_pos (by omega)]
  have u2 : smB a.size b.size ra rb X Y = false := by unfold smB; rw [u1]; rfl
  rw [u1, u2] at hc
  clear u1 u2 hlong
  go_wp2_with fail
  refine hc.mono ?_
  clear hc
  rintro _ w6 ⟨rfl, hb6⟩
  have hz6 : Below w.heap.size w w6 := HB05.out.trans (hb6.mono HB05.out.size)
  have haw := awake_any w6 (HGW.out _ hz6) (HTW.out _ hz6)
  go_wp2_with fail
  refine haw.mono ?_
  clear haw
  rintro _ wz ⟨rfl, hbz⟩
  go_wp2
  go_ret
  exact ⟨rfl, hz6.trans (hbz.mono hz6.size)⟩
 have t2 : decide ((65536 : Int) < (b.size : Int)) = false := decide_eq_false (by omega)
 have HBZ : Hid (b.size ≤ 65536) := by show _ ≤ _; omega
 clear hlong
 have m0 : w5.cell? ⟨w.heap.size, 0, none⟩ = some (.string m) := HM5.out.cell 0
 have hc := load_glob m w5 (HGW.out _ HB05.out) (by omega)
 rw [HRM.out] at hc
 go_wp2_with fail
 refine hc.mono ?_
 clear hc m0 t1 t2
 rintro _ w6 ⟨hb6, hp6⟩
 obtain ⟨d2, rfl, hd6⟩ := hp6
 have HB06 : Aside (Below w5.heap.size w5 w6) := hb6
 have HZ6 : Aside (Below w.heap.size w w6) := HB05.out.trans (hb6.mono HB05.out.size)
 have HD6 : Aside (DataAt w6 d2 L F) := hd6
 clear hb6 hd6
 have hc := points_any a (by have := HAZ.out; omega) pa ra HPA.out.split HPA.out.pts HPA.out.rest w6 (HTW.out _ HZ6.out)
 go_wp2_with fail
 refine hc.mono ?_
 clear hc
 rintro _ w7 ⟨⟨hr0, v7, rfl, hown7⟩ | ⟨hr0, rfl⟩, hb7⟩
 case inr =>
  have HB07 : Aside (Below w5.heap.size w5 w7) := HB06.out.trans (hb7.mono HB06.out.size)
  have HZ7 : Aside (Below w.heap.size w w7) := HZ6.out.trans (hb7.mono HZ6.out.size)
  have hc := wsame_any (HTT.out w7 HB07.out) (HTW.out _ HZ7.out) HPA.out HPB.out
  have u1 : smE a.size b.size ra rb = 30 := by
   have h1 := HAZ.out
   have h2 := HBZ.out
   unfold smE
   rw [if_neg (by omega), if_neg (fun h => hr0 h.1)]
  have u2 : smB a.size b.size ra rb X Y = false := by unfold smB; rw [u1]; rfl
  rw [u1, u2] at hc
  clear u1 u2 hr0 hb7
  go_wp2_with fail
  refine hc.mono ?_
  clear hc
  rintro _ w8 ⟨rfl, hb8⟩
  have hz8 : Below w.heap.size w w8 := HZ7.out.trans (hb8.mono HZ7.out.size)
  have haw := awake_any w8 (HGW.out _ hz8) (HTW.out _ hz8)
  go_wp2_with fail
  refine haw.mono ?_
  clear haw
  rintro _ wz ⟨rfl, hbz⟩
  go_wp2
  go_ret
  exact ⟨rfl, hz8.trans (hbz.mono hz8.size)⟩
 subst hr0
 obtain ⟨a7, c7, rfl⟩ := hown7.val
 have HB07 : Aside (Below w5.heap.size w5 w7) := HB06.out.trans (hb7.mono HB06.out.size)
 have HZ7 : Aside (Below w.heap.size w w7) := HZ6.out.trans (hb7.mono HZ6.out.size)
 have hnu : Numb w7 a7 (pa.map fun p : Nat => (p : Int)).length c7 (pa.map fun p : Nat => (p : Int)) := ⟨hown7.ints, rfl, pts_in HPA.out.pts, by have := HPA.out.len; have := HAZ.out; rw [List.length_map]; omega⟩
 have hc := form_load HRM.out (HD6.out.below hb7) hnu
 obtain ⟨pn, hpn⟩ : ∃ pn, (pa.map fun p : Nat => (p : Int)).length = pn := ⟨_, rfl⟩
 rw [hpn] at hc ⊢
 obtain ⟨xs, hxs, hxp⟩ := HPA.out.points HRM.out
 have HXS : Aside (X = (xs.map fun p : Nat => (p : Int))) := hxs
 have HXP : Aside (∀ p ∈ xs, IsPt p) := hxp
 obtain ⟨fm, hfm⟩ : ∃ fm, fm = bs (encs xs) := ⟨_, rfl⟩
 have HFM : Aside (fm = bs (encs xs)) := hfm
 have HPF : Aside (Spelt L F fm xs [] X) := by
  show Spelt L F fm xs [] X
  rw [hfm]
  exact HPA.out.self HRM.out hxs hxp
 have HXL : Hid (X.length ≤ 4294967296) := by
  have h1 := HPA.out.xlen (HD6.out.below hb7)
  have h2 := HPA.out.len
  have h3 := HAZ.out
  show X.length ≤ 4294967296
  omega
 clear hown7 hb7 hnu hpn hxs hxp hfm HB06 HZ6 HD6
 go_wp2_with fail
 refine hc.mono ?_
 clear hc
 rintro e8 w8 hp8
 obtain ⟨g8, k8, c8, X8, rfl, hown8, hfo8, hb8⟩ := hp8.formed
 obtain rfl : X8 = X := FormOf.same hfo8.form HPA.out.form.form
 have HB08 : Aside (Below w5.heap.size w5 w8) := HB07.out.trans (hb8.mono HB07.out.size)
 have HZ8 : Aside (Below w.heap.size w w8) := HZ7.out.trans (hb8.mono HZ7.out.size)
 have hc := text_any (.slice (some ⟨g8, 0, none⟩) k8 c8) X8 HXL.out xs [] (by rw [List.append_nil]; exact HXS.out) HXP.out (.inl rfl) w8 (HTW.out _ HZ8.out) hown8.ints
 clear hown8 hfo8 hb8 HB07 HZ7 hp8
 go_wp2_with fail
 refine hc.mono ?_
 clear hc
 rintro e9 w9 ⟨⟨_, rfl⟩ | ⟨h0, _⟩, hb9⟩
 case inr => exact absurd rfl h0
 rw [← HFM.out]
 have HB09 : Aside (Below w5.heap.size w5 w9) := HB08.out.trans (hb9.mono HB08.out.size)
 have HZ9 : Aside (Below w.heap.size w w9) := HZ8.out.trans (hb9.mono HZ8.out.size)
 clear hb9 HB08 HZ8 HXS HXP HFM HXL
 have t1 : ((0 : Int) == 0) = true := rfl
 have t2 : ((0 : Int) != 0) = false := rfl
 by_cases hlf : 65536 < fm.size
 ·
  have t3 : decide ((65536 : Int) < (fm.size : Int)) = true := decide_eq_true (by omega)
  have hz9 := HZ9.out
  have haw := awake_any w9 (HGW.out _ hz9) (HTW.out _ hz9)
  go_wp2_with fail
  refine haw.mono ?_
  clear haw
  rintro _ wz ⟨rfl, hbz⟩
  go_wp2
  go_ret
  exact ⟨rfl, hz9.trans (hbz.mono hz9.size)⟩
 have t3 : decide ((65536 : Int) < (fm.size : Int)) = false := decide_eq_false (by omega)
 have HFZ : Hid (fm.size ≤ 65536) := by show _ ≤ _; omega
 clear hlf
 have u1 : smE a.size fm.size [] [] = 0 := by have h1 := HAZ.out; have h2 := HFZ.out; unfold smE; rw [if_neg (by omega), if_pos ⟨rfl, rfl⟩]
 have u2 : smB a.size fm.size [] [] X8 X8 = true := by unfold smB; rw [u1]; simp
 have u3 : smE fm.size a.size [] [] = 0 := by have h1 := HAZ.out; have h2 := HFZ.out; unfold smE; rw [if_neg (by omega), if_pos ⟨rfl, rfl⟩]
 have u4 : smB fm.size a.size [] [] X8 X8 = true := by unfold smB; rw [u3]; simp
 have HSF : Aside (∀ W, Below w5.heap.size w5 W → Below w.heap.size w W → Calls Tryz.prog 16 #[.pointer (some ⟨tb, 0, none⟩), .string fm, .string a] W fun e w' => e = .returned (.tuple #[.bool true, .int .i64 0]) ∧ Below W.heap.size W w') := fun W h1 h2 => by
  have := wsame_any (HTT.out W h1) (HTW.out W h2) HPF.out HPA.out
  rw [u3, u4] at this
  exact this
 have hc := wsame_any (HTT.out w9 HB09.out) (HTW.out _ HZ9.out) HPA.out HPF.out
 rw [u1, u2] at hc
 clear u1 u2 u3 u4
 go_wp2_with fail
 refine hc.mono ?_
 clear hc
 rintro _ wA ⟨rfl, hbA⟩
 have HBA : Aside (Below w5.heap.size w5 wA) := HB09.out.trans (hbA.mono HB09.out.size)
 have HZA : Aside (Below w.heap.size w wA) := HZ9.out.trans (hbA.mono HZ9.out.size)
 clear hbA HB09 HZ9
 have hc := HSF.out wA HBA.out HZA.out
 go_wp2_with fail
 refine hc.mono ?_
 clear hc HSF
 rintro _ wB ⟨rfl, hbB⟩
 have HBB : Aside (Below w5.heap.size w5 wB) := HBA.out.trans (hbB.mono HBA.out.size)
 have HZB : Aside (Below w.heap.size w wB) := HZA.out.trans (hbB.mono HZA.out.size)
 clear hbB HBA HZA
 obtain ⟨er, her⟩ : ∃ er : Int, er = (if rightC s sh = true then (0 : Int) else 1) := ⟨_, rfl⟩
 have HER : Hid (er = (if rightC s sh = true then (0 : Int) else 1)) := her
 obtain ⟨K, hK⟩ : ∃ K, K = keyG s sh back (wEls L E X8) er := ⟨_, rfl⟩
 have HK : Hid (K = keyG s sh back (wEls L E X8) er) := hK
 have HKY : Aside (∀ W, Below w5.heap.size w5 W → Below w.heap.size w W → ∀ t ps, Spelt L F t ps [] X8 → t.size ≤ 65536 → Calls Tryz.prog 12 #[.pointer (some ⟨tb, 0, none⟩), .agg #[.int .i64 s, .bool sh, .bool back], .string t] W fun e w' => e = .returned (.tuple #[.string K, .int .i64 er]) ∧ Below W.heap.size W w') := fun W h1 h2 t ps hp hz => by
  have h := key_g (welS (HTT.out W h1) HSI.out sh back hp hz) (HTT.out W h1) (HTW.out W h2)
  rw [elErr_at hz, ← HER.out, ← HK.out] at h
  exact h
 clear her hK
 have cbx : ∀ W, Below w5.heap.size w5 W → (W.cell? ⟨w.heap.size + 2, 0, none⟩ = some (.int .i64 s) ∧ W.cell? ⟨w.heap.size + 2, 1, none⟩ = some (.bool sh) ∧ W.cell? ⟨w.heap.size + 2, 2, none⟩ = some (.bool back)) := fun W h => ⟨(HC5.out.old h).cell 0, (HC5.out.old h).cell 1, (HC5.out.old h).cell 2⟩
 have HCB : Aside (∀ W, Below w5.heap.size w5 W → (W.cell? ⟨w.heap.size + 2, 0, none⟩ = some (.int .i64 s) ∧ W.cell? ⟨w.heap.size + 2, 1, none⟩ = some (.bool sh) ∧ W.cell? ⟨w.heap.size + 2, 2, none⟩ = some (.bool back))) := cbx
 clear cbx
 have hc := HKY.out wB HBB.out HZB.out a pa HPA.out HAZ.out
 obtain ⟨c0, c1, c2⟩ := HCB.out wB HBB.out
 go_wp2_with fail
 refine hc.mono ?_
 clear hc c0 c1 c2
 rintro _ wC ⟨rfl, hbC⟩
 have HBC : Aside (Below w5.heap.size w5 wC) := HBB.out.trans (hbC.mono HBB.out.size)
 have HZC : Aside (Below w.heap.size w wC) := HZB.out.trans (hbC.mono HZB.out.size)
 clear hbC HBB HZB
 have hc := HKY.out wC HBC.out HZC.out fm xs HPF.out HFZ.out
 obtain ⟨c0, c1, c2⟩ := HCB.out wC HBC.out
 go_wp2_with fail
 refine hc.mono ?_
 clear hc c0 c1 c2
 rintro _ wD ⟨rfl, hbD⟩
 have HBD : Aside (Below w5.heap.size w5 wD) := HBC.out.trans (hbD.mono HBC.out.size)
 have HZD : Aside (Below w.heap.size w wD) := HZC.out.trans (hbD.mono HZC.out.size)
 clear hbD HBC HZC
 have t4 : (er == er) = true := by simp
 have t5 : (er != er) = false := by simp [bne]
 have t6 : (K.toList == K.toList) = true := by simp
 have hc := wsame_any (HTT.out wD HBD.out) (HTW.out _ HZD.out) HPA.out HPB.out
 obtain ⟨e2, he2⟩ : ∃ e2, smE a.size b.size [] rb = e2 := ⟨_, rfl⟩
 obtain ⟨b2, hb2⟩ : ∃ b2, smB a.size b.size [] rb X8 Y = b2 := ⟨_, rfl⟩
 have HLK : Hid ((e2 = 0 ∧ b2 = true ∧ rb = [] ∧ Y = X8) ∨ (e2 = 0 ∧ b2 = false) ∨ (e2 = 30 ∧ b2 = false)) := by
  have h1 := HAZ.out
  have h2 := HBZ.out
  have h3 : smE a.size b.size [] rb = if rb = [] then 0 else 30 := by unfold smE; rw [if_neg (by omega)]; simp
  have h4 : smB a.size b.size [] rb X8 Y = (decide (smE a.size b.size [] rb = 0) && decide (X8 = Y)) := rfl
  rw [h3] at he2 h4
  rw [hb2] at h4
  show _ ∨ _ ∨ _
  by_cases hr : rb = []
  ·
   rw [if_pos hr] at he2 h4
   by_cases hx : X8 = Y
   ·
    exact .inl ⟨he2.symm, by rw [h4]; simp [hx], hr, hx.symm⟩
   ·
    exact .inr (.inl ⟨he2.symm, by rw [h4]; simp [hx]⟩)
  ·
   rw [if_neg hr] at he2 h4
   exact .inr (.inr ⟨he2.symm, by rw [h4]; simp⟩)
 rw [he2, hb2] at hc
 clear he2 hb2
 go_wp2_with fail
 refine hc.mono ?_
 clear hc
 rintro _ wE ⟨rfl, hbE⟩
 have HBE : Aside (Below w5.heap.size w5 wE) := HBD.out.trans (hbE.mono HBD.out.size)
 have HZE : Aside (Below w.heap.size w wE) := HZD.out.trans (hbE.mono HZD.out.size)
 clear hbE HBD HZD t6
 have hWB := welS (HTT.out wE HBE.out) HSI.out sh back HPB.out HBZ.out
 have hc := key_g hWB (HTT.out wE HBE.out) (HTW.out _ HZE.out)
 have hq : Hid (rb = [] → Y = X8 → keyG s sh back (wEls L E Y) (elErr s sh b.size rb) = K ∧ elErr s sh b.size rb = er) := fun h1 h2 => by
  rw [h1, h2, elErr_at HBZ.out, ← HER.out, HK.out]
  exact ⟨rfl, rfl⟩
 obtain ⟨kb, hkb⟩ : ∃ kb, keyG s sh back (wEls L E Y) (elErr s sh b.size rb) = kb := ⟨_, rfl⟩
 obtain ⟨eb, heb⟩ : ∃ eb, elErr s sh b.size rb = eb := ⟨_, rfl⟩
 have HQ : Hid (rb = [] → Y = X8 → kb = K ∧ eb = er) := by rw [← hkb, ← heb]; exact hq.out
 rw [hkb, heb] at hc
 obtain ⟨c0, c1, c2⟩ := HCB.out wE HBE.out
 clear hkb heb hq hWB
 unfold colA at hc
 go_wp2_with fail
 refine hc.mono ?_
 clear hc c0 c1 c2
 rintro _ wF ⟨rfl, hbF⟩
 have HBF : Aside (Below w5.heap.size w5 wF) := HBE.out.trans (hbF.mono HBE.out.size)
 have HZF : Aside (Below w.heap.size w wF) := HZE.out.trans (hbF.mono HZE.out.size)
 clear hbF HBE HZE
 have t7 : ((30 : Int) == 30) = true := rfl
 have t8 : ((30 : Int) == 0) = false := rfl
 have t9 : ((30 : Int) != 0) = true := rfl
 rcases HLK.out with ⟨rfl, rfl, hr, hy⟩ | ⟨rfl, rfl⟩ | ⟨rfl, rfl⟩
 ·
  obtain ⟨rfl, rfl⟩ := HQ.out hr hy
  subst hr hy
  have hWA := welS (HTT.out wF HBF.out) HSI.out sh back HPA.out HAZ.out
  have hWB := welS (HTT.out wF HBF.out) HSI.out sh back HPB.out HBZ.out
  rw [elErr_at HAZ.out, ← HER.out] at hWA
  rw [elErr_at HBZ.out, ← HER.out] at hWB
  have hc := cmp_g hWA hWB (HTT.out wF HBF.out) (HTW.out _ HZF.out)
  rw [cmpG_self, errG_self] at hc
  obtain ⟨c0, c1, c2⟩ := HCB.out wF HBF.out
  have t6 : (kb.toList == kb.toList) = true := by simp
  clear hWA hWB HLK HQ HKY HK HER
  unfold colA at hc
  go_wp2_with fail
  refine hc.mono ?_
  clear hc c0 c1 c2
  rintro _ wG ⟨rfl, hbG⟩
  have hzG : Below w.heap.size w wG := HZF.out.trans (hbG.mono HZF.out.size)
  have haw := awake_any wG (HGW.out _ hzG) (HTW.out _ hzG)
  go_wp2_with fail
  refine haw.mono ?_
  clear haw
  rintro _ wz ⟨rfl, hbz⟩
  go_wp2
  go_ret
  exact ⟨rfl, hzG.trans (hbz.mono hzG.size)⟩
 ·
  have hzF := HZF.out
  clear HLK HQ HKY HK HER
  have haw := awake_any wF (HGW.out _ hzF) (HTW.out _ hzF)
  go_wp2_with fail
  refine haw.mono ?_
  clear haw
  rintro _ wz ⟨rfl, hbz⟩
  go_wp2
  go_ret
  exact ⟨rfl, hzF.trans (hbz.mono hzF.size)⟩
 ·
  have hzF := HZF.out
  clear HLK HQ HKY HK HER
  have haw := awake_any wF (HGW.out _ hzF) (HTW.out _ hzF)
  go_wp2_with fail
  refine haw.mono ?_
  clear haw
  rintro _ wz ⟨rfl, hbz⟩
  go_wp2
  go_ret
  exact ⟨rfl, hzF.trans (hbz.mono hzF.size)⟩
end Go.Proofs.YtfhpgmlfgjfknaaGreatDoor
