/- Contracts and lemmas (nothing is claimed here). -/
import Derived.Test.YtfhpgmlfgjfknaaGreatDoorJ35
import Derived.BigRegion
import Derived.Test.YtfhpgmlfgjfknaaGreatDoorJ25
import Derived.Test.YtfhpgmlfgjfknaaGreatDoorJ1
import Derived.Test.YtfhpgmlfgjfknaaGreatDoorJ8
import Derived.Test.YtfhpgmlfgjfknaaGreatDoorWgE
namespace Go.Proofs.YtfhpgmlfgjfknaaGreatDoor
open Go.RowKit Go.Vf Go.Maps
def AnyB (e : Ending) : Prop := ∃ b, e = .returned (.bool b)
def Tb8 (w : World) (th : Bool) (dv _tv : Value) : Prop := th = false ∨ ∃ (t : List UInt8) (L : List Mk) (F : Int → List Int) (a : Option Addr) (n c : Nat), loadR t = .ok (L, F) ∧ (∀ q, (partsR' F q).length ≤ 57) ∧ dv = .slice a n c ∧ MIn w.heap.size w dv (marksR L)
theorem Tb8.go {w w' : World} {th : Bool} {dv tv : Value} (h : Tb8 w th dv tv) (hb : Below w.heap.size w w') : Tb8 w' th dv tv := by
  rcases h with h | ⟨t, L, F, a, n, c, h1, h2, h3, h4⟩
  · exact .inl h
  · exact .inr ⟨t, L, F, a, n, c, h1, h2, h3, h4.go hb⟩
set_option maxHeartbeats 8000000 in
set_option maxRecDepth 20000 in
theorem light_in (th : Bool) (da : Option Addr) (dn dc : Nat) (ta : Option Addr) (tn tc : Nat) (s : ByteArray) (hs : s.size ≤ 4294967296) (w : World) (ht : Tb8 w th (.slice da dn dc) (.slice ta tn tc)) :
    Calls Tryz.prog 24 #[.agg #[.bool th, .slice da dn dc, .slice ta tn tc], .string s, .int .i64 1000] w fun e w' => AnyB e ∧ Below w.heap.size w w' := by
  obtain ⟨ps, rest, hsp, hps, hrest⟩ := split_bytes s.data.toList
  have hb0 := (Below.refl w.heap.size w).alloc (Nat.le_refl _) (.cells #[.bool th, .slice da dn dc, .slice ta tn tc] 67)
  have hn0 := Blk.new w 67 #[.bool th, .slice da dn dc, .slice ta tn tc]
  have ht0 := ht.go hb0
  go_enter Tryz.func24, Tryz.ntmps24
  go_wp2_with fail
  generalize w.alloc (.cells #[.bool th, .slice da dn dc, .slice ta tn tc] 67) = w0 at hb0 hn0 ht0 ⊢
  refine (refPoints_any s hs ps rest hsp hps hrest w0).mono ?_
  rintro e w1 ⟨hp1, hb1⟩
  have hb01 := hb0.trans (hb1.mono hb0.size)
  have hn1 := hn0.below hb1 hn0.lt
  have HT1 : Aside (Tb8 w1 th (.slice da dn dc) (.slice ta tn tc)) := ht0.go hb1
  have c0 : w1.cell? ⟨w.heap.size, 0, none⟩ = some (.bool th) := hn1.cell 0
  cases th with
  | false =>
    rcases hp1 with ⟨hr0, v, rfl, _⟩ | ⟨hr0, rfl⟩
    · go_wp2_with fail
      go_ret
      exact ⟨⟨_, rfl⟩, hb01⟩
    · go_wp2_with fail
      go_ret
      exact ⟨⟨_, rfl⟩, hb01⟩
  | true =>
    rcases hp1 with ⟨hr0, v, rfl, hown⟩ | ⟨hr0, rfl⟩
    · by_cases hlong : 65536 < s.size
      · have hlz : decide ((65536 : Int) < (s.size : Int)) = true := by simp; omega
        go_wp2_with fail
        go_ret
        exact ⟨⟨_, rfl⟩, hb01⟩
      · have hlz : decide ((65536 : Int) < (s.size : Int)) = false := by simp; omega
        obtain ⟨va, vc, rfl⟩ := hown.val
        have hpl : (ps.map fun p : Nat => (p : Int)).length ≤ 65536 := by
          have h1 := encs_length_ge ps
          have h2 : (encs ps ++ rest).length = s.size := by rw [← hsp, ← Lib.size_eq]
          rw [List.length_append] at h2
          rw [List.length_map]
          omega
        have HIN : Aside (Ints w1.heap.size w1 (.slice va (ps.map fun p : Nat => (p : Int)).length vc) (ps.map fun p : Nat => (p : Int))) := hown.ints
        generalize (ps.map fun p : Nat => (p : Int)) = zs at HIN hpl hown
        obtain ⟨t, L, F, a', n', c', hld, h57, hdv, hmin⟩ := HT1.out.resolve_left (by decide)
        have HLD : Hid (loadR t = .ok (L, F)) := hld
        have H57 : Hid (∀ q, (partsR' F q).length ≤ 57) := h57
        have HMI : Aside (MIn w1.heap.size w1 (.slice da dn dc) (marksR L)) := hmin
        have hlt1 := hn1.lt
        clear hown hsp hps hrest hdv hmin hld h57 HT1
        generalize hzl : zs.length = zl at *
        have HZL : Hid (zs.length = zl) := hzl
        clear hzl
        go_wp2_with fail
        go_loopg [2, 10, 11] zl (fun g1 mv av iv wr => ∃ (mk al i : Nat), mv = .int .i64 mk ∧ av = .int .i64 al ∧ iv = .int .i64 i ∧ mk ≤ 1000 ∧ al ≤ 262144 ∧ i ≤ zl ∧ zl - i ≤ g1 ∧ Aside (Below w1.heap.size w1 wr))
        case atStart => exact ⟨1000, 0, 0, rfl, rfl, rfl, by omega, by omega, by omega, by omega, Below.refl _ _⟩
        case round =>
          obtain ⟨mk, al, i, rfl, rfl, rfl, hmk, hal, hi, hg1, HBW⟩ := hrel
          by_cases hlt : i < zl
          · have hltz : (i : Int) < (zl : Int) := by omega
            have hlen : i < zs.length := by rw [HZL.out]; exact hlt
            obtain ⟨bz, oz, rfl, hcz⟩ := ints_at HIN.out hlen
            have hbz : bz < w1.heap.size := World.block_lt_of_cell? w1 _ hcz
            generalize zs[i] = q at hcz
            obtain ⟨wo, hwo⟩ : ∃ wo, wo = wr := ⟨_, rfl⟩
            subst hwo
            have y0 := (HBW.out.cell (p := ⟨bz, oz + i, none⟩) hbz).trans hcz
            have y1 : wo.cell? ⟨w.heap.size, 1, none⟩ = some (.slice da dn dc) := (HBW.out.cell (p := ⟨w.heap.size, 1, none⟩) hlt1).trans (hn1.cell 1)
            have HPC : Hid (∀ X, Below wo.heap.size wo X → Calls Tryz.prog 55 #[.agg #[.slice da dn dc], .int .i64 q] X fun e w' => ∃ a n c, e = .returned (.slice a n c) ∧ (n ≤ 57 ∧ ∃ pp, Ints w'.heap.size w' (.slice a n c) pp ∧ pp.length = n) ∧ Below wo.heap.size wo w') := fun X hX => by
              refine (rparts_load HLD.out q (H57.out q) (HMI.out.go (HBW.out.trans (hX.mono HBW.out.size)))).mono ?_
              rintro e w' ⟨a, n, c, rfl, h1, h2⟩
              obtain ⟨_, _, e1⟩ := h1.val
              obtain rfl : n = _ := (Value.slice.inj e1).2.1
              exact ⟨a, _, c, rfl, ⟨H57.out q, _, h1.ints, rfl⟩, hX.trans (h2.mono hX.size)⟩
            have hbd : Below wo.heap.size wo wo.drew := (Below.refl _ wo).drew
            clear hcz hbz
            go_upto_region 8 with fail
            go_cut [12] from 32 to 70 (fun v wx => ∃ a n c, v = .slice a n c ∧ (n ≤ 57 ∧ ∃ pp, Aside (Ints wx.heap.size wx (.slice a n c) pp) ∧ Hid (pp.length = n)) ∧ Aside (Below wo.heap.size wo wx))
            case first =>
              go_region_with (first | (go_at_call 55; with_reducible refine (HPC.out _ (by assumption)).mono ?_; rintro e w3 ⟨a3, n3, c3, rfl, ⟨hn3, pp, hi3, hl3⟩, hb3⟩))
              all_goals
                go_wp2_with fail
                go_meet
                exact ⟨a3, n3, c3, rfl, ⟨hn3, pp, hi3, hl3⟩, hb3⟩
            case rest =>
              obtain ⟨a3, n3, c3, rfl, ⟨hn3, pp, HI3, HL3⟩, HB3⟩ := hcut
              have hb1o := HBW.out.trans (HB3.out.mono HBW.out.size)
              clear HPC y0 y1 hbd
              go_wp2_with fail
              go_loopg [2, 13] n3 (fun g2 mv kv wr => ∃ (m k : Nat), mv = .int .i64 ((mk : Int) - (m : Int)) ∧ kv = .int .i64 k ∧ m ≤ k ∧ k ≤ n3 ∧ n3 - k ≤ g2 ∧ Aside (Below wc.heap.size wc wr))
              case atStart => exact ⟨0, 0, by simp, rfl, by omega, by omega, by omega, Below.refl _ _⟩
              case round =>
                obtain ⟨m, k, rfl, rfl, hmk2, hk, hg2, HBX⟩ := hrel
                by_cases hkl : k < n3
                · have hklz : (k : Int) < (n3 : Int) := by omega
                  obtain ⟨bp, op, rfl, hcp⟩ := ints_at HI3.out (show k < pp.length by rw [HL3.out]; exact hkl)
                  have hbp : bp < wc.heap.size := World.block_lt_of_cell? wc _ hcp
                  generalize pp[k]'(by rw [HL3.out]; exact hkl) = u at hcp
                  have z0 := (HBX.out.cell (p := ⟨bp, op + k, none⟩) hbp).trans hcp
                  have hb1w := hb1o.trans (HBX.out.mono hb1o.size)
                  have z1 : wr.cell? ⟨w.heap.size, 1, none⟩ = some (.slice da dn dc) := (hb1w.cell (p := ⟨w.heap.size, 1, none⟩) hlt1).trans (hn1.cell 1)
                  have HCC : Hid (∀ X, Below wr.heap.size wr X → Calls Tryz.prog 56 #[.agg #[.slice da dn dc], .int .i64 u] X fun e w' => ∃ cl : Int, e = .returned (.int .i64 cl) ∧ Below wr.heap.size wr w') := fun X hX => by
                    refine (rclass_load HLD.out u (HMI.out.go (hb1w.trans (hX.mono hb1w.size)))).mono ?_
                    rintro e w' ⟨rfl, h2⟩
                    exact ⟨_, rfl, hX.trans (h2.mono hX.size)⟩
                  have hbd : Below wr.heap.size wr wr.drew := (Below.refl _ wr).drew
                  clear hcp hbp
                  go_upto_region 13 with fail
                  go_cut [62] from 49 to 64 (fun v wx => ∃ b, v = .bool b ∧ Aside (Below wr.heap.size wr wx))
                  case first =>
                    go_region_with (first | (go_at_call 56; with_reducible refine (HCC.out _ (by assumption)).mono ?_; rintro e w4 ⟨cl, rfl, hb4⟩))
                    all_goals
                      go_wp2_with fail
                      go_meet
                      exact ⟨_, rfl, by assumption⟩
                  case rest =>
                    obtain ⟨b, rfl, HB4⟩ := hcut
                    have HBY : Aside (Below _ _ _) := HBX.out.trans (HB4.out.mono HBX.out.size)
                    cases b with
                    | true =>
                      go_wp2
                      go_roundg (n3 - (k + 1))
                      case measure => omega
                      case rel => exact ⟨m + 1, k + 1, by first | rfl | (congr 1; omega) | go_num, by first | rfl | go_num, by omega, by omega, Nat.le_refl _, HBY⟩
                    | false =>
                      go_wp2
                      go_roundg (n3 - (k + 1))
                      case measure => omega
                      case rel => exact ⟨m, k + 1, by first | rfl | go_num, by first | rfl | go_num, by omega, by omega, Nat.le_refl _, HBY⟩
                · have hklz : ¬ (k : Int) < (n3 : Int) := by omega
                  have HBF : Aside (Below _ _ _) := hb1o.trans (HBX.out.mono hb1o.size)
                  by_cases hneg : (mk : Int) - (m : Int) < 0
                  · have d1 : decide ((mk : Int) - (m : Int) < 0) = true := by simpa using hneg
                    go_wp2_with fail
                    go_ret
                    exact ⟨⟨_, rfl⟩, hb01.trans (HBF.out.mono hb01.size)⟩
                  · have d1 : decide ((mk : Int) - (m : Int) < 0) = false := by simpa using hneg
                    by_cases hmany : (262144 : Int) < (al : Int) + (n3 : Int)
                    · have d2 : decide ((262144 : Int) < (al : Int) + (n3 : Int)) = true := by simpa using hmany
                      go_wp2_with fail
                      go_ret
                      exact ⟨⟨_, rfl⟩, hb01.trans (HBF.out.mono hb01.size)⟩
                    · have d2 : decide ((262144 : Int) < (al : Int) + (n3 : Int)) = false := by simpa using hmany
                      go_wp2
                      go_roundg (zl - (i + 1))
                      case measure => omega
                      case rel => exact ⟨mk - m, al + n3, i + 1, by first | rfl | (congr 1; omega), by first | rfl | (congr 1; omega), by first | rfl | go_num, by omega, by omega, by omega, by omega, HBF⟩
          · have hltz : ¬ (i : Int) < (zl : Int) := by omega
            go_wp2_with fail
            go_ret
            exact ⟨⟨_, rfl⟩, hb01.trans (HBW.out.mono hb01.size)⟩
    · go_wp2_with fail
      go_ret
      exact ⟨⟨_, rfl⟩, hb01⟩
set_option maxHeartbeats 4000000 in
set_option maxRecDepth 20000 in
theorem wlight_any (m e s : ByteArray) (hm : m.size ≤ 281474976710656) (he : e.size ≤ 281474976710656) (hs : s.size ≤ 4294967296) (h57 : ∀ L F, loadR m.data.toList = .ok (L, F) → ∀ q, (partsR' F q).length ≤ 57) (w : World) :
    Calls Tryz.prog 11 #[.agg #[.string m, .string e], .string s] w fun e w' => AnyB e ∧ Below w.heap.size w w' := by
  have hb0 := (Below.refl w.heap.size w).alloc (Nat.le_refl _) (.cells #[.string m, .string e] 23)
  have hn0 := Blk.new w 23 #[.string m, .string e]
  have c0 : (w.alloc (.cells #[.string m, .string e] 23)).cell? ⟨w.heap.size, 0, none⟩ = some (.string m) := hn0.cell 0
  have c1 : (w.alloc (.cells #[.string m, .string e] 23)).cell? ⟨w.heap.size, 1, none⟩ = some (.string e) := hn0.cell 1
  go_enter Tryz.func11, Tryz.ntmps11
  go_wp2_with fail
  generalize w.alloc (.cells #[.string m, .string e] 23) = w0 at hb0 hn0 c0 c1 ⊢
  refine (load8_any m e hm he w0).mono ?_
  rintro r w1 ⟨hb1, ⟨why, which, line, hl, rfl⟩ | ⟨L, F, E, l, da, dn, dc, ta, tn, tc, hl, hR, hri, hpe, rfl, hD, hN⟩⟩
  · clear c0 c1
    have hb2 := hb1.alloc hb1.size (.cells #[.bool false, .slice none 0 0, .slice none 0 0] 67)
    have hn2 := Blk.new w1 67 #[.bool false, .slice none 0 0, .slice none 0 0]
    have hb02 := hb0.trans (hb2.mono hb0.size)
    go_upto_region 2 with fail
    generalize w1.alloc (.cells #[.bool false, .slice none 0 0, .slice none 0 0] 67) = w2 at hb2 hn2 hb02 ⊢
    generalize w1.heap.size = DB at hn2 ⊢
    have c0 : w2.cell? ⟨DB, 0, none⟩ = some (.bool false) := hn2.cell 0
    have c1 : w2.cell? ⟨DB, 1, none⟩ = some (.slice none 0 0) := hn2.cell 1
    have c2 : w2.cell? ⟨DB, 2, none⟩ = some (.slice none 0 0) := hn2.cell 2
    go_wp2_with fail
    refine (light_in false none 0 0 none 0 0 s hs w2 (.inl rfl)).mono ?_
    rintro _ w3 ⟨⟨b, rfl⟩, hb3⟩
    go_wp2_with fail
    go_ret
    exact ⟨⟨_, rfl⟩, hb02.trans (hb3.mono hb02.size)⟩
  · clear c0 c1
    have hb2' := (Below.refl w1.heap.size w1).alloc (Nat.le_refl _) (.cells #[.bool true, .slice da dn dc, .slice ta tn tc] 67)
    have hb2 := hb1.alloc hb1.size (.cells #[.bool true, .slice da dn dc, .slice ta tn tc] 67)
    have hn2 := Blk.new w1 67 #[.bool true, .slice da dn dc, .slice ta tn tc]
    have hb02 := hb0.trans (hb2.mono hb0.size)
    have HD : Aside (MIn (w1.alloc (.cells #[.bool true, .slice da dn dc, .slice ta tn tc] 67)).heap.size (w1.alloc (.cells #[.bool true, .slice da dn dc, .slice ta tn tc] 67)) (.slice da dn dc) (marksR L)) := hD.go hb2'
    clear hD hN hl
    go_upto_region 2 with fail
    generalize w1.alloc (.cells #[.bool true, .slice da dn dc, .slice ta tn tc] 67) = w2 at hb2 hn2 hb02 HD ⊢
    generalize w1.heap.size = DB at hn2 ⊢
    have c0 : w2.cell? ⟨DB, 0, none⟩ = some (.bool true) := hn2.cell 0
    have c1 : w2.cell? ⟨DB, 1, none⟩ = some (.slice da dn dc) := hn2.cell 1
    have c2 : w2.cell? ⟨DB, 2, none⟩ = some (.slice ta tn tc) := hn2.cell 2
    go_wp2_with fail
    refine (light_in true da dn dc ta tn tc s hs w2 (.inr ⟨_, L, F, da, dn, dc, hR, h57 L F hR, rfl, HD.out⟩)).mono ?_
    rintro _ w3 ⟨⟨b, rfl⟩, hb3⟩
    go_wp2_with fail
    go_ret
    exact ⟨⟨_, rfl⟩, hb02.trans (hb3.mono hb02.size)⟩
structure Wel (b bd T : Nat) (L : List Mk) (F : Int → List Int) (E : List Ent) (txt : ByteArray) (es : List El) (er : Int) : Prop where
  why : er = 0 ∨ er = 2 ∨ er = 30
  ok : ∀ e ∈ es, WtOk e
  few : es.length ≤ 60000000
  call : ∀ (w : World), TbAt w b bd T L F E → Tabs w → ∀ (s : Int) (sh back : Bool), rightC s sh = true → ∀ W, Below w.heap.size w W → Calls Tryz.prog 25 #[.pointer (some ⟨b, 0, none⟩), colA s sh back, .string txt] W fun e w' => ElPost es er W e w'
theorem right_in {s : Int} {sh : Bool} (h : rightC s sh = true) : 1 ≤ s ∧ s ≤ 4 := by
  unfold rightC at h
  simp only [Bool.and_eq_true, decide_eq_true_eq] at h
  obtain ⟨h1, h2⟩ := h
  split at h2 <;> omega
theorem wel_any {w : World} {b bd T : Nat} {L : List Mk} {F : Int → List Int} {E : List Ent} (h : TbAt w b bd T L F E) (txt : ByteArray) : ∃ es er, Wel b bd T L F E txt es er := by
  obtain ⟨ps, rest, hsp, hps, hrest⟩ := split_bytes txt.data.toList
  obtain ⟨m, hm⟩ := h.load
  obtain ⟨X, hX, hXl, _⟩ := form_exists (fun x => (load_cls hm x).1) (flatR F (ps.map fun p : Nat => (p : Int)))
  have hfl := (flat_len h.data (ps.map fun p : Nat => (p : Int))).1
  rw [List.length_map] at hfl
  have hXp : X.length ≤ 57 * ps.length := by omega
  have hcall : ∀ (w : World), TbAt w b bd T L F E → Tabs w → ∀ (s : Int) (sh back : Bool), rightC s sh = true → ∀ W, Below w.heap.size w W → Calls Tryz.prog 25 #[.pointer (some ⟨b, 0, none⟩), colA s sh back, .string txt] W fun e w' => ElPost (wEls L E X) (elErr s sh txt.size rest) W e w' := fun w hw ht s sh back hr W hW =>
    welements_any (hw.below hW) (ht.own hW) s (by have := right_in hr; unfold InI; omega) sh back txt ps rest hsp hps hrest hX hXp
  have her : ∀ (s : Int) (sh : Bool), rightC s sh = true → elErr s sh txt.size rest = if 65536 < txt.size then 2 else if rest = [] then 0 else 30 := fun s sh hr => by unfold elErr; rw [if_pos hr]
  have hok := wel_ok h X
  have hpl : ps.length ≤ txt.size := by
    have h1 := encs_length_ge ps
    have h2 : (encs ps ++ rest).length = txt.size := by rw [← hsp, ← Lib.size_eq]
    rw [List.length_append] at h2
    omega
  by_cases h1 : 65536 < txt.size
  · refine ⟨[], 2, .inr (.inl rfl), by simp, by simp, fun w hw ht s sh back hr W hW => (hcall w hw ht s sh back hr W hW).mono ?_⟩
    rw [her s sh hr, if_pos h1]
    rintro e w' ⟨hb, ⟨h0, _⟩ | ⟨_, he⟩⟩
    · exact absurd h0 (by decide)
    · exact ⟨hb, .inr ⟨by decide, he⟩⟩
  · by_cases h2 : rest = []
    · refine ⟨wEls L E X, 0, .inl rfl, hok.1, by omega, fun w hw ht s sh back hr W hW => ?_⟩
      have := hcall w hw ht s sh back hr W hW
      rw [her s sh hr, if_neg h1, if_pos h2] at this
      exact this
    · refine ⟨[], 30, .inr (.inr rfl), by simp, by simp, fun w hw ht s sh back hr W hW => (hcall w hw ht s sh back hr W hW).mono ?_⟩
      rw [her s sh hr, if_neg h1, if_neg h2]
      rintro e w' ⟨hb, ⟨h0, _⟩ | ⟨_, he⟩⟩
      · exact absurd h0 (by decide)
      · exact ⟨hb, .inr ⟨by decide, he⟩⟩
theorem keyLv_succ (n : Nat) (sh back : Bool) (es : List El) : keyLv (n + 1) sh back es = keyLv n sh back es ++ rowK (lev sh back n es) := by
  unfold keyLv levs
  rw [List.range_succ, List.flatMap_append]
  simp
theorem keyLv_len : ∀ (n : Nat) (sh back : Bool) (es : List El), es.length ≤ 60000000 → (keyLv n sh back es).length ≤ n * 120000002 := by
  intro n
  induction n with
  | zero => intro sh back es _; simp [keyLv, levs]
  | succ n ih =>
    intro sh back es h
    have h1 := ih sh back es h
    have h2 := lev_len sh back n es
    rw [keyLv_succ, List.length_append, rowK_len]
    omega
theorem less_cmp (a b : List UInt8) : Op.bytesLess a b = decide (cmpL a b = -1) := by
  fun_induction cmpL a b
  · rfl
  · rfl
  · rfl
  · rename_i h; simp [Op.bytesLess, h]
  · rename_i a x b y h1 h2
    have : ¬ a = b := fun e => by subst e; exact absurd h2 (UInt8.lt_irrefl _)
    simp [Op.bytesLess, h1, this]
  · rename_i a x b y h1 h2 ih
    have e : a = b := UInt8.le_antisymm (UInt8.not_lt.1 h2) (UInt8.not_lt.1 h1)
    subst e
    simp [Op.bytesLess, ih]
theorem cmpL_le {a b c : List UInt8} : cmpL a b ≤ 0 → cmpL b c ≤ 0 → cmpL a c ≤ 0 := by
  induction a generalizing b c with
  | nil => intro _ _; cases c <;> simp [cmpL]
  | cons x a ih =>
    intro h1 h2
    cases b with
    | nil => simp [cmpL] at h1
    | cons y b =>
      cases c with
      | nil => simp [cmpL] at h2
      | cons z c =>
        simp only [cmpL, UInt8.lt_iff_toNat_lt] at h1 h2 ⊢
        have := @ih b c
        by_cases hxy : x.toNat < y.toNat
        · by_cases hyz : y.toNat < z.toNat
          · rw [if_pos (by omega)]; omega
          · rw [if_neg hyz] at h2
            by_cases hzy : z.toNat < y.toNat
            · rw [if_pos hzy] at h2; omega
            · rw [if_pos (by omega)]; omega
        · rw [if_neg hxy] at h1
          by_cases hyx : y.toNat < x.toNat
          · rw [if_pos hyx] at h1; omega
          · rw [if_neg hyx] at h1
            by_cases hyz : y.toNat < z.toNat
            · rw [if_pos (by omega)]; omega
            · rw [if_neg hyz] at h2
              by_cases hzy : z.toNat < y.toNat
              · rw [if_pos hzy] at h2; omega
              · rw [if_neg hzy] at h2
                rw [if_neg (by omega), if_neg (by omega)]
                exact this h1 h2
theorem byte_nat (n : Int) (h0 : 0 ≤ n) (h1 : n ≤ 255) : ((UInt8.ofNat n.toNat).toNat : Int) = n := by
  rw [UInt8.toNat_ofNat']
  omega
theorem two_cmp {x y : Int} (hx : 0 ≤ x ∧ x ≤ 65535) (hy : 0 ≤ y ∧ y ≤ 65535) (A B : List UInt8) : cmpL (two x ++ A) (two y ++ B) = if x < y then -1 else if y < x then 1 else cmpL A B := by
  have a1 := byte_nat (x / 256) (by omega) (by omega)
  have a2 := byte_nat (x % 256) (by omega) (by omega)
  have b1 := byte_nat (y / 256) (by omega) (by omega)
  have b2 := byte_nat (y % 256) (by omega) (by omega)
  simp only [two, List.cons_append, List.nil_append, cmpL, UInt8.lt_iff_toNat_lt]
  generalize (UInt8.ofNat (x / 256).toNat).toNat = p1 at *
  generalize (UInt8.ofNat (x % 256).toNat).toNat = p2 at *
  generalize (UInt8.ofNat (y / 256).toNat).toNat = q1 at *
  generalize (UInt8.ofNat (y % 256).toNat).toNat = q2 at *
  by_cases h1 : x < y
  · rw [if_pos h1]
    by_cases h2 : p1 < q1
    · rw [if_pos h2]
    · rw [if_neg h2, if_neg (by omega), if_pos (by omega)]
  · rw [if_neg h1]
    by_cases h3 : y < x
    · rw [if_pos h3]
      by_cases h2 : q1 < p1
      · rw [if_neg (by omega), if_pos h2]
      · rw [if_neg (by omega), if_neg h2, if_neg (by omega), if_pos (by omega)]
    · rw [if_neg h3, if_neg (by omega), if_neg (by omega), if_neg (by omega), if_neg (by omega)]
def Row16 (r : List Int) : Prop := ∀ n ∈ r, 1 ≤ n ∧ n ≤ 65535
theorem rowK_cons (x : Int) (r : List Int) (A : List UInt8) : rowK (x :: r) ++ A = two x ++ (rowK r ++ A) := by simp [rowK, List.flatMap_cons]
theorem rowK_nil (A : List UInt8) : rowK [] ++ A = two 0 ++ A := rfl
theorem rowK_cmp : ∀ {a b : List Int} (_ : Row16 a) (_ : Row16 b) (A B : List UInt8), cmpL (rowK a ++ A) (rowK b ++ B) = if cmpU a b = 0 then cmpL A B else cmpU a b := by
  intro a
  induction a with
  | nil =>
    intro b ha hb A B
    cases b with
    | nil => rw [rowK_nil, rowK_nil, two_cmp (by omega) (by omega)]; simp [cmpU]
    | cons y b =>
      have := hb y (List.mem_cons_self ..)
      rw [rowK_nil, rowK_cons, two_cmp (by omega) (by omega), if_pos (by omega)]
      simp [cmpU]
  | cons x a ih =>
    intro b ha hb A B
    have hx := ha x (List.mem_cons_self ..)
    cases b with
    | nil =>
      rw [rowK_nil, rowK_cons, two_cmp (by omega) (by omega), if_neg (by omega), if_pos (by omega)]
      simp [cmpU]
    | cons y b =>
      have hy := hb y (List.mem_cons_self ..)
      have := ih (b := b) (fun n hn => ha n (List.mem_cons_of_mem _ hn)) (fun n hn => hb n (List.mem_cons_of_mem _ hn)) A B
      rw [rowK_cons, rowK_cons, two_cmp (by omega) (by omega), this]
      simp only [cmpU]
      by_cases h1 : x < y
      · simp [h1]
      · by_cases h2 : y < x
        · simp [h1, h2]
        · simp only [if_neg h1, if_neg h2]
theorem lev_row {sh back : Bool} {k : Nat} {es : List El} (h : ∀ e ∈ es, WtOk e) : Row16 (lev sh back k es) := lev_ok h
theorem levs_cmp {sh back : Bool} {a b : List El} (ha : ∀ e ∈ a, WtOk e) (hb : ∀ e ∈ b, WtOk e) : ∀ ks : List Nat, cmpL (levs sh back a ks) (levs sh back b ks) = cmpLv sh back a b ks := by
  intro ks
  induction ks with
  | nil => simp [levs, cmpL, cmpLv]
  | cons k ks ih =>
    rw [levs_cons, levs_cons, rowK_cmp (lev_row ha) (lev_row hb), ih]
    simp only [cmpLv]
theorem levs_pre {sh back : Bool} {a b : List El} (ha : ∀ e ∈ a, WtOk e) (hb : ∀ e ∈ b, WtOk e) (r : List UInt8) : ∀ ks : List Nat, levs sh back a ks = levs sh back b ks ++ r → r = [] := by
  intro ks
  induction ks with
  | nil => intro h; simpa [levs] using h.symm
  | cons k ks ih =>
    intro h
    rw [levs_cons, levs_cons, List.append_assoc] at h
    have h1 := rowK_cmp (lev_row (sh := sh) (back := back) (k := k) ha) (lev_row (sh := sh) (back := back) (k := k) hb) (levs sh back a ks) (levs sh back b ks ++ r)
    rw [h, cmpL_same] at h1
    split at h1
    · exact ih (cmpL_eq.1 h1.symm)
    · rename_i h2; exact absurd h1.symm h2
theorem key_cmp {s : Nat} {sh back : Bool} {a b : List El} (ha : ∀ e ∈ a, WtOk e) (hb : ∀ e ∈ b, WtOk e) : cmpL (keyLv s sh back a) (keyLv s sh back b) = cmpLv sh back a b (List.range s) := levs_cmp ha hb _
theorem key_pre {s : Nat} {sh back : Bool} {a b : List El} (ha : ∀ e ∈ a, WtOk e) (hb : ∀ e ∈ b, WtOk e) : ¬ ((bs (keyLv s sh back b)).size < (bs (keyLv s sh back a)).size ∧ (bs (keyLv s sh back a)).extract 0 (bs (keyLv s sh back b)).size = bs (keyLv s sh back b)) := by
  rintro ⟨h1, h2⟩
  have h3 := congrArg (fun x : ByteArray => x.data.toList) h2
  simp only [extract_list, bs_data] at h3
  rw [bs_size, bs_size] at h1
  rw [bs_size] at h3
  simp only [List.drop_zero, Nat.sub_zero] at h3
  have h4 := List.take_append_drop (keyLv s sh back b).length (keyLv s sh back a)
  rw [h3] at h4
  have h5 := levs_pre ha hb _ _ h4.symm
  have h6 := congrArg List.length h5
  rw [List.length_drop] at h6
  simp at h6
  omega
theorem key_even : ∀ (n : Nat) (sh back : Bool) (es : List El), (keyLv n sh back es).length % 2 = 0 ∧ 2 * n ≤ (keyLv n sh back es).length := by
  intro n
  induction n with
  | zero => intro sh back es; simp [keyLv, levs]
  | succ n ih =>
    intro sh back es
    have h1 := ih sh back es
    have h2 := rowK_len (lev sh back n es)
    rw [keyLv_succ, List.length_append]
    omega
theorem sign_any (a b : ByteArray) (w : World) : Calls Tryz.prog 14 #[.string a, .string b] w fun e w' => e = .returned (.int .i64 (cmpL a.data.toList b.data.toList)) ∧ w = w' := by
  have h1 : Op.bytesLess a.toList b.toList = decide (cmpL a.data.toList b.data.toList = -1) := by rw [ByteArray.toList_eq, ByteArray.toList_eq, less_cmp]
  have h2 : (a.toList == b.toList) = decide (cmpL a.data.toList b.data.toList = 0) := by
    rw [ByteArray.toList_eq, ByteArray.toList_eq, Bool.eq_iff_iff]
    simp [cmpL_eq]
  rcases cmpL_three a.data.toList b.data.toList with h | h | h
  · rw [h] at h1 h2 ⊢
    go_enter Tryz.func14, Tryz.ntmps14
    go_wp2_with fail
    go_ret
    exact ⟨rfl, rfl⟩
  · rw [h] at h1 h2 ⊢
    go_enter Tryz.func14, Tryz.ntmps14
    go_wp2_with fail
    go_ret
    exact ⟨rfl, rfl⟩
  · rw [h] at h1 h2 ⊢
    go_enter Tryz.func14, Tryz.ntmps14
    go_wp2_with fail
    go_ret
    exact ⟨rfl, rfl⟩
theorem begins_any (a b : ByteArray) (w : World) (h : ¬ (b.size < a.size ∧ a.extract 0 b.size = b)) : Calls Tryz.prog 15 #[.string a, .string b] w fun e w' => e = .returned (.bool false) ∧ w = w' := by
  by_cases h1 : b.size < a.size
  · have h2 : ((a.extract 0 b.size).toList == b.toList) = false := by
      rw [ByteArray.toList_eq, ByteArray.toList_eq, beq_eq_false_iff_ne]
      intro e
      exact h ⟨h1, data_inj e⟩
    have h3 : decide ((b.size : Int) < (a.size : Int)) = true := by simp; omega
    go_enter Tryz.func15, Tryz.ntmps15
    go_wp2_with fail
    go_ret
    exact ⟨rfl, rfl⟩
  · have h3 : decide ((b.size : Int) < (a.size : Int)) = false := by simp; omega
    go_enter Tryz.func15, Tryz.ntmps15
    go_wp2_with fail
    go_ret
    exact ⟨rfl, rfl⟩
theorem load_globU (s : ByteArray) (w : World) (hg : Glob w) (hbig : s.size ≤ 281474976710656) : Calls Tryz.prog 17 #[.string s] w fun e w' => LoadUp (loadR s.data.toList) w e w' := by
  obtain ⟨m, hm⟩ := hg
  exact load_up s m w hm hbig
structure TbUp (w : World) (B b bd T : Nat) (L : List Mk) (F : Int → List Int) (E : List Ent) : Prop where
  tb : TbAt w b bd T L F E
  up : DataUp w B bd L F
theorem TbUp.below {w w' : World} {B b bd T : Nat} {L : List Mk} {F : Int → List Int} {E : List Ent} (h : TbUp w B b bd T L F E) (hb : Below w.heap.size w w') : TbUp w' B b bd T L F E := ⟨h.tb.below hb, h.up.below hb⟩
def LoadWUp (m e : List UInt8) (w : World) (r : Ending) (w' : World) : Prop :=
  Below w.heap.size w w' ∧ ((∃ why which line, loadW m e = .error (why, which, line) ∧ why ≠ 0 ∧ r = .returned (.tuple #[.pointer none, .int .i64 why, .int .i64 which, .int .i64 line])) ∨
    (∃ L F E b bd T, loadW m e = .ok ((L, F), E) ∧ loadR m = .ok (L, F) ∧ r = .returned (.tuple #[.pointer (some ⟨b, 0, none⟩), .int .i64 0, .int .i64 0, .int .i64 0]) ∧ TbUp w' w.heap.size b bd T L F E))
set_option maxHeartbeats 2000000 in
theorem loadW_up (m e : ByteArray) (hm : m.size ≤ 281474976710656) (he : e.size ≤ 281474976710656) (w : World) (hg : Glob w) : Calls Tryz.prog 9 #[.string m, .string e] w fun r w' => LoadWUp m.data.toList e.data.toList w r w' := by
  have hl1 := load_globU m w hg hm
  go_enter Tryz.func9, Tryz.ntmps9
  go_wp2_with fail
  refine hl1.mono ?_
  rintro r w1 ⟨hb1, hp1⟩
  have hl2 := loadT_glob e w1 (hg.below hb1) he
  clear hl1
  cases h1 : loadR m.data.toList with
  | error q =>
    obtain ⟨why, line⟩ := q
    rw [h1] at hp1
    obtain rfl : r = _ := hp1
    have hy0 := load_why h1
    have hy1 : (why == 0) = false := by simpa using hy0
    have hy2 : (why != 0) = true := by simpa using hy0
    clear hl2
    go_wp2_with fail
    refine bodyPost_ret (results9_run rfl rfl rfl rfl) rfl ?_
    exact ⟨hb1, .inl ⟨why, 1, line, by unfold loadW; rw [h1], hy0, rfl⟩⟩
  | ok q =>
    obtain ⟨L, F⟩ := q
    rw [h1] at hp1
    obtain ⟨bd, rfl, hd⟩ := hp1
    go_wp2_with fail
    refine hl2.mono ?_
    rintro r w2 ⟨hb2, hp2⟩
    have hb02 := hb1.trans (hb2.mono hb1.size)
    cases h2 : loadT e.data.toList with
    | error q2 =>
      obtain ⟨why2, line2⟩ := q2
      rw [h2] at hp2
      obtain rfl : r = _ := hp2
      have hy0 := loadT_why h2
      have hy1 : (why2 == 0) = false := by simpa using hy0
      have hy2 : (why2 != 0) = true := by simpa using hy0
      go_wp2_with fail
      refine bodyPost_ret (results9_run rfl rfl rfl rfl) rfl ?_
      exact ⟨hb02, .inl ⟨why2, 2, line2, by unfold loadW; rw [h1]; simp only [h2], hy0, rfl⟩⟩
    | ok E =>
      rw [h2] at hp2
      obtain ⟨T, me, ml, val, rfl, ht⟩ := hp2
      have hb3 := (Below.refl w2.heap.size w2).alloc (Nat.le_refl _) (.cells #[.pointer (some ⟨bd, 0, none⟩), .pointer (some ⟨T, 0, none⟩)] 59)
      have hn3 := Blk.new w2 59 #[.pointer (some ⟨bd, 0, none⟩), .pointer (some ⟨T, 0, none⟩)]
      go_wp2_with fail
      refine bodyPost_ret (results9_run rfl rfl rfl rfl) rfl ?_
      exact ⟨hb02.trans (hb3.mono hb02.size), .inr ⟨L, F, E, w2.heap.size, bd, T, by unfold loadW; rw [h1]; simp only [h2], h1, rfl, ⟨hn3, ((hd.below hb2).below hb3).at, ⟨me, ml, val, ht.below hb3⟩, ⟨_, h1⟩⟩, (hd.below hb2).below hb3⟩⟩
structure WelF (b bd T : Nat) (L : List Mk) (F : Int → List Int) (E : List Ent) (s : Int) (sh back : Bool) (txt : ByteArray) (es : List El) (er : Int) : Prop where
  why : er = 0 ∨ er = 1 ∨ er = 2 ∨ er = 30
  rg : er = 0 → 1 ≤ s ∧ s ≤ 4
  ok : ∀ e ∈ es, WtOk e
  few : es.length ≤ 60000000
  call : ∀ (w : World), TbAt w b bd T L F E → Tabs w → ∀ W, Below w.heap.size w W → Calls Tryz.prog 25 #[.pointer (some ⟨b, 0, none⟩), colA s sh back, .string txt] W fun e w' => ElPost es er W e w'
theorem welF_any {w : World} {b bd T : Nat} {L : List Mk} {F : Int → List Int} {E : List Ent} (h : TbAt w b bd T L F E) (s : Int) (hs : InI s) (sh back : Bool) (txt : ByteArray) : ∃ es er, WelF b bd T L F E s sh back txt es er := by
  cases hr : rightC s sh with
  | true =>
    obtain ⟨es, er, hx⟩ := wel_any h txt
    refine ⟨es, er, ?_, fun _ => right_in hr, hx.ok, hx.few, fun w hw ht W hW => hx.call w hw ht s sh back hr W hW⟩
    rcases hx.why with h | h | h
    · exact .inl h
    · exact .inr (.inr (.inl h))
    · exact .inr (.inr (.inr h))
  | false =>
    obtain ⟨ps, rest, hsp, hps, hrest⟩ := split_bytes txt.data.toList
    obtain ⟨m, hm⟩ := h.load
    obtain ⟨X, hX, hXl, _⟩ := form_exists (fun x => (load_cls hm x).1) (flatR F (ps.map fun p : Nat => (p : Int)))
    have hfl := (flat_len h.data (ps.map fun p : Nat => (p : Int))).1
    rw [List.length_map] at hfl
    refine ⟨[], 1, .inr (.inl rfl), fun h => absurd h (by decide), by simp, by simp, fun w hw ht W hW => ?_⟩
    have hc := welements_any (hw.below hW) (ht.own hW) s hs sh back txt ps rest hsp hps hrest hX (by omega)
    have he : elErr s sh txt.size rest = 1 := by unfold elErr; rw [hr]; rfl
    rw [he] at hc
    refine hc.mono ?_
    rintro e w' ⟨hb, ⟨h0, _⟩ | ⟨_, he⟩⟩
    · exact absurd h0 (by decide)
    · exact ⟨hb, .inr ⟨by decide, he⟩⟩
def keyG (s : Int) (sh back : Bool) (es : List El) (er : Int) : ByteArray := if er = 0 then bs (keyLv s.toNat sh back es) else ⟨#[]⟩
def cmpG (s : Int) (sh back : Bool) (xs ys : List El) (ex ey : Int) : Int := if ex = 0 ∧ ey = 0 then cmpLv sh back xs ys (List.range s.toNat) else 0
def errG (ex ey : Int) : Int := if ex = 0 then ey else ex
section
variable {b bd T : Nat} {L : List Mk} {F : Int → List Int} {E : List Ent} {s : Int} {sh back : Bool} {ta tb : ByteArray} {xs ys : List El} {ex ey : Int} {w : World}
theorem key_g (h : WelF b bd T L F E s sh back ta xs ex) (ht : TbAt w b bd T L F E) (htb : Tabs w) : Calls Tryz.prog 12 #[.pointer (some ⟨b, 0, none⟩), colA s sh back, .string ta] w fun e w' => e = .returned (.tuple #[.string (keyG s sh back xs ex), .int .i64 ex]) ∧ Below w.heap.size w w' := by
  refine (key_any h.ok h.few h.rg (h.call w ht htb)).mono ?_
  rintro e w' ⟨hb, ⟨rfl, rfl⟩ | ⟨h0, rfl⟩⟩
  · exact ⟨by simp [keyG], hb⟩
  · exact ⟨by simp [keyG, h0], hb⟩
theorem cmp_g (h : WelF b bd T L F E s sh back ta xs ex) (h' : WelF b bd T L F E s sh back tb ys ey) (ht : TbAt w b bd T L F E) (htb : Tabs w) : Calls Tryz.prog 13 #[.pointer (some ⟨b, 0, none⟩), colA s sh back, .string ta, .string tb] w fun e w' => e = .returned (.tuple #[.int .i64 (cmpG s sh back xs ys ex ey), .int .i64 (errG ex ey)]) ∧ Below w.heap.size w w' := by
  refine (wcompare_any h.ok h'.ok h.few h'.few h.rg (h.call w ht htb) (h'.call w ht htb)).mono ?_
  rintro e w' ⟨hb, ⟨rfl, rfl, rfl⟩ | ⟨h0, rfl⟩ | ⟨rfl, h0, rfl⟩⟩
  · exact ⟨by simp [cmpG, errG], hb⟩
  · exact ⟨by simp [cmpG, errG, h0], hb⟩
  · exact ⟨by simp [cmpG, errG, h0], hb⟩
end
end Go.Proofs.YtfhpgmlfgjfknaaGreatDoor
