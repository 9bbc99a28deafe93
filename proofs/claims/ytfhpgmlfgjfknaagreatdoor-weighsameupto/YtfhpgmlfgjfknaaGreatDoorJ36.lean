/- Contracts and lemmas (nothing is claimed here). -/
import Derived.Test.YtfhpgmlfgjfknaaGreatDoorJ35
import Derived.BigRegion
import Derived.Test.YtfhpgmlfgjfknaaGreatDoorJ25
namespace Go.Proofs.YtfhpgmlfgjfknaaGreatDoor
open Go.RowKit Go.Vf Go.Maps
def AnyB (e : Ending) : Prop := ∃ b, e = .returned (.bool b)
def Tb8 (w : World) (th : Bool) (dv _tv : Value) : Prop := th = false ∨ ∃ (t : List UInt8) (L : List Mk) (F : Int → List Int) (a : Option Addr) (n c : Nat), loadR t = .ok (L, F) ∧ (∀ q, (partsR' F q).length ≤ 57) ∧ dv = .slice a n c ∧ MIn w.heap.size w dv (marksR L)
theorem Tb8.go {w w' : World} {th : Bool} {dv tv : Value} (h : Tb8 w th dv tv) (hb : Below w.heap.size w w') : Tb8 w' th dv tv := by
 rcases h with h | ⟨t, L, F, a, n, c, h1, h2, h3, h4⟩
 ·
  exact .inl h
 ·
  exact .inr ⟨t, L, F, a, n, c, h1, h2, h3, h4.go hb⟩
set_option maxHeartbeats 8000000 in
set_option maxRecDepth 20000 in
theorem light_in (th : Bool) (da : Option Addr) (dn dc : Nat) (ta : Option Addr) (tn tc : Nat) (s : ByteArray) (hs : s.size ≤ 4294967296) (w : World) (ht : Tb8 w th (.slice da dn dc) (.slice ta tn tc)) :
  Calls Tryz.prog 24 #[.agg #[.bool th, .slice da dn dc, .slice ta tn tc], .string s, .int .i64 1000] w fun e w' => AnyB e ∧ Below w.heap.size w w' := by
 obtain ⟨ps, rest, hsp, hps, hrest⟩ := split_bytes s.data.toList
 have hb0 := (Below.refl w.heap.size w).alloc (Nat.le_refl _) (.cells #[.bool th, .slice da dn dc, .slice ta tn tc] 67)
 have hn0 := Blk.new w 67 #[.bool th, .slice da dn dc, .slice ta tn tc]
 have ht0 := ht.go hb0
 go_enter Tryz.func24, Tryz.ntmps24
 go_wp2_with fail
 generalize w.alloc (.cells #[.bool th, .slice da dn dc, .slice ta tn tc] 67) = w0 at hb0 hn0 ht0 ⊢
 refine (refPoints_any s hs ps rest hsp hps hrest w0).mono ?_
 rintro e w1 ⟨hp1, hb1⟩
 have hb01 := hb0.trans (hb1.mono hb0.size)
 have hn1 := hn0.below hb1 hn0.lt
 have HT1 : Aside (Tb8 w1 th (.slice da dn dc) (.slice ta tn tc)) := ht0.go hb1
 have c0 : w1.cell? ⟨w.heap.size, 0, none⟩ = some (.bool th) := hn1.cell 0
 cases th with
 | false =>
  rcases hp1 with ⟨hr0, v, rfl, _⟩ | ⟨hr0, rfl⟩
  ·
   go_wp2_with fail
   go_ret
   exact ⟨⟨_, rfl⟩, hb01⟩
  ·
   go_wp2_with fail
   go_ret
   exact ⟨⟨_, rfl⟩, hb01⟩
 | true =>
  rcases hp1 with ⟨hr0, v, rfl, hown⟩ | ⟨hr0, rfl⟩
  ·
   by_cases hlong : 65536 < s.size
   ·
    have hlz : decide ((65536 : Int) < (s.size : Int)) = true := by simp; omega
    go_wp2_with fail
    go_ret
    exact ⟨⟨_, rfl⟩, hb01⟩
   ·
    have hlz : decide ((65536 : Int) < (s.size : Int)) = false := by simp; omega
    obtain ⟨va, vc, rfl⟩ := hown.val
    have hpl : (ps.map fun p : Nat => (p : Int)).length ≤ 65536 := by
     have h1 := encs_length_ge ps
     have h2 : (encs ps ++ rest).length = s.size := by rw [← hsp, ← Lib.size_eq]
     rw [List.length_append] at h2
     rw [List.length_map]
     omega
    have HIN : Aside (Ints w1.heap.size w1 (.slice va (ps.map fun p : Nat => (p : Int)).length vc) (ps.map fun p : Nat => (p : Int))) := hown.ints
    generalize (ps.map fun p : Nat => (p : Int)) = zs at HIN hpl hown
    obtain ⟨t, L, F, a', n', c', hld, h57, hdv, hmin⟩ := HT1.out.resolve_left (by decide)
    have HLD : Hid (loadR t = .ok (L, F)) := hld
    have H57 : Hid (∀ q, (partsR' F q).length ≤ 57) := h57
    have HMI : Aside (MIn w1.heap.size w1 (.slice da dn dc) (marksR L)) := hmin
    have hlt1 := hn1.lt
    clear hown hsp hps hrest hdv hmin hld h57 HT1
    generalize hzl : zs.length = zl at *
    have HZL : Hid (zs.length = zl) := hzl
    clear hzl
    go_wp2_with fail
    go_loopg [2, 10, 11] zl (fun g1 mv av iv wr => ∃ (mk al i : Nat), mv = .int .i64 mk ∧ av = .int .i64 al ∧ iv = .int .i64 i ∧ mk ≤ 1000 ∧ al ≤ 262144 ∧ i ≤ zl ∧ zl - i ≤ g1 ∧ Aside (Below w1.heap.size w1 wr))
    case atStart => exact ⟨1000, 0, 0, rfl, rfl, rfl, by omega, by omega, by omega, by omega, Below.refl _ _⟩
    case round =>
     obtain ⟨mk, al, i, rfl, rfl, rfl, hmk, hal, hi, hg1, HBW⟩ := hrel
     by_cases hlt : i < zl
     ·
      have hltz : (i : Int) < (zl : Int) := by omega
      have hlen : i < zs.length := by rw [HZL.out]; exact hlt
      obtain ⟨bz, oz, rfl, hcz⟩ := ints_at HIN.out hlen
      have hbz : bz < w1.heap.size := World.block_lt_of_cell? w1 _ hcz
      generalize zs[i] = q at hcz
      obtain ⟨wo, hwo⟩ : ∃ wo, wo = wr := ⟨_, rfl⟩
      subst hwo
      have y0 := (HBW.out.cell (p := ⟨bz, oz + i, none⟩) hbz).trans hcz
      have y1 : wo.cell? ⟨w.heap.size, 1, none⟩ = some (.slice da dn dc) := (HBW.out.cell (p := ⟨w.heap.size, 1, none⟩) hlt1).trans (hn1.cell 1)
      have HPC : Hid (∀ X, Below wo.heap.size wo X → Calls Tryz.prog 55 #[.agg #[.slice da dn dc], .int .i64 q] X fun e w' => ∃ a n c, e = .returned (.slice a n c) ∧ (n ≤ 57 ∧ ∃ pp, Ints w'.heap.size w' (.slice a n c) pp ∧ pp.length = n) ∧ Below wo.heap.size wo w') := fun X hX => by
       refine (rparts_load HLD.out q (H57.out q) (HMI.out.go (HBW.out.trans (hX.mono HBW.out.size)))).mono ?_
       rintro e w' ⟨a, n, c, rfl, h1, h2⟩
       obtain ⟨_, _, e1⟩ := h1.val
       obtain rfl : n = _ := (Value.slice.inj e1).2.1
       exact ⟨a, _, c, rfl, ⟨H57.out q, _, h1.ints, rfl⟩, hX.trans (h2.mono hX.size)⟩
      have hbd : Below wo.heap.size wo wo.drew := (Below.refl _ wo).drew
      clear hcz hbz
      go_upto_region 8 with fail
      go_cut [12] from 32 to 70 (fun v wx => ∃ a n c, v = .slice a n c ∧ (n ≤ 57 ∧ ∃ pp, Aside (Ints wx.heap.size wx (.slice a n c) pp) ∧ Hid (pp.length = n)) ∧ Aside (Below wo.heap.size wo wx))
      case first =>
       go_region_with (first | (go_at_call 55; with_reducible refine (HPC.out _ (by assumption)).mono ?_; rintro e w3 ⟨a3, n3, c3, rfl, ⟨hn3, pp, hi3, hl3⟩, hb3⟩))
       all_goals
        go_wp2_with fail
        go_meet
        exact ⟨a3, n3, c3, rfl, ⟨hn3, pp, hi3, hl3⟩, hb3⟩
      case rest =>
       obtain ⟨a3, n3, c3, rfl, ⟨hn3, pp, HI3, HL3⟩, HB3⟩ := hcut
       have hb1o := HBW.out.trans (HB3.out.mono HBW.out.size)
       clear HPC y0 y1 hbd
       go_wp2_with fail
       go_loopg [2, 13] n3 (fun g2 mv kv wr => ∃ (m k : Nat), mv = .int .i64 ((mk : Int) - (m : Int)) ∧ kv = .int .i64 k ∧ m ≤ k ∧ k ≤ n3 ∧ n3 - k ≤ g2 ∧ Aside (Below wc.heap.size wc wr))
       case atStart => exact ⟨0, 0, by simp, rfl, by omega, by omega, by omega, Below.refl _ _⟩
       case round =>
        obtain ⟨m, k, rfl, rfl, hmk2, hk, hg2, HBX⟩ := hrel
        by_cases hkl : k < n3
        ·
         have hklz : (k : Int) < (n3 : Int) := by omega
         obtain ⟨bp, op, rfl, hcp⟩ := ints_at HI3.out (show k < pp.length by rw [HL3.out]; exact hkl)
         have hbp : bp < wc.heap.size := World.block_lt_of_cell? wc _ hcp
         generalize pp[k]'(by rw [HL3.out]; exact hkl) = u at hcp
         have z0 := (HBX.out.cell (p := ⟨bp, op + k, none⟩) hbp).trans hcp
         have hb1w := hb1o.trans (HBX.out.mono hb1o.size)
         have z1 : wr.cell? ⟨w.heap.size, 1, none⟩ = some (.slice da dn dc) := (hb1w.cell (p := ⟨w.heap.size, 1, none⟩) hlt1).trans (hn1.cell 1)
         have HCC : Hid (∀ X, Below wr.heap.size wr X → Calls Tryz.prog 56 #[.agg #[.slice da dn dc], .int .i64 u] X fun e w' => ∃ cl : Int, e = .returned (.int .i64 cl) ∧ Below wr.heap.size wr w') := fun X hX => by
          refine (rclass_load HLD.out u (HMI.out.go (hb1w.trans (hX.mono hb1w.size)))).mono ?_
          rintro e w' ⟨rfl, h2⟩
          exact ⟨_, rfl, hX.trans (h2.mono hX.size)⟩
         have hbd : Below wr.heap.size wr wr.drew := (Below.refl _ wr).drew
         clear hcp hbp
         go_upto_region 13 with fail
         go_cut [62] from 49 to 64 (fun v wx => ∃ b, v = .bool b ∧ Aside (Below wr.heap.size wr wx))
         case first =>
          go_region_with (first | (go_at_call 56; with_reducible refine (HCC.out _ (by assumption)).mono ?_; rintro e w4 ⟨cl, rfl, hb4⟩))
          all_goals
           go_wp2_with fail
           go_meet
           exact ⟨_, rfl, by assumption⟩
         case rest =>
          obtain ⟨b, rfl, HB4⟩ := hcut
          have HBY : Aside (Below _ _ _) := HBX.out.trans (HB4.out.mono HBX.out.size)
          cases b with
          | true =>
           go_wp2
           go_roundg (n3 - (k + 1))
           case measure => omega
           case rel => exact ⟨m + 1, k + 1, by first | rfl | (congr 1; omega) | go_num, by first | rfl | go_num, by omega, by omega, Nat.le_refl _, HBY⟩
          | false =>
           go_wp2
           go_roundg (n3 - (k + 1))
           case measure => omega
           case rel => exact ⟨m, k + 1, by first | rfl | go_num, by first | rfl | go_num, by omega, by omega, Nat.le_refl _, HBY⟩
        ·
         have hklz : ¬ (k : Int) < (n3 : Int) := by omega
         have HBF : Aside (Below _ _ _) := hb1o.trans (HBX.out.mono hb1o.size)
         by_cases hneg : (mk : Int) - (m : Int) < 0
         ·
          have d1 : decide ((mk : Int) - (m : Int) < 0) = true := by simpa using hneg
          go_wp2_with fail
          go_ret
          exact ⟨⟨_, rfl⟩, hb01.trans (HBF.out.mono hb01.size)⟩
         ·
          have d1 : decide ((mk : Int) - (m : Int) < 0) = false := by simpa using hneg
          by_cases hmany : (262144 : Int) < (al : Int) + (n3 : Int)
          ·
           have d2 : decide ((262144 : Int) < (al : Int) + (n3 : Int)) = true := by simpa using hmany
           go_wp2_with fail
           go_ret
           exact ⟨⟨_, rfl⟩, hb01.trans (HBF.out.mono hb01.size)⟩
          ·
           have d2 : decide ((262144 : Int) < (al : Int) + (n3 : Int)) = false := by simpa using hmany
           go_wp2
           go_roundg (zl - (i + 1))
           case measure => omega
           case rel => exact ⟨mk - m, al + n3, i + 1, by first | rfl | (congr 1; omega), by first | rfl | (congr 1; omega), by first | rfl | go_num, by omega, by omega, by omega, by omega, HBF⟩
     ·
      have hltz : ¬ (i : Int) < (zl : Int) := by omega
      go_wp2_with fail
      go_ret
      exact ⟨⟨_, rfl⟩, hb01.trans (HBW.out.mono hb01.size)⟩
  ·
   go_wp2_with fail
   go_ret
   exact ⟨⟨_, rfl⟩, hb01⟩
set_option maxHeartbeats 4000000 in
set_option maxRecDepth 20000 in
theorem wlight_any (m e s : ByteArray) (hm : m.size ≤ 281474976710656) (he : e.size ≤ 281474976710656) (hs : s.size ≤ 4294967296) (h57 : ∀ L F, loadR m.data.toList = .ok (L, F) → ∀ q, (partsR' F q).length ≤ 57) (w : World) :
    Calls Tryz.prog 11 #[.agg #[.string m, .string e], .string s] w fun e w' => AnyB e ∧ Below w.heap.size w w' := by
  have hb0 := (Below.refl w.heap.size w).alloc (Nat.le_refl _) (.cells #[.string m, .string e] 23)
  have hn0 := Blk.new w 23 #[.string m, .string e]
  have c0 : (w.alloc (.cells #[.string m, .string e] 23)).cell? ⟨w.heap.size, 0, none⟩ = some (.string m) := hn0.cell 0
  have c1 : (w.alloc (.cells #[.string m, .string e] 23)).cell? ⟨w.heap.size, 1, none⟩ = some (.string e) := hn0.cell 1
  go_enter Tryz.func11, Tryz.ntmps11
  go_wp2_with fail
  generalize w.alloc (.cells #[.string m, .string e] 23) = w0 at hb0 hn0 c0 c1 ⊢
  refine (load8_any m e hm he w0).mono ?_
  rintro r w1 ⟨hb1, ⟨why, which, line, hl, rfl⟩ | ⟨L, F, E, l, da, dn, dc, ta, tn, tc, hl, hR, hri, hpe, rfl, hD, hN⟩⟩
  · clear c0 c1
    have hb2 := hb1.alloc hb1.size (.cells #[.bool false, .slice none 0 0, .slice none 0 0] 67)
    have hn2 := Blk.new w1 67 #[.bool false, .slice none 0 0, .slice none 0 0]
    have hb02 := hb0.trans (hb2.mono hb0.size)
    go_upto_region 2 with fail
    generalize w1.alloc (.cells #[.bool false, .slice none 0 0, .slice none 0 0] 67) = w2 at hb2 hn2 hb02 ⊢
    generalize w1.heap.size = DB at hn2 ⊢
    have c0 : w2.cell? ⟨DB, 0, none⟩ = some (.bool false) := hn2.cell 0
    have c1 : w2.cell? ⟨DB, 1, none⟩ = some (.slice none 0 0) := hn2.cell 1
    have c2 : w2.cell? ⟨DB, 2, none⟩ = some (.slice none 0 0) := hn2.cell 2
    go_wp2_with fail
    refine (light_in false none 0 0 none 0 0 s hs w2 (.inl rfl)).mono ?_
    rintro _ w3 ⟨⟨b, rfl⟩, hb3⟩
    go_wp2_with fail
    go_ret
    exact ⟨⟨_, rfl⟩, hb02.trans (hb3.mono hb02.size)⟩
  · clear c0 c1
    have hb2' := (Below.refl w1.heap.size w1).alloc (Nat.le_refl _) (.cells #[.bool true, .slice da dn dc, .slice ta tn tc] 67)
    have hb2 := hb1.alloc hb1.size (.cells #[.bool true, .slice da dn dc, .slice ta tn tc] 67)
    have hn2 := Blk.new w1 67 #[.bool true, .slice da dn dc, .slice ta tn tc]
    have hb02 := hb0.trans (hb2.mono hb0.size)
    have HD : Aside (MIn (w1.alloc (.cells #[.bool true, .slice da dn dc, .slice ta tn tc] 67)).heap.size (w1.alloc (.cells #[.bool true, .slice da dn dc, .slice ta tn tc] 67)) (.slice da dn dc) (marksR L)) := hD.go hb2'
    clear hD hN hl
    go_upto_region 2 with fail
    generalize w1.alloc (.cells #[.bool true, .slice da dn dc, .slice ta tn tc] 67) = w2 at hb2 hn2 hb02 HD ⊢
    generalize w1.heap.size = DB at hn2 ⊢
    have c0 : w2.cell? ⟨DB, 0, none⟩ = some (.bool true) := hn2.cell 0
    have c1 : w2.cell? ⟨DB, 1, none⟩ = some (.slice da dn dc) := hn2.cell 1
    have c2 : w2.cell? ⟨DB, 2, none⟩ = some (.slice ta tn tc) := hn2.cell 2
    go_wp2_with fail
    refine (light_in true da dn dc ta tn tc s hs w2 (.inr ⟨_, L, F, da, dn, dc, hR, h57 L F hR, rfl, HD.out⟩)).mono ?_
    rintro _ w3 ⟨⟨b, rfl⟩, hb3⟩
    go_wp2_with fail
    go_ret
    exact ⟨⟨_, rfl⟩, hb02.trans (hb3.mono hb02.size)⟩
theorem right_in {s : Int} {sh : Bool} (h : rightC s sh = true) : 1 ≤ s ∧ s ≤ 4 := by
  unfold rightC at h
  simp only [Bool.and_eq_true, decide_eq_true_eq] at h
  obtain ⟨h1, h2⟩ := h
  split at h2 <;> omega
end Go.Proofs.YtfhpgmlfgjfknaaGreatDoor
