/- What the document's field does (a contract; nothing is claimed here). -/
import Derived.Test.YtcbjnifoojjipaaGreatDoorJ30
namespace Go.Proofs.YtcbjnifoojjipaaGreatDoor
open Go.RowKit Go.Vf
def FieldPost (r : Option Go.Vf.Own) (w : World) (e : Ending) (w' : World) : Prop :=
 Below w.heap.size w w' ∧ match r with
 | some o => e = .returned (.tuple #[fV o none 0 0, .bool true])
 | none => ∃ o, e = .returned (.tuple #[fV o none 0 0, .bool false])
theorem fpost_no {G : Option Go.Vf.Own} (h : G = none) {w wF : World} (hb : Below w.heap.size w wF) {o : Go.Vf.Own} : FieldPost G w (.returned (.tuple #[fV o none 0 0, .bool false])) wF := by
 subst h
 exact ⟨hb, o, rfl⟩
theorem fpost_yes {G : Option Go.Vf.Own} {o : Go.Vf.Own} (h : G = some o) {w wF : World} (hb : Below w.heap.size w wF) : FieldPost G w (.returned (.tuple #[fV o none 0 0, .bool true])) wF := by
 subst h
 exact ⟨hb, rfl⟩
theorem below_drew {n : Nat} {w W : World} (h : Below n w W) : Below n w W.drew := ⟨h.os, h.tape, h.output, h.size, h.block⟩
theorem skip_yes {l : List ByteArray} {y : ByteArray} (h : (skipL l y).1 = true) : (skipL l y).2 = l.drop 1 ∧ 0 < l.length := by
 cases l with
 | nil => cases h
 | cons x r =>
  rw [skipL] at h ⊢
  split at h
  ·
   rename_i hx
   rw [if_pos hx]
   exact ⟨rfl, by simp⟩
  ·
   cases h
theorem wdrop_at {l : List ByteArray} {i : Nat} {x : ByteArray} {r : List ByteArray} (h : l.drop i = x :: r) : ∃ hi : i < l.length, l[i] = x ∧ l.drop (i + 1) = r := by
 have hi : i < l.length := by
  apply Classical.byContradiction
  intro hn
  rw [List.drop_of_length_le (by omega)] at h
  cases h
 rw [List.drop_eq_getElem_cons hi, List.cons.injEq] at h
 exact ⟨hi, h.1, h.2⟩
theorem res73 {tmps : Array Value} {w : World} {T : Nat} {v0 v1 v2 v3 v4 v5 v6 v7 v8 v9 v10 v11 v12 v13 b : Value} (hT : Blk w T 48 #[v0, v1, v2, v3, v4, v5, v6, v7, v8, v9, v10, v11, v12, v13]) (t2 : tmps[2]?.getD undef = .pointer (some ⟨T, 0, none⟩)) (t3 : tmps[3]?.getD undef = b) : (results Tryz.f73 tmps).run Tryz.prog w = .ok (.tuple #[.agg #[v0, v1, v2, v3, v4, v5, v6, v7, v8, v9, v10, v11, v12, v13], b]) w := by
 obtain ⟨d0, d1, d2, d3, d4, d5, d6, d7, d8, d9, d10, d11, d12, d13⟩ := Blk.c14 hT
 simp [results, Tryz.results73, go_sem, t2, t3, d0, d1, d2, d3, d4, d5, d6, d7, d8, d9, d10, d11, d12, d13]
theorem bnd_short {l : List ByteArray} (h : l.length < 4) (hq : (skipL l ⟨#[102, 114, 111, 109]⟩).1 = true) {o : Go.Vf.Own} : readBoundsL l o = none := by
 have e := (skip_yes hq).1
 unfold readBoundsL
 rw [if_pos hq, e]
 have hm : (l.drop 1).length < 3 := by have := (skip_yes hq).2; rw [List.length_drop]; omega
 generalize l.drop 1 = m at hm
 match m, hm with
 | [], _ => rfl
 | [x], _ =>
  rw [numW]
  cases parseR x.data.toList <;> rfl
 | [x, y], _ =>
  rw [numW]
  cases parseR x.data.toList with
  | error _ => rfl
  | ok z =>
   dsimp only
   cases hy : (y.toList == (⟨#[116, 111]⟩ : ByteArray).toList) with
   | true => rw [show skipL [y] ⟨#[116, 111]⟩ = (true, []) by rw [skipL, if_pos hy]]; rfl
   | false => rw [show skipL [y] ⟨#[116, 111]⟩ = (false, [y]) by rw [skipL, if_neg (by rw [hy]; decide)]]; rfl
 | _ :: _ :: _ :: _, h => simp at h; omega
theorem parse_form (l : List UInt8) : ∃ b m k, parseE (parseR l) = .returned (.tuple #[.agg #[.bool b, .string (bs m)], .int .i64 k]) ∧ (k = 0 → parseR l = .ok (b, m)) ∧ (k ≠ 0 → ∃ e, parseR l = .error e) := by
 have hne : ∀ e, parseR l = .error e → e ≠ 0 := by
  intro e h
  unfold parseR at h
  split at h
  ·
   split at h
   ·
    cases h
   ·
    cases h; decide
  ·
   cases h; decide
 cases hr : parseR l with
 | ok z => exact ⟨z.1, z.2, 0, rfl, fun _ => rfl, fun h => absurd rfl h⟩
 | error e => exact ⟨false, [], e, rfl, fun h => absurd h (hne e hr), fun _ => ⟨e, rfl⟩⟩
theorem fieldw : (⟨#[102, 105, 101, 108, 100]⟩ : ByteArray).toList = [102, 105, 101, 108, 100] := by rw [ByteArray.toList_eq]
set_option maxHeartbeats 16000000 in
set_option maxRecDepth 20000 in
theorem field_any (ws : List ByteArray) (hok : WsOK ws) (a : Option Addr) (c : Nat) (w : World) (hst : StrAt w a ws) : Calls Tryz.prog 73 #[.slice a ws.length c] w (FieldPost (lineL ws) w) := by
 obtain ⟨G, hG⟩ : ∃ G, lineL ws = G := ⟨_, rfl⟩
 rw [hG]
 have hb1 := (Below.refl w.heap.size w).alloc (Nat.le_refl _) (.cells #[.string ⟨#[]⟩, .int .u8 0, .bool false, .int .u8 0, .bool false, .bool false, .string ⟨#[]⟩, .bool false, .string ⟨#[]⟩, .int .i64 0, .int .i64 0, .bool false, .bool false, .slice none 0 0] 48)
 have hR1 := Blk.new w 48 #[.string ⟨#[]⟩, .int .u8 0, .bool false, .int .u8 0, .bool false, .bool false, .string ⟨#[]⟩, .bool false, .string ⟨#[]⟩, .int .i64 0, .int .i64 0, .bool false, .bool false, .slice none 0 0]
 have hb2 := (Below.refl _ (w.alloc (.cells #[.string ⟨#[]⟩, .int .u8 0, .bool false, .int .u8 0, .bool false, .bool false, .string ⟨#[]⟩, .bool false, .string ⟨#[]⟩, .int .i64 0, .int .i64 0, .bool false, .bool false, .slice none 0 0] 48))).alloc (Nat.le_refl _) (.cells #[.string ⟨#[]⟩, .int .u8 0, .bool false, .int .u8 0, .bool false, .bool false, .string ⟨#[]⟩, .bool false, .string ⟨#[]⟩, .int .i64 0, .int .i64 0, .bool false, .bool false, .slice none 0 0] 48)
 have hF2 := Blk.new (w.alloc (.cells #[.string ⟨#[]⟩, .int .u8 0, .bool false, .int .u8 0, .bool false, .bool false, .string ⟨#[]⟩, .bool false, .string ⟨#[]⟩, .int .i64 0, .int .i64 0, .bool false, .bool false, .slice none 0 0] 48)) 48 #[.string ⟨#[]⟩, .int .u8 0, .bool false, .int .u8 0, .bool false, .bool false, .string ⟨#[]⟩, .bool false, .string ⟨#[]⟩, .int .i64 0, .int .i64 0, .bool false, .bool false, .slice none 0 0]
 have hR2 := hR1.old hb2
 have hbW := hb1.trans (hb2.mono hb1.size)
 have hsz := alloc_size w (.cells #[.string ⟨#[]⟩, .int .u8 0, .bool false, .int .u8 0, .bool false, .bool false, .string ⟨#[]⟩, .bool false, .string ⟨#[]⟩, .int .i64 0, .int .i64 0, .bool false, .bool false, .slice none 0 0] 48)
 rw [hsz] at hF2
 have HG0 : Hid (lineL ws = G) := hG
 have HSZ : Hid ((w.alloc (.cells #[.string ⟨#[]⟩, .int .u8 0, .bool false, .int .u8 0, .bool false, .bool false, .string ⟨#[]⟩, .bool false, .string ⟨#[]⟩, .int .i64 0, .int .i64 0, .bool false, .bool false, .slice none 0 0] 48)).heap.size = w.heap.size + 1) := hsz
 clear hb1 hR1 hb2 hsz hG
 go_enter Tryz.func73, Tryz.ntmps73
 go_upto_region 2 with fail
 try rw [HSZ.out]
 generalize (w.alloc (.cells #[.string ⟨#[]⟩, .int .u8 0, .bool false, .int .u8 0, .bool false, .bool false, .string ⟨#[]⟩, .bool false, .string ⟨#[]⟩, .int .i64 0, .int .i64 0, .bool false, .bool false, .slice none 0 0] 48)).alloc (.cells #[.string ⟨#[]⟩, .int .u8 0, .bool false, .int .u8 0, .bool false, .bool false, .string ⟨#[]⟩, .bool false, .string ⟨#[]⟩, .int .i64 0, .int .i64 0, .bool false, .bool false, .slice none 0 0] 48) = w2 at *
 obtain ⟨Rb, hRb⟩ : ∃ Rb, w.heap.size = Rb := ⟨_, rfl⟩
 obtain ⟨F, hF⟩ : ∃ F, w.heap.size + 1 = F := ⟨_, rfl⟩
 have hRbw : w.heap.size ≤ Rb := by omega
 have hFw : w.heap.size ≤ F := by omega
 have hFR : F ≠ Rb := by omega
 rw [hF] at hF2 ⊢
 rw [hRb] at hR2
 have HRb : Hid (Blk w2 Rb 48 #[.string ⟨#[]⟩, .int .u8 0, .bool false, .int .u8 0, .bool false, .bool false, .string ⟨#[]⟩, .bool false, .string ⟨#[]⟩, .int .i64 0, .int .i64 0, .bool false, .bool false, .slice none 0 0]) := hR2
 have HF : Hid (Blk w2 F 48 #[.string ⟨#[]⟩, .int .u8 0, .bool false, .int .u8 0, .bool false, .bool false, .string ⟨#[]⟩, .bool false, .string ⟨#[]⟩, .int .i64 0, .int .i64 0, .bool false, .bool false, .slice none 0 0]) := hF2
 have HST : Hid (StrAt w a ws) := hst
 clear hR2 hF2 hst HSZ hF
 have hgoal : True := trivial
 rw [hRb]
 by_cases h3 : ws.length < 3
 ·
  have HG : Hid (G = none) := by show _ = _; rw [← HG0.out]; exact lineL_short h3
  have t3 : decide ((ws.length : Int) < 3) = true := decide_eq_true (by omega)
  have t32 : decide (ws.length < 3) = true := decide_eq_true h3
  generalize ws.length = wl at *
  obtain ⟨a0, a1, a2, a3, a4, a5, a6, a7, a8, a9, a10, a11, a12, a13⟩ := Blk.c14 HF.out
  obtain ⟨b0, b1, b2, b3, b4, b5, b6, b7, b8, b9, b10, b11, b12, b13⟩ := Blk.c14 HRb.out
  obtain ⟨fz0, fz1, fz2, fz3, fz4, fz5, fz6, fz7, fz8, fz9, fz10, fz11, fz12, fz13⟩ := Blk.f14 HRb.out
  go_wp2_with fail
  have hrs := res_set HRb.out (.string ⟨#[]⟩) (.int .u8 0) (.bool false) (.int .u8 0) (.bool false) (.bool false) (.string ⟨#[]⟩) (.bool false) (.string ⟨#[]⟩) (.int .i64 0) (.int .i64 0) (.bool false) (.bool false) (.slice none 0 0) rfl
  obtain ⟨hTF, hOF⟩ := hrs
  have hbF := hbW.trans ((hOF.below (Nat.le_of_lt HRb.out.lt)).mono hRbw)
  refine bodyPost_ret (res73 hTF rfl rfl) rfl ?_
  exact fpost_no (o := ⟨(⟨#[]⟩), (0), (false), (0), (false), (false), (⟨#[]⟩), (false), (⟨#[]⟩), (0), (0), (false), (false)⟩) HG.out hbF
 ·
  obtain ⟨x0, nm, kd, r, rfl⟩ : ∃ x0 nm kd r, ws = x0 :: nm :: kd :: r := by
   match ws, h3 with
   | x0 :: nm :: kd :: r, _ => exact ⟨x0, nm, kd, r, rfl⟩
   | [], h => exact absurd (by simp) h
   | [_], h => exact absurd (by simp) h
   | [_, _], h => exact absurd (by simp) h
  have t3 : decide (((x0 :: nm :: kd :: r).length : Int) < 3) = false := decide_eq_false (by omega)
  have t32 : decide ((x0 :: nm :: kd :: r).length < 3) = false := decide_eq_false h3
  obtain ⟨ba, off, ha, _, s0⟩ := (HST.out.old hbW) 0 (by simp)
  obtain ⟨_, _, ha1, _, s1⟩ := (HST.out.old hbW) 1 (by simp)
  obtain ⟨_, _, ha2, _, s2⟩ := (HST.out.old hbW) 2 (by simp)
  rw [ha] at ha1 ha2
  cases ha1
  cases ha2
  subst ha
  simp only [List.getElem_cons_zero, List.getElem_cons_succ] at s0 s1 s2
  rw [Nat.add_zero] at s0
  have hwl3 : 3 ≤ (x0 :: nm :: kd :: r).length := by omega
  have hwlm : (x0 :: nm :: kd :: r).length ≤ 1000000 := hok.1
  obtain ⟨wl, hwl⟩ : ∃ wl, (x0 :: nm :: kd :: r).length = wl := ⟨_, rfl⟩
  have HWL : Hid ((x0 :: nm :: kd :: r).length = wl) := hwl
  rw [hwl] at t3 t32 hwl3 hwlm ⊢
  clear hwl h3
  cases hx : (x0.toList == (⟨#[102, 105, 101, 108, 100]⟩ : ByteArray).toList) with
  | false =>
   have HG : Hid (G = none) := by show _ = _; rw [← HG0.out]; exact lineL_other hx
   have tx : (x0.toList != (⟨#[102, 105, 101, 108, 100]⟩ : ByteArray).toList) = true := by rw [bne, hx]; rfl
   have tx2 : (x0.toList == [102, 105, 101, 108, 100]) = false := by rw [← fieldw]; exact hx
   have tx3 : (x0.toList != [102, 105, 101, 108, 100]) = true := by rw [← fieldw]; exact tx
   clear s1 s2
   obtain ⟨a0, a1, a2, a3, a4, a5, a6, a7, a8, a9, a10, a11, a12, a13⟩ := Blk.c14 HF.out
   obtain ⟨b0, b1, b2, b3, b4, b5, b6, b7, b8, b9, b10, b11, b12, b13⟩ := Blk.c14 HRb.out
   obtain ⟨fz0, fz1, fz2, fz3, fz4, fz5, fz6, fz7, fz8, fz9, fz10, fz11, fz12, fz13⟩ := Blk.f14 HRb.out
   go_wp2_with fail
   have hrs := res_set HRb.out (.string ⟨#[]⟩) (.int .u8 0) (.bool false) (.int .u8 0) (.bool false) (.bool false) (.string ⟨#[]⟩) (.bool false) (.string ⟨#[]⟩) (.int .i64 0) (.int .i64 0) (.bool false) (.bool false) (.slice none 0 0) rfl
   obtain ⟨hTF, hOF⟩ := hrs
   have hbF := hbW.trans ((hOF.below (Nat.le_of_lt HRb.out.lt)).mono hRbw)
   refine bodyPost_ret (res73 hTF rfl rfl) rfl ?_
   exact fpost_no (o := ⟨(⟨#[]⟩), (0), (false), (0), (false), (false), (⟨#[]⟩), (false), (⟨#[]⟩), (0), (0), (false), (false)⟩) HG.out hbF
  | true =>
   have HG1 : Hid (G = match kindL kd with
     | none => none
     | some k => (match readKL k (nullsW (skipL r ⟨#[100, 111, 119, 110]⟩).2).2 { own0 nm with kind := (k : Int), down := (skipL r ⟨#[100, 111, 119, 110]⟩).1, nulls := (nullsW (skipL r ⟨#[100, 111, 119, 110]⟩).2).1 } with
       | some z => if z.1.isEmpty then some z.2 else none
       | none => none)) := by show _ = _; rw [← HG0.out]; exact lineL_rest hx
   have tx : (x0.toList != (⟨#[102, 105, 101, 108, 100]⟩ : ByteArray).toList) = false := by rw [bne, hx]; rfl
   have tx2 : (x0.toList == [102, 105, 101, 108, 100]) = true := by rw [← fieldw]; exact hx
   have tx3 : (x0.toList != [102, 105, 101, 108, 100]) = false := by rw [← fieldw]; exact tx
   have hkd := hok.2 kd (by simp)
   have f0 : w2.cell? ⟨F, 0, none⟩ = some (.string ⟨#[]⟩) := HF.out.cell 0
   have fr0 : w2.frozen? ⟨F, 0, none⟩ = false := Blk.free HF.out 0
   clear HG0 hx
   go_upto_region 5 with fail
   have hb3 := hbW.setCell (p := ⟨F, 0, none⟩) hFw (.string nm)
   have HF3 : Hid (Blk (w2.setCell ⟨F, 0, none⟩ (.string nm)) F 48 #[.string nm, .int .u8 0, .bool false, .int .u8 0, .bool false, .bool false, .string ⟨#[]⟩, .bool false, .string ⟨#[]⟩, .int .i64 0, .int .i64 0, .bool false, .bool false, .slice none 0 0]) := HF.out.set 0 (.string nm)
   have HR3 : Hid (Blk (w2.setCell ⟨F, 0, none⟩ (.string nm)) Rb 48 #[.string ⟨#[]⟩, .int .u8 0, .bool false, .int .u8 0, .bool false, .bool false, .string ⟨#[]⟩, .bool false, .string ⟨#[]⟩, .int .i64 0, .int .i64 0, .bool false, .bool false, .slice none 0 0]) := ((Oth.set F 0 w2 (.string nm)).block Rb HRb.out.lt (by omega)).trans HRb.out
   generalize w2.setCell ⟨F, 0, none⟩ (.string nm) = w3 at *
   clear HF HRb hbW f0 fr0 s0 s1 s2
   have hki := rkinds_any w3
   go_wp2_with fail
   refine hki.mono ?_
   clear hki
   rintro _ w4 ⟨g, rfl, hgd, hb34, hkc⟩
   have hgw : w.heap.size ≤ g := by rw [hgd]; exact hb3.size
   have hgF : g ≠ F := by rw [hgd]; exact Nat.ne_of_gt HF3.out.lt
   have hgR : g ≠ Rb := by rw [hgd]; exact Nat.ne_of_gt HR3.out.lt
   have hb4 := hb3.trans (hb34.mono hb3.size)
   have HF4 : Hid (Blk w4 F 48 #[.string nm, .int .u8 0, .bool false, .int .u8 0, .bool false, .bool false, .string ⟨#[]⟩, .bool false, .string ⟨#[]⟩, .int .i64 0, .int .i64 0, .bool false, .bool false, .slice none 0 0]) := HF3.out.old hb34
   have HR4 : Hid (Blk w4 Rb 48 #[.string ⟨#[]⟩, .int .u8 0, .bool false, .int .u8 0, .bool false, .bool false, .string ⟨#[]⟩, .bool false, .string ⟨#[]⟩, .int .i64 0, .int .i64 0, .bool false, .bool false, .slice none 0 0]) := HR3.out.old hb34
   have HKC : Hid (∀ k : Nat, 1 ≤ k → k ≤ 7 → w4.cell? ⟨g, k, none⟩ = some (.string (bs (wordK k)))) := hkc
   clear hb3 hb34 HF3 HR3 hkc hgd
   go_wp2_with fail
   go_loopw [6] (fun iv wr => ∃ i : Nat, 1 ≤ i ∧ i ≤ 8 ∧ iv = .int .i64 (i : Int) ∧ Hid (Blk wr F 48 #[.string nm, .int .u8 (kzF kd i : Int), .bool false, .int .u8 0, .bool false, .bool false, .string ⟨#[]⟩, .bool false, .string ⟨#[]⟩, .int .i64 0, .int .i64 0, .bool false, .bool false, .slice none 0 0]) ∧ Hid (Blk wr Rb 48 #[.string ⟨#[]⟩, .int .u8 0, .bool false, .int .u8 0, .bool false, .bool false, .string ⟨#[]⟩, .bool false, .string ⟨#[]⟩, .int .i64 0, .int .i64 0, .bool false, .bool false, .slice none 0 0]) ∧ Hid (∀ k : Nat, 1 ≤ k → k ≤ 7 → wr.cell? ⟨g, k, none⟩ = some (.string (bs (wordK k)))) ∧ Below w.heap.size w wr) (fun iv _ => 8 - (intOf iv).toNat)
   case atStart => exact ⟨1, by omega, by omega, rfl, by rw [kzF_one]; exact HF4, HR4, HKC, hb4⟩
   case round =>
    clear HF4 HR4 HKC hb4
    obtain ⟨i, hi1, hi8, rfl, HF, HRb, HKC, hbW⟩ := hrel
    obtain ⟨ba', off', ha2, _, s2⟩ := (HST.out.old hbW) 2 (by simp)
    cases ha2
    simp only [List.getElem_cons_zero, List.getElem_cons_succ] at s2
    by_cases hi : i < 8
    ·
     have ti : decide ((i : Int) < 8) = true := decide_eq_true (by omega)
     have ti2 : decide (i < 8) = true := decide_eq_true hi
     have hk := HKC.out i hi1 (by omega)
     by_cases hm : bs (wordK i) = kd
     ·
      have tm : ((bs (wordK i)).toList == kd.toList) = true := by rw [hm]; exact beq_self_eq_true _
      have hkz := kzF_hit hi1 (by omega) hm
      have f1 : wr.cell? ⟨F, 1, none⟩ = some (.int .u8 (kzF kd i : Int)) := HF.out.cell 1
      have fr1 : wr.frozen? ⟨F, 1, none⟩ = false := Blk.free HF.out 1
      have HF5 : Hid (Blk (wr.setCell ⟨F, 1, none⟩ (.int .u8 (i : Int))) F 48 #[.string nm, .int .u8 (kzF kd (i + 1) : Int), .bool false, .int .u8 0, .bool false, .bool false, .string ⟨#[]⟩, .bool false, .string ⟨#[]⟩, .int .i64 0, .int .i64 0, .bool false, .bool false, .slice none 0 0]) := by show Blk _ _ _ _; rw [hkz]; exact HF.out.set 1 (.int .u8 (i : Int))
      have HR5 : Hid (Blk (wr.setCell ⟨F, 1, none⟩ (.int .u8 (i : Int))) Rb 48 #[.string ⟨#[]⟩, .int .u8 0, .bool false, .int .u8 0, .bool false, .bool false, .string ⟨#[]⟩, .bool false, .string ⟨#[]⟩, .int .i64 0, .int .i64 0, .bool false, .bool false, .slice none 0 0]) := ((Oth.set F 1 wr (.int .u8 (i : Int))).block Rb HRb.out.lt (by omega)).trans HRb.out
      have HK5 : Hid (∀ k : Nat, 1 ≤ k → k ≤ 7 → (wr.setCell ⟨F, 1, none⟩ (.int .u8 (i : Int))).cell? ⟨g, k, none⟩ = some (.string (bs (wordK k)))) := fun k h1 h7 => by
       have h := HKC.out k h1 h7
       have hl := World.block_lt_of_cell? wr _ h
       exact (cell_of_block ((Oth.set F 1 wr (.int .u8 (i : Int))).block g hl hgF) _).trans h
      have hb5 := hbW.setCell (p := ⟨F, 1, none⟩) hFw (.int .u8 (i : Int))
      have ew : IntKind.u8.wrap (i : Int) = (i : Int) := by rw [IntKind.wrap_u8]; omega
      clear hm hkz
      go_wp2_with fail
      go_region
      go_wp2_with fail
      go_roundw
      case rel => exact ⟨i + 1, by omega, by omega, by simp, HF5, HR5, HK5, below_drew hb5⟩
      case measure => simp only [intOf]; omega
     ·
      have tm : ((bs (wordK i)).toList == kd.toList) = false := by
       rw [beq_eq_false_iff_ne]
       intro h
       apply hm
       rw [ByteArray.toList_eq, ByteArray.toList_eq] at h
       have e : ∀ y : ByteArray, y = bs y.data.toList := fun y => by cases y; simp [bs]
       rw [e (bs (wordK i)), e kd, h]
      have hkz := kzF_miss hi1 (by omega) hm
      have HF5 : Hid (Blk wr F 48 #[.string nm, .int .u8 (kzF kd (i + 1) : Int), .bool false, .int .u8 0, .bool false, .bool false, .string ⟨#[]⟩, .bool false, .string ⟨#[]⟩, .int .i64 0, .int .i64 0, .bool false, .bool false, .slice none 0 0]) := by show Blk _ _ _ _; rw [hkz]; exact HF.out
      clear hm hkz
      go_wp2_with fail
      go_region
      go_wp2_with fail
      go_roundw
      case rel => exact ⟨i + 1, by omega, by omega, by simp, HF5, HRb, HKC, below_drew hbW⟩
      case measure => simp only [intOf]; omega
    ·
     have ti : decide ((i : Int) < 8) = false := decide_eq_false (by omega)
     have ti2 : decide (i < 8) = false := decide_eq_false hi
     have hi9 : i = 8 := by omega
     have hf1 := HF.out.cell 1
     rw [hi9] at HF
     clear s2 HKC
     rcases kzF_end hkd.1 with ⟨hk, hkz⟩ | ⟨k, hk, hkz, hk1, hk7⟩
     ·
      have HG : Hid (G = none) := by show _ = _; rw [HG1.out, hk]
      rw [hkz] at HF
      clear hk hkz HG1 hf1
      obtain ⟨a0, a1, a2, a3, a4, a5, a6, a7, a8, a9, a10, a11, a12, a13⟩ := Blk.c14 (show Blk _ _ _ _ from HF.out : Blk wr F 48 #[.string nm, .int .u8 0, .bool false, .int .u8 0, .bool false, .bool false, .string ⟨#[]⟩, .bool false, .string ⟨#[]⟩, .int .i64 0, .int .i64 0, .bool false, .bool false, .slice none 0 0])
      obtain ⟨b0, b1, b2, b3, b4, b5, b6, b7, b8, b9, b10, b11, b12, b13⟩ := Blk.c14 HRb.out
      obtain ⟨fz0, fz1, fz2, fz3, fz4, fz5, fz6, fz7, fz8, fz9, fz10, fz11, fz12, fz13⟩ := Blk.f14 HRb.out
      go_wp2_with fail
      have hrs := res_set HRb.out (.string nm) (.int .u8 0) (.bool false) (.int .u8 0) (.bool false) (.bool false) (.string ⟨#[]⟩) (.bool false) (.string ⟨#[]⟩) (.int .i64 0) (.int .i64 0) (.bool false) (.bool false) (.slice none 0 0) rfl
      obtain ⟨hTF, hOF⟩ := hrs
      have hbF := hbW.trans ((hOF.below (Nat.le_of_lt HRb.out.lt)).mono hRbw)
      refine bodyPost_ret (res73 hTF rfl rfl) rfl ?_
      exact fpost_no (o := ⟨(nm), (0), (false), (0), (false), (false), (⟨#[]⟩), (false), (⟨#[]⟩), (0), (0), (false), (false)⟩) HG.out hbF
     ·
      rw [hkz] at HF
      have HG : Hid (G = (match readKL k (nullsW (skipL r ⟨#[100, 111, 119, 110]⟩).2).2 { own0 nm with kind := (k : Int), down := (skipL r ⟨#[100, 111, 119, 110]⟩).1, nulls := (nullsW (skipL r ⟨#[100, 111, 119, 110]⟩).2).1 } with
       | some z => if z.1.isEmpty then some z.2 else none
       | none => none)) := by show _ = _; rw [HG1.out, hk]
      clear hk hkz HG1 hf1
      obtain ⟨WS, hWS⟩ : ∃ WS, x0 :: nm :: kd :: r = WS := ⟨_, rfl⟩
      have HV : Hid (∀ (j : Nat) (y : ByteArray) (W : World), j ≤ 1000000 → Below w.heap.size w W → Calls Tryz.prog 94 #[.slice (some ⟨ba, off, none⟩) wl c, .int .i64 (j : Int), .string y] W fun e w' => e = .returned (.bool (skipL (WS.drop j) y).1) ∧ W = w') := fun j y W hj hW => by
       have := have_any (x0 :: nm :: kd :: r) hok.1 (some ⟨ba, off, none⟩) c j hj y W (HST.out.old hW)
       rw [HWL.out, hWS] at this
       exact this
      have HD3 : Hid (WS.drop 3 = r) := by show _ = _; rw [← hWS]; rfl
      have HOK : Hid (WsOK WS) := by show WsOK _; rw [← hWS]; exact hok
      have HSTW : Hid (StrAt w (some ⟨ba, off, none⟩) WS) := by show StrAt _ _ _; rw [← hWS]; exact HST.out
      have HWLW : Hid (WS.length = wl) := by show _ = _; rw [← hWS]; exact HWL.out
      clear HST HWL hok hWS hkd
      have f1 : wr.cell? ⟨F, 1, none⟩ = some (.int .u8 (k : Int)) := HF.out.cell 1
      have tk0 : ((k : Int) == 0) = false := beq_eq_false_iff_ne.2 (by omega)
      obtain ⟨dn, r1, hs1⟩ : ∃ dn r1, skipL r ⟨#[100, 111, 119, 110]⟩ = (dn, r1) := ⟨_, _, rfl⟩
      rw [hs1] at HG
      have hv := HV.out 3 ⟨#[100, 111, 119, 110]⟩ wr (by omega) hbW
      rw [HD3.out, hs1, show ((3 : Nat) : Int) = 3 from rfl] at hv
      go_wp2_with fail
      refine hv.mono ?_
      clear hv f1
      rintro _ _ ⟨rfl, rfl⟩
      go_upto_if 51 with fail
      go_cut [7] from 52 to 54 (fun av wx => ∃ at1 : Nat, av = .int .i64 (at1 : Int) ∧ at1 ≤ 4 ∧ at1 ≤ wl ∧ WS.drop at1 = r1 ∧ Blk wx F 48 #[.string nm, .int .u8 (k : Int), .bool dn, .int .u8 0, .bool false, .bool false, .string ⟨#[]⟩, .bool false, .string ⟨#[]⟩, .int .i64 0, .int .i64 0, .bool false, .bool false, .slice none 0 0] ∧ Blk wx Rb 48 #[.string ⟨#[]⟩, .int .u8 0, .bool false, .int .u8 0, .bool false, .bool false, .string ⟨#[]⟩, .bool false, .string ⟨#[]⟩, .int .i64 0, .int .i64 0, .bool false, .bool false, .slice none 0 0] ∧ Below w.heap.size w wx)
      case first =>
       cases dn with
       | true =>
        have ⟨hy, hyl⟩ := (skip_yes (l := r) (y := ⟨#[100, 111, 119, 110]⟩) (by rw [hs1]))
        rw [hs1] at hy
        have f2 : wr.cell? ⟨F, 2, none⟩ = some (.bool false) := HF.out.cell 2
        have fr2 : wr.frozen? ⟨F, 2, none⟩ = false := Blk.free HF.out 2
        have HF5 : Hid (Blk (wr.setCell ⟨F, 2, none⟩ (.bool true)) F 48 #[.string nm, .int .u8 (k : Int), .bool true, .int .u8 0, .bool false, .bool false, .string ⟨#[]⟩, .bool false, .string ⟨#[]⟩, .int .i64 0, .int .i64 0, .bool false, .bool false, .slice none 0 0]) := HF.out.set 2 (.bool true)
        have HR5 : Hid (Blk (wr.setCell ⟨F, 2, none⟩ (.bool true)) Rb 48 #[.string ⟨#[]⟩, .int .u8 0, .bool false, .int .u8 0, .bool false, .bool false, .string ⟨#[]⟩, .bool false, .string ⟨#[]⟩, .int .i64 0, .int .i64 0, .bool false, .bool false, .slice none 0 0]) := ((Oth.set F 2 wr (.bool true)).block Rb HRb.out.lt (by omega)).trans HRb.out
        have hb5 := hbW.setCell (p := ⟨F, 2, none⟩) hFw (.bool true)
        have HY : Hid (WS.drop 4 = r1 ∧ 4 ≤ wl) := by
         refine ⟨by dsimp only at hy; rw [hy, ← HD3.out, List.drop_drop], ?_⟩
         have := hyl; rw [← HD3.out, List.length_drop] at this; have := HWLW.out; omega
        clear hy hs1
        go_wp2_with fail
        go_meet
        exact ⟨4, rfl, by omega, HY.out.2, HY.out.1, HF5.out, HR5.out, hb5⟩
       | false =>
        have hy := skipL_no r ⟨#[100, 111, 119, 110]⟩ (by rw [hs1])
        rw [hs1] at hy
        have HY : Hid (WS.drop 3 = r1) := by show _ = _; dsimp only at hy; rw [hy, HD3.out]
        clear hy hs1
        go_wp2_with fail
        go_meet
        exact ⟨3, rfl, by omega, hwl3, HY.out, HF.out, HRb.out, hbW⟩
      case rest =>
       obtain ⟨at1, rfl, hat1, hatl, hd1, hF1, hR1, hbW1⟩ := hcut
       clear HF HRb hbW HD3
       have HF : Hid (Blk wc F 48 #[.string nm, .int .u8 (k : Int), .bool dn, .int .u8 0, .bool false, .bool false, .string ⟨#[]⟩, .bool false, .string ⟨#[]⟩, .int .i64 0, .int .i64 0, .bool false, .bool false, .slice none 0 0]) := hF1
       have HRb : Hid (Blk wc Rb 48 #[.string ⟨#[]⟩, .int .u8 0, .bool false, .int .u8 0, .bool false, .bool false, .string ⟨#[]⟩, .bool false, .string ⟨#[]⟩, .int .i64 0, .int .i64 0, .bool false, .bool false, .slice none 0 0]) := hR1
       have hbW := hbW1
       have HD1 : Hid (WS.drop at1 = r1) := hd1
       clear hF1 hR1 hbW1 hd1 hs1
       obtain ⟨nu, r2, hs2⟩ : ∃ nu r2, nullsW r1 = (nu, r2) := ⟨_, _, rfl⟩
       rw [hs2] at HG
       obtain ⟨q1, y1, hq1⟩ : ∃ q1 y1, skipL r1 ⟨#[110, 117, 108, 108, 45, 102, 105, 114, 115, 116]⟩ = (q1, y1) := ⟨_, _, rfl⟩
       obtain ⟨q2, y2, hq2⟩ : ∃ q2 y2, skipL r1 ⟨#[110, 117, 108, 108, 45, 108, 97, 115, 116]⟩ = (q2, y2) := ⟨_, _, rfl⟩
       have hv := HV.out at1 ⟨#[110, 117, 108, 108, 45, 102, 105, 114, 115, 116]⟩ wc (by omega) hbW
       rw [HD1.out, hq1] at hv
       have HV2 := HV.out at1 ⟨#[110, 117, 108, 108, 45, 108, 97, 115, 116]⟩ wc (by omega) hbW
       rw [HD1.out, hq2] at HV2
       have hs3 := hs2
       unfold nullsW at hs3
       rw [hq1, hq2] at hs3
       dsimp only at hs3
       go_wp2_with fail
       refine hv.mono ?_
       clear hv
       rintro _ _ ⟨rfl, rfl⟩
       go_upto_if 57 with fail
       go_cut [7] from 58 to 66 (fun av wx => ∃ at2 : Nat, av = .int .i64 (at2 : Int) ∧ at2 ≤ 5 ∧ at2 ≤ wl ∧ WS.drop at2 = r2 ∧ Blk wx F 48 #[.string nm, .int .u8 (k : Int), .bool dn, .int .u8 nu, .bool false, .bool false, .string ⟨#[]⟩, .bool false, .string ⟨#[]⟩, .int .i64 0, .int .i64 0, .bool false, .bool false, .slice none 0 0] ∧ Blk wx Rb 48 #[.string ⟨#[]⟩, .int .u8 0, .bool false, .int .u8 0, .bool false, .bool false, .string ⟨#[]⟩, .bool false, .string ⟨#[]⟩, .int .i64 0, .int .i64 0, .bool false, .bool false, .slice none 0 0] ∧ Below w.heap.size w wx)
       case first =>
        cases q1 with
        | true =>
         rw [if_pos rfl] at hs3
         cases hs3
         have ⟨hy, hyl⟩ := (skip_yes (l := r1) (y := ⟨#[110, 117, 108, 108, 45, 102, 105, 114, 115, 116]⟩) (by rw [hq1]))
         rw [hq1] at hy
         have f3 : wc.cell? ⟨F, 3, none⟩ = some (.int .u8 0) := HF.out.cell 3
         have fr3 : wc.frozen? ⟨F, 3, none⟩ = false := Blk.free HF.out 3
         have HF5 : Hid (Blk (wc.setCell ⟨F, 3, none⟩ (.int .u8 1)) F 48 #[.string nm, .int .u8 (k : Int), .bool dn, .int .u8 1, .bool false, .bool false, .string ⟨#[]⟩, .bool false, .string ⟨#[]⟩, .int .i64 0, .int .i64 0, .bool false, .bool false, .slice none 0 0]) := HF.out.set 3 (.int .u8 1)
         have HR5 : Hid (Blk (wc.setCell ⟨F, 3, none⟩ (.int .u8 1)) Rb 48 #[.string ⟨#[]⟩, .int .u8 0, .bool false, .int .u8 0, .bool false, .bool false, .string ⟨#[]⟩, .bool false, .string ⟨#[]⟩, .int .i64 0, .int .i64 0, .bool false, .bool false, .slice none 0 0]) := ((Oth.set F 3 wc (.int .u8 1)).block Rb HRb.out.lt (by omega)).trans HRb.out
         have hb5 := hbW.setCell (p := ⟨F, 3, none⟩) hFw (.int .u8 1)
         have HY : Hid (WS.drop (at1 + 1) = r2 ∧ at1 + 1 ≤ wl) := ⟨by dsimp only at hy; rw [hy, ← HD1.out, List.drop_drop], by have := hyl; rw [← HD1.out, List.length_drop] at this; have := HWLW.out; omega⟩
         have ea : IntKind.i64.wrap ((at1 : Int) + 1) = (at1 : Int) + 1 := IntWalk.i64_in _ (by omega)
         clear hy hq1 hq2 HV2 hs2
         go_wp2_with fail
         go_meet
         exact ⟨at1 + 1, by simp, by omega, HY.out.2, HY.out.1, HF5.out, HR5.out, hb5⟩
        | false =>
         rw [if_neg (by decide)] at hs3
         go_wp2_with fail
         refine HV2.mono ?_
         clear HV2
         rintro _ _ ⟨rfl, rfl⟩
         cases q2 with
         | true =>
          rw [if_pos rfl] at hs3
          cases hs3
          have ⟨hy, hyl⟩ := (skip_yes (l := r1) (y := ⟨#[110, 117, 108, 108, 45, 108, 97, 115, 116]⟩) (by rw [hq2]))
          rw [hq2] at hy
          have f3 : wc.cell? ⟨F, 3, none⟩ = some (.int .u8 0) := HF.out.cell 3
          have fr3 : wc.frozen? ⟨F, 3, none⟩ = false := Blk.free HF.out 3
          have HF5 : Hid (Blk (wc.setCell ⟨F, 3, none⟩ (.int .u8 2)) F 48 #[.string nm, .int .u8 (k : Int), .bool dn, .int .u8 2, .bool false, .bool false, .string ⟨#[]⟩, .bool false, .string ⟨#[]⟩, .int .i64 0, .int .i64 0, .bool false, .bool false, .slice none 0 0]) := HF.out.set 3 (.int .u8 2)
          have HR5 : Hid (Blk (wc.setCell ⟨F, 3, none⟩ (.int .u8 2)) Rb 48 #[.string ⟨#[]⟩, .int .u8 0, .bool false, .int .u8 0, .bool false, .bool false, .string ⟨#[]⟩, .bool false, .string ⟨#[]⟩, .int .i64 0, .int .i64 0, .bool false, .bool false, .slice none 0 0]) := ((Oth.set F 3 wc (.int .u8 2)).block Rb HRb.out.lt (by omega)).trans HRb.out
          have hb5 := hbW.setCell (p := ⟨F, 3, none⟩) hFw (.int .u8 2)
          have HY : Hid (WS.drop (at1 + 1) = r2 ∧ at1 + 1 ≤ wl) := ⟨by dsimp only at hy; rw [hy, ← HD1.out, List.drop_drop], by have := hyl; rw [← HD1.out, List.length_drop] at this; have := HWLW.out; omega⟩
          have ea : IntKind.i64.wrap ((at1 : Int) + 1) = (at1 : Int) + 1 := IntWalk.i64_in _ (by omega)
          clear hy hq1 hq2 hs2
          go_wp2_with fail
          go_meet
          exact ⟨at1 + 1, by simp, by omega, HY.out.2, HY.out.1, HF5.out, HR5.out, hb5⟩
         | false =>
          rw [if_neg (by decide)] at hs3
          cases hs3
          clear hq1 hq2 hs2
          go_wp2_with fail
          go_meet
          exact ⟨at1, rfl, by omega, hatl, HD1.out, HF.out, HRb.out, hbW⟩
       case rest =>
        obtain ⟨at2, rfl, hat2, hatl2, hd2, hF1, hR1, hbW1⟩ := hcut
        clear HF HRb hbW HD1 HV2 hq1 hq2 hs2 hs3
        have HF : Hid (Blk wc F 48 #[.string nm, .int .u8 (k : Int), .bool dn, .int .u8 nu, .bool false, .bool false, .string ⟨#[]⟩, .bool false, .string ⟨#[]⟩, .int .i64 0, .int .i64 0, .bool false, .bool false, .slice none 0 0]) := hF1
        have HRb : Hid (Blk wc Rb 48 #[.string ⟨#[]⟩, .int .u8 0, .bool false, .int .u8 0, .bool false, .bool false, .string ⟨#[]⟩, .bool false, .string ⟨#[]⟩, .int .i64 0, .int .i64 0, .bool false, .bool false, .slice none 0 0]) := hR1
        have hbW := hbW1
        have HD2 : Hid (WS.drop at2 = r2) := hd2
        clear hF1 hR1 hbW1 hd2
        by_cases k2 : k = 2
        ·
         have HGr : Hid (G = (match readBoundsL r2 ⟨(nm), ((k : Int)), (dn), (nu), (false), (false), (⟨#[]⟩), (false), (⟨#[]⟩), (0), (0), (false), (false)⟩ with | some z => if z.1.isEmpty then some z.2 else none | none => none)) := by
          show _ = _
          rw [HG.out]
          rw [readKL]
          rw [if_pos k2]
          rfl
         have tk2 : ((k : Int) == 2) = true := beq_iff_eq.2 (by omega)
         have tk3 : ((k : Int) == 3) = false := beq_eq_false_iff_ne.2 (by omega)
         have tk5 : ((k : Int) == 5) = false := beq_eq_false_iff_ne.2 (by omega)
         have tk6 : ((k : Int) == 6) = false := beq_eq_false_iff_ne.2 (by omega)
         clear HG k2
         have g1 : wc.cell? ⟨F, 1, none⟩ = some (.int .u8 (k : Int)) := HF.out.cell 1
         obtain ⟨q1, y1, hq1⟩ : ∃ q1 y1, skipL r2 ⟨#[102, 114, 111, 109]⟩ = (q1, y1) := ⟨_, _, rfl⟩
         have hv := HV.out at2 ⟨#[102, 114, 111, 109]⟩ wc (by omega) hbW
         rw [HD2.out, hq1] at hv
         cases q1 with
         | false =>
          have HGx : Hid (G = if r2.isEmpty then some ⟨(nm), ((k : Int)), (dn), (nu), (false), (false), (⟨#[]⟩), (false), (⟨#[]⟩), (0), (0), (false), (false)⟩ else none) := by
           show _ = _
           rw [HGr.out]
           unfold readBoundsL
           rw [hq1]
           rfl
          have HDx : Hid (WS.drop at2 = r2) := HD2
          clear HGr hq1 HD2 HV
          go_wp2_with fail
          refine hv.mono ?_
          clear hv
          rintro _ _ ⟨rfl, rfl⟩
          cases r2 with
          | nil =>
           have hae : at2 = wl := by have := congrArg List.length HDx.out; rw [List.length_drop] at this; have := HWLW.out; simp at *; omega
           have te : (((at2 : Nat) : Int) == (wl : Int)) = true := beq_iff_eq.2 (by omega)
           have te2 : ((at2 : Nat) == wl) = true := beq_iff_eq.2 hae
           have HG : Hid (G = some ⟨(nm), ((k : Int)), (dn), (nu), (false), (false), (⟨#[]⟩), (false), (⟨#[]⟩), (0), (0), (false), (false)⟩) := HGx.out
           have HAE : Hid (at2 = wl) := hae
           clear hae HGx HDx
           obtain ⟨a0, a1, a2, a3, a4, a5, a6, a7, a8, a9, a10, a11, a12, a13⟩ := Blk.c14 HF.out
           obtain ⟨b0, b1, b2, b3, b4, b5, b6, b7, b8, b9, b10, b11, b12, b13⟩ := Blk.c14 HRb.out
           obtain ⟨fz0, fz1, fz2, fz3, fz4, fz5, fz6, fz7, fz8, fz9, fz10, fz11, fz12, fz13⟩ := Blk.f14 HRb.out
           go_wp2_with fail
           have hrs := res_set HRb.out (.string nm) (.int .u8 (k : Int)) (.bool dn) (.int .u8 nu) (.bool false) (.bool false) (.string ⟨#[]⟩) (.bool false) (.string ⟨#[]⟩) (.int .i64 0) (.int .i64 0) (.bool false) (.bool false) (.slice none 0 0) rfl
           obtain ⟨hTF, hOF⟩ := hrs
           have hbF := hbW.trans ((hOF.below (Nat.le_of_lt HRb.out.lt)).mono hRbw)
           refine bodyPost_ret (res73 hTF rfl rfl) rfl ?_
           exact fpost_yes (o := ⟨(nm), ((k : Int)), (dn), (nu), (false), (false), (⟨#[]⟩), (false), (⟨#[]⟩), (0), (0), (false), (false)⟩) HG.out hbF
          | cons rq rr =>
           have hae : at2 ≠ wl := by have := congrArg List.length HDx.out; rw [List.length_drop] at this; have := HWLW.out; simp at *; omega
           have te : (((at2 : Nat) : Int) == (wl : Int)) = false := beq_eq_false_iff_ne.2 (by omega)
           have te2 : ((at2 : Nat) == wl) = false := beq_eq_false_iff_ne.2 hae
           have HG : Hid (G = none) := HGx.out
           have HAE : Hid (at2 ≠ wl) := hae
           clear hae HGx HDx
           obtain ⟨a0, a1, a2, a3, a4, a5, a6, a7, a8, a9, a10, a11, a12, a13⟩ := Blk.c14 HF.out
           obtain ⟨b0, b1, b2, b3, b4, b5, b6, b7, b8, b9, b10, b11, b12, b13⟩ := Blk.c14 HRb.out
           obtain ⟨fz0, fz1, fz2, fz3, fz4, fz5, fz6, fz7, fz8, fz9, fz10, fz11, fz12, fz13⟩ := Blk.f14 HRb.out
           go_wp2_with fail
           have hrs := res_set HRb.out (.string nm) (.int .u8 (k : Int)) (.bool dn) (.int .u8 nu) (.bool false) (.bool false) (.string ⟨#[]⟩) (.bool false) (.string ⟨#[]⟩) (.int .i64 0) (.int .i64 0) (.bool false) (.bool false) (.slice none 0 0) rfl
           obtain ⟨hTF, hOF⟩ := hrs
           have hbF := hbW.trans ((hOF.below (Nat.le_of_lt HRb.out.lt)).mono hRbw)
           refine bodyPost_ret (res73 hTF rfl rfl) rfl ?_
           exact fpost_no (o := ⟨(nm), ((k : Int)), (dn), (nu), (false), (false), (⟨#[]⟩), (false), (⟨#[]⟩), (0), (0), (false), (false)⟩) HG.out hbF
         | true =>
          have ⟨hy, hyl⟩ := (skip_yes (l := r2) (y := ⟨#[102, 114, 111, 109]⟩) (by rw [hq1]))
          rw [hq1] at hy
          dsimp only at hy
          subst hy
          have ea4 : IntKind.i64.wrap ((at2 : Int) + 4) = (at2 : Int) + 4 := IntWalk.i64_in _ (by omega)
          have ea3 : IntKind.i64.wrap ((at2 : Int) + 3) = (at2 : Int) + 3 := IntWalk.i64_in _ (by omega)
          have ea2 : IntKind.i64.wrap ((at2 : Int) + 2) = (at2 : Int) + 2 := IntWalk.i64_in _ (by omega)
          have ea1 : IntKind.i64.wrap ((at2 : Int) + 1) = (at2 : Int) + 1 := IntWalk.i64_in _ (by omega)
          by_cases hshort : wl < at2 + 4
          ·
           have ts : decide ((wl : Int) < (at2 : Int) + 4) = true := decide_eq_true (by omega)
           have ts2 : decide (wl < at2 + 4) = true := decide_eq_true hshort
           have HG : Hid (G = none) := by
            show _ = _
            rw [HGr.out]
            have hl := congrArg List.length HD2.out
            rw [List.length_drop, HWLW.out] at hl
            rw [bnd_short (by omega) (by rw [hq1])]
           clear HGr HD2 HV hshort hq1 hyl
           go_wp2_with fail
           refine hv.mono ?_
           clear hv
           rintro _ _ ⟨rfl, rfl⟩
           obtain ⟨a0, a1, a2, a3, a4, a5, a6, a7, a8, a9, a10, a11, a12, a13⟩ := Blk.c14 HF.out
           obtain ⟨b0, b1, b2, b3, b4, b5, b6, b7, b8, b9, b10, b11, b12, b13⟩ := Blk.c14 HRb.out
           obtain ⟨fz0, fz1, fz2, fz3, fz4, fz5, fz6, fz7, fz8, fz9, fz10, fz11, fz12, fz13⟩ := Blk.f14 HRb.out
           go_wp2_with fail
           have hrs := res_set HRb.out (.string nm) (.int .u8 (k : Int)) (.bool dn) (.int .u8 nu) (.bool false) (.bool false) (.string ⟨#[]⟩) (.bool false) (.string ⟨#[]⟩) (.int .i64 0) (.int .i64 0) (.bool false) (.bool false) (.slice none 0 0) rfl
           obtain ⟨hTF, hOF⟩ := hrs
           have hbF := hbW.trans ((hOF.below (Nat.le_of_lt HRb.out.lt)).mono hRbw)
           refine bodyPost_ret (res73 hTF rfl rfl) rfl ?_
           exact fpost_no (o := ⟨(nm), ((k : Int)), (dn), (nu), (false), (false), (⟨#[]⟩), (false), (⟨#[]⟩), (0), (0), (false), (false)⟩) HG.out hbF
          ·
           have ts : decide ((wl : Int) < (at2 : Int) + 4) = false := decide_eq_false (by omega)
           have ts2 : decide (wl < at2 + 4) = false := decide_eq_false hshort
           obtain ⟨y, n1, tw, n2, r3, rfl⟩ : ∃ y n1 tw n2 r3, r2 = y :: n1 :: tw :: n2 :: r3 := by
            have hl := congrArg List.length HD2.out
            rw [List.length_drop, HWLW.out] at hl
            match r2, hl with
            | [], hl => simp at hl; omega
            | [_], hl => simp at hl; omega
            | [_, _], hl => simp at hl; omega
            | [_, _, _], hl => simp at hl; omega
            | y :: n1 :: tw :: n2 :: r3, _ => exact ⟨y, n1, tw, n2, r3, rfl⟩
           obtain ⟨i1, e1, hd1⟩ := wdrop_at HD2.out
           obtain ⟨i2, e2, hd2⟩ := wdrop_at hd1
           obtain ⟨i3, e3, hd3⟩ := wdrop_at hd2
           obtain ⟨i4, e4, hd4⟩ := wdrop_at hd3
           have ho1 := HOK.out.2 n1 (by rw [← e2]; exact List.getElem_mem i2)
           have ho2 := HOK.out.2 n2 (by rw [← e4]; exact List.getElem_mem i4)
           have HSC : Hid (∀ W, Below w.heap.size w W → W.cell? ⟨ba, off + (at2 + 1), none⟩ = some (.string n1) ∧ W.cell? ⟨ba, off + (at2 + 2), none⟩ = some (.string tw) ∧ W.cell? ⟨ba, off + (at2 + 3), none⟩ = some (.string n2)) := fun W hW => by
            obtain ⟨_, _, ha2, _, s2⟩ := (HSTW.out.old hW) (at2 + 1) i2
            cases ha2
            obtain ⟨_, _, ha3, _, s3⟩ := (HSTW.out.old hW) (at2 + 1 + 1) i3
            cases ha3
            obtain ⟨_, _, ha4, _, s4⟩ := (HSTW.out.old hW) (at2 + 1 + 1 + 1) i4
            cases ha4
            rw [e2] at s2
            rw [e3] at s3
            rw [e4] at s4
            exact ⟨s2, s3, s4⟩
           have HD4 : Hid (WS.drop (at2 + 4) = r3) := hd4
           have hl4 : at2 + 4 ≤ wl := by omega
           clear hd1 hd2 hd3 hd4 e1 e2 e3 e4 HD2
           obtain ⟨c1, c2, c3⟩ := HSC.out wc hbW
           have hp1 := rparse_any n1 (by omega)
           have hp2 := rparse_any n2 (by omega)
           rw [show (y :: n1 :: tw :: n2 :: r3).drop 1 = n1 :: tw :: n2 :: r3 from rfl] at hq1
           cases hy : (tw.toList == (⟨#[116, 111]⟩ : ByteArray).toList) with
           | false =>
            have ty : (tw.toList != (⟨#[116, 111]⟩ : ByteArray).toList) = true := by rw [bne, hy]; rfl
            have ty2 : (tw.toList == [116, 111]) = false := by rw [← show (⟨#[116, 111]⟩ : ByteArray).toList = [116, 111] by rw [ByteArray.toList_eq]]; exact hy
            have ty3 : (tw.toList != [116, 111]) = true := by rw [bne, ty2]; rfl
            have HG : Hid (G = none) := by
             show _ = _
             rw [HGr.out]
             unfold readBoundsL
             rw [hq1]
             dsimp only
             rw [numW]
             cases parseR n1.data.toList with
             | error _ => rfl
             | ok z =>
              dsimp only
              rw [show skipL (tw :: n2 :: r3) ⟨#[116, 111]⟩ = (false, tw :: n2 :: r3) by rw [skipL, if_neg (by rw [hy]; decide)]]
              rfl
            clear HGr HD4 HV hy hq1 hyl hp1 hp2
            go_wp2_with fail
            refine hv.mono ?_
            clear hv
            rintro _ _ ⟨rfl, rfl⟩
            obtain ⟨a0, a1, a2, a3, a4, a5, a6, a7, a8, a9, a10, a11, a12, a13⟩ := Blk.c14 HF.out
            obtain ⟨b0, b1, b2, b3, b4, b5, b6, b7, b8, b9, b10, b11, b12, b13⟩ := Blk.c14 HRb.out
            obtain ⟨fz0, fz1, fz2, fz3, fz4, fz5, fz6, fz7, fz8, fz9, fz10, fz11, fz12, fz13⟩ := Blk.f14 HRb.out
            go_wp2_with fail
            have hrs := res_set HRb.out (.string nm) (.int .u8 (k : Int)) (.bool dn) (.int .u8 nu) (.bool false) (.bool false) (.string ⟨#[]⟩) (.bool false) (.string ⟨#[]⟩) (.int .i64 0) (.int .i64 0) (.bool false) (.bool false) (.slice none 0 0) rfl
            obtain ⟨hTF, hOF⟩ := hrs
            have hbF := hbW.trans ((hOF.below (Nat.le_of_lt HRb.out.lt)).mono hRbw)
            refine bodyPost_ret (res73 hTF rfl rfl) rfl ?_
            exact fpost_no (o := ⟨(nm), ((k : Int)), (dn), (nu), (false), (false), (⟨#[]⟩), (false), (⟨#[]⟩), (0), (0), (false), (false)⟩) HG.out hbF
           | true =>
            have ty : (tw.toList != (⟨#[116, 111]⟩ : ByteArray).toList) = false := by rw [bne, hy]; rfl
            have ty2 : (tw.toList == [116, 111]) = true := by rw [← show (⟨#[116, 111]⟩ : ByteArray).toList = [116, 111] by rw [ByteArray.toList_eq]]; exact hy
            have ty3 : (tw.toList != [116, 111]) = false := by rw [bne, ty2]; rfl
            have HGs : Hid (G = (match parseR n1.data.toList, parseR n2.data.toList with | .ok z, .ok y => if r3.isEmpty then some { (⟨(nm), ((k : Int)), (dn), (nu), (false), (false), (⟨#[]⟩), (false), (⟨#[]⟩), (0), (0), (false), (false)⟩ : Go.Vf.Own) with bnd := true, ln := z.1, lm := bs z.2, hn := y.1, hm := bs y.2 } else none | _, _ => none)) := by
             show _ = _
             rw [HGr.out]
             unfold readBoundsL
             rw [hq1]
             dsimp only
             rw [numW]
             cases parseR n1.data.toList with
             | error _ => rfl
             | ok z =>
              dsimp only
              rw [show skipL (tw :: n2 :: r3) ⟨#[116, 111]⟩ = (true, n2 :: r3) by rw [skipL, if_pos hy]]
              dsimp only
              rw [numW]
              cases parseR n2.data.toList <;> rfl
            clear HGr hy hq1 hyl HV
            go_wp2_with fail
            refine hv.mono ?_
            clear hv
            rintro _ _ ⟨rfl, rfl⟩
            obtain ⟨bA, m1, k1, hpe1, hok1, hbad1⟩ := parse_form n1.data.toList
            obtain ⟨bB, m2, k2, hpe2, hok2, hbad2⟩ := parse_form n2.data.toList
            simp only [hpe1] at hp1
            simp only [hpe2] at hp2
            clear hpe1 hpe2
            have HOK1 : Hid (k1 = 0 → parseR n1.data.toList = .ok (bA, m1)) := hok1
            have HOK2 : Hid (k2 = 0 → parseR n2.data.toList = .ok (bB, m2)) := hok2
            have HBAD1 : Hid (k1 ≠ 0 → ∃ e, parseR n1.data.toList = .error e) := hbad1
            have HBAD2 : Hid (k2 ≠ 0 → ∃ e, parseR n2.data.toList = .error e) := hbad2
            clear hok1 hok2 hbad1 hbad2
            go_wp2_with fail
            refine (hp1 _).mono ?_
            clear hp1 c1 c2 c3
            rintro _ w6 ⟨rfl, hb6⟩
            have hbW6 := hbW.trans (hb6.mono hbW.size)
            have HF6 : Hid (Blk w6 F 48 #[.string nm, .int .u8 (k : Int), .bool dn, .int .u8 nu, .bool false, .bool false, .string ⟨#[]⟩, .bool false, .string ⟨#[]⟩, .int .i64 0, .int .i64 0, .bool false, .bool false, .slice none 0 0]) := HF.out.old hb6
            have HR6 : Hid (Blk w6 Rb 48 #[.string ⟨#[]⟩, .int .u8 0, .bool false, .int .u8 0, .bool false, .bool false, .string ⟨#[]⟩, .bool false, .string ⟨#[]⟩, .int .i64 0, .int .i64 0, .bool false, .bool false, .slice none 0 0]) := HRb.out.old hb6
            clear HF HRb hbW hb6 g1
            go_upto_region 27 with fail
            have hb7 := (Below.refl w6.heap.size w6).alloc (Nat.le_refl _) (.cells #[.bool bA, .string (bs m1)] 44)
            have hL7 := Blk.new w6 44 #[.bool bA, .string (bs m1)]
            have HF7 : Hid (Blk (w6.alloc (.cells #[.bool bA, .string (bs m1)] 44)) F 48 #[.string nm, .int .u8 (k : Int), .bool dn, .int .u8 nu, .bool false, .bool false, .string ⟨#[]⟩, .bool false, .string ⟨#[]⟩, .int .i64 0, .int .i64 0, .bool false, .bool false, .slice none 0 0]) := HF6.out.old hb7
            have HR7 : Hid (Blk (w6.alloc (.cells #[.bool bA, .string (bs m1)] 44)) Rb 48 #[.string ⟨#[]⟩, .int .u8 0, .bool false, .int .u8 0, .bool false, .bool false, .string ⟨#[]⟩, .bool false, .string ⟨#[]⟩, .int .i64 0, .int .i64 0, .bool false, .bool false, .slice none 0 0]) := HR6.out.old hb7
            have hbW7 := hbW6.trans (hb7.mono hbW6.size)
            have hLF : w6.heap.size ≠ F := Nat.ne_of_gt HF6.out.lt
            have hLR : w6.heap.size ≠ Rb := Nat.ne_of_gt HR6.out.lt
            generalize w6.alloc (.cells #[.bool bA, .string (bs m1)] 44) = w7 at *
            generalize w6.heap.size = L1 at *
            have HL7 : Hid (Blk w7 L1 44 #[.bool bA, .string (bs m1)]) := hL7
            clear HF6 HR6 hbW6 hb7 hL7
            obtain ⟨c1, c2, c3⟩ := HSC.out w7 hbW7
            go_wp2_with fail
            refine (hp2 _).mono ?_
            clear hp2 c1 c2 c3
            rintro _ w8 ⟨rfl, hb8⟩
            have hbW8 := hbW7.trans (hb8.mono hbW7.size)
            have HF8 : Hid (Blk w8 F 48 #[.string nm, .int .u8 (k : Int), .bool dn, .int .u8 nu, .bool false, .bool false, .string ⟨#[]⟩, .bool false, .string ⟨#[]⟩, .int .i64 0, .int .i64 0, .bool false, .bool false, .slice none 0 0]) := HF7.out.old hb8
            have HR8 : Hid (Blk w8 Rb 48 #[.string ⟨#[]⟩, .int .u8 0, .bool false, .int .u8 0, .bool false, .bool false, .string ⟨#[]⟩, .bool false, .string ⟨#[]⟩, .int .i64 0, .int .i64 0, .bool false, .bool false, .slice none 0 0]) := HR7.out.old hb8
            have HL8 : Hid (Blk w8 L1 44 #[.bool bA, .string (bs m1)]) := HL7.out.old hb8
            clear HF7 HR7 hbW7 hb8 HL7
            go_upto_region 28 with fail
            have hb9 := (Below.refl w8.heap.size w8).alloc (Nat.le_refl _) (.cells #[.bool bB, .string (bs m2)] 44)
            have hM9 := Blk.new w8 44 #[.bool bB, .string (bs m2)]
            have HF : Hid (Blk (w8.alloc (.cells #[.bool bB, .string (bs m2)] 44)) F 48 #[.string nm, .int .u8 (k : Int), .bool dn, .int .u8 nu, .bool false, .bool false, .string ⟨#[]⟩, .bool false, .string ⟨#[]⟩, .int .i64 0, .int .i64 0, .bool false, .bool false, .slice none 0 0]) := HF8.out.old hb9
            have HRb : Hid (Blk (w8.alloc (.cells #[.bool bB, .string (bs m2)] 44)) Rb 48 #[.string ⟨#[]⟩, .int .u8 0, .bool false, .int .u8 0, .bool false, .bool false, .string ⟨#[]⟩, .bool false, .string ⟨#[]⟩, .int .i64 0, .int .i64 0, .bool false, .bool false, .slice none 0 0]) := HR8.out.old hb9
            have HL9 : Hid (Blk (w8.alloc (.cells #[.bool bB, .string (bs m2)] 44)) L1 44 #[.bool bA, .string (bs m1)]) := HL8.out.old hb9
            have hbW := hbW8.trans (hb9.mono hbW8.size)
            have hMF : w8.heap.size ≠ F := Nat.ne_of_gt HF8.out.lt
            have hMR : w8.heap.size ≠ Rb := Nat.ne_of_gt HR8.out.lt
            generalize w8.alloc (.cells #[.bool bB, .string (bs m2)] 44) = w9 at *
            generalize w8.heap.size = L2 at *
            have HM9 : Hid (Blk w9 L2 44 #[.bool bB, .string (bs m2)]) := hM9
            clear HF8 HR8 hbW8 hb9 hM9 HL8
            by_cases z1 : k1 = 0
            ·
             by_cases z2 : k2 = 0
             ·
              have u1 : (k1 != 0) = false := by rw [z1]; rfl
              have u2 : (k2 != 0) = false := by rw [z2]; rfl
              have HGx : Hid (G = if r3.isEmpty then some ⟨(nm), ((k : Int)), (dn), (nu), (true), (bA), ((bs m1)), (bB), ((bs m2)), (0), (0), (false), (false)⟩ else none) := by
               show _ = _
               rw [HGs.out, HOK1.out z1, HOK2.out z2]
              have l0 : w9.cell? ⟨L1, 0, none⟩ = some (.bool bA) := HL9.out.cell 0
              have l1 : w9.cell? ⟨L1, 1, none⟩ = some (.string (bs m1)) := HL9.out.cell 1
              have j0 : w9.cell? ⟨L2, 0, none⟩ = some (.bool bB) := HM9.out.cell 0
              have j1 : w9.cell? ⟨L2, 1, none⟩ = some (.string (bs m2)) := HM9.out.cell 1
              have p4 : w9.cell? ⟨F, 4, none⟩ = some (.bool false) := HF.out.cell 4
              have p5 : w9.cell? ⟨F, 5, none⟩ = some (.bool false) := HF.out.cell 5
              have p6 : w9.cell? ⟨F, 6, none⟩ = some (.string ⟨#[]⟩) := HF.out.cell 6
              have p7 : w9.cell? ⟨F, 7, none⟩ = some (.bool false) := HF.out.cell 7
              have p8 : w9.cell? ⟨F, 8, none⟩ = some (.string ⟨#[]⟩) := HF.out.cell 8
              have z4 : w9.frozen? ⟨F, 4, none⟩ = false := Blk.free HF.out 4
              have z5 : w9.frozen? ⟨F, 5, none⟩ = false := Blk.free HF.out 5
              have z6 : w9.frozen? ⟨F, 6, none⟩ = false := Blk.free HF.out 6
              have z7 : w9.frozen? ⟨F, 7, none⟩ = false := Blk.free HF.out 7
              have z8 : w9.frozen? ⟨F, 8, none⟩ = false := Blk.free HF.out 8
              have h4 : Blk (w9.setCell ⟨F, 4, none⟩ (.bool true)) F 48 #[.string nm, .int .u8 (k : Int), .bool dn, .int .u8 nu, .bool true, .bool false, .string ⟨#[]⟩, .bool false, .string ⟨#[]⟩, .int .i64 0, .int .i64 0, .bool false, .bool false, .slice none 0 0] := HF.out.set 4 (.bool true)
              have h5 : Blk (_) F 48 #[.string nm, .int .u8 (k : Int), .bool dn, .int .u8 nu, .bool true, .bool bA, .string ⟨#[]⟩, .bool false, .string ⟨#[]⟩, .int .i64 0, .int .i64 0, .bool false, .bool false, .slice none 0 0] := h4.set 5 (.bool bA)
              have h6 : Blk (_) F 48 #[.string nm, .int .u8 (k : Int), .bool dn, .int .u8 nu, .bool true, .bool bA, .string (bs m1), .bool false, .string ⟨#[]⟩, .int .i64 0, .int .i64 0, .bool false, .bool false, .slice none 0 0] := h5.set 6 (.string (bs m1))
              have h7 : Blk (_) F 48 #[.string nm, .int .u8 (k : Int), .bool dn, .int .u8 nu, .bool true, .bool bA, .string (bs m1), .bool bB, .string ⟨#[]⟩, .int .i64 0, .int .i64 0, .bool false, .bool false, .slice none 0 0] := h6.set 7 (.bool bB)
              have h8 : Blk (_) F 48 #[.string nm, .int .u8 (k : Int), .bool dn, .int .u8 nu, .bool true, .bool bA, .string (bs m1), .bool bB, .string (bs m2), .int .i64 0, .int .i64 0, .bool false, .bool false, .slice none 0 0] := h7.set 8 (.string (bs m2))
              have hO := ((((Oth.set F 4 w9 (.bool true)).trans (Oth.set F 5 _ (.bool bA))).trans (Oth.set F 6 _ (.string (bs m1)))).trans (Oth.set F 7 _ (.bool bB))).trans (Oth.set F 8 _ (.string (bs m2)))
              have HFN : Hid (Blk (((((w9.setCell ⟨F, 4, none⟩ (.bool true)).setCell ⟨F, 5, none⟩ (.bool bA)).setCell ⟨F, 6, none⟩ (.string (bs m1))).setCell ⟨F, 7, none⟩ (.bool bB)).setCell ⟨F, 8, none⟩ (.string (bs m2))) F 48 #[.string nm, .int .u8 (k : Int), .bool dn, .int .u8 nu, .bool true, .bool bA, .string (bs m1), .bool bB, .string (bs m2), .int .i64 0, .int .i64 0, .bool false, .bool false, .slice none 0 0]) := h8
              have HRN : Hid (Blk (((((w9.setCell ⟨F, 4, none⟩ (.bool true)).setCell ⟨F, 5, none⟩ (.bool bA)).setCell ⟨F, 6, none⟩ (.string (bs m1))).setCell ⟨F, 7, none⟩ (.bool bB)).setCell ⟨F, 8, none⟩ (.string (bs m2))) Rb 48 #[.string ⟨#[]⟩, .int .u8 0, .bool false, .int .u8 0, .bool false, .bool false, .string ⟨#[]⟩, .bool false, .string ⟨#[]⟩, .int .i64 0, .int .i64 0, .bool false, .bool false, .slice none 0 0]) := (hO.block Rb HRb.out.lt (by omega)).trans HRb.out
              have hbN := (((((hbW.setCell (p := ⟨F, 4, none⟩) hFw (.bool true)).setCell (p := ⟨F, 5, none⟩) hFw (.bool bA)).setCell (p := ⟨F, 6, none⟩) hFw (.string (bs m1))).setCell (p := ⟨F, 7, none⟩) hFw (.bool bB)).setCell (p := ⟨F, 8, none⟩) hFw (.string (bs m2)))
              clear HGs z1 z2 h4 h5 h6 h7 h8 hO HOK1 HOK2 HBAD1 HBAD2
              go_upto_region 33 with fail
              generalize ((((w9.setCell ⟨F, 4, none⟩ (.bool true)).setCell ⟨F, 5, none⟩ (.bool bA)).setCell ⟨F, 6, none⟩ (.string (bs m1))).setCell ⟨F, 7, none⟩ (.bool bB)).setCell ⟨F, 8, none⟩ (.string (bs m2)) = wN at *
              clear HF HRb hbW l0 l1 j0 j1 p4 p5 p6 p7 p8 z4 z5 z6 z7 z8 HL9 HM9
              have HF : Hid (Blk wN F 48 #[.string nm, .int .u8 (k : Int), .bool dn, .int .u8 nu, .bool true, .bool bA, .string (bs m1), .bool bB, .string (bs m2), .int .i64 0, .int .i64 0, .bool false, .bool false, .slice none 0 0]) := HFN
              have HRb : Hid (Blk wN Rb 48 #[.string ⟨#[]⟩, .int .u8 0, .bool false, .int .u8 0, .bool false, .bool false, .string ⟨#[]⟩, .bool false, .string ⟨#[]⟩, .int .i64 0, .int .i64 0, .bool false, .bool false, .slice none 0 0]) := HRN
              have hbW := hbN
              have g1 : wN.cell? ⟨F, 1, none⟩ = some (.int .u8 (k : Int)) := HF.out.cell 1
              have HDx : Hid (WS.drop (at2 + 4) = r3) := HD4
              clear HFN HRN hbN HD4
              generalize bs m1 = M1 at *
              generalize bs m2 = M2 at *
              cases r3 with
              | nil =>
               have hae : (at2 + 4) = wl := by have := congrArg List.length HDx.out; rw [List.length_drop] at this; have := HWLW.out; simp at *; omega
               have te : (((at2 : Int) + 4) == (wl : Int)) = true := beq_iff_eq.2 (by omega)
               have te2 : (((at2 + 4) : Nat) == wl) = true := beq_iff_eq.2 hae
               have HG : Hid (G = some ⟨(nm), ((k : Int)), (dn), (nu), (true), (bA), (M1), (bB), (M2), (0), (0), (false), (false)⟩) := HGx.out
               have HAE : Hid ((at2 + 4) = wl) := hae
               clear hae HGx HDx
               obtain ⟨a0, a1, a2, a3, a4, a5, a6, a7, a8, a9, a10, a11, a12, a13⟩ := Blk.c14 HF.out
               obtain ⟨b0, b1, b2, b3, b4, b5, b6, b7, b8, b9, b10, b11, b12, b13⟩ := Blk.c14 HRb.out
               obtain ⟨fz0, fz1, fz2, fz3, fz4, fz5, fz6, fz7, fz8, fz9, fz10, fz11, fz12, fz13⟩ := Blk.f14 HRb.out
               go_wp2_with fail
               have hrs := res_set HRb.out (.string nm) (.int .u8 (k : Int)) (.bool dn) (.int .u8 nu) (.bool true) (.bool bA) (.string M1) (.bool bB) (.string M2) (.int .i64 0) (.int .i64 0) (.bool false) (.bool false) (.slice none 0 0) rfl
               obtain ⟨hTF, hOF⟩ := hrs
               have hbF := hbW.trans ((hOF.below (Nat.le_of_lt HRb.out.lt)).mono hRbw)
               refine bodyPost_ret (res73 hTF rfl rfl) rfl ?_
               exact fpost_yes (o := ⟨(nm), ((k : Int)), (dn), (nu), (true), (bA), (M1), (bB), (M2), (0), (0), (false), (false)⟩) HG.out hbF
              | cons rq rr =>
               have hae : (at2 + 4) ≠ wl := by have := congrArg List.length HDx.out; rw [List.length_drop] at this; have := HWLW.out; simp at *; omega
               have te : (((at2 : Int) + 4) == (wl : Int)) = false := beq_eq_false_iff_ne.2 (by omega)
               have te2 : (((at2 + 4) : Nat) == wl) = false := beq_eq_false_iff_ne.2 hae
               have HG : Hid (G = none) := HGx.out
               have HAE : Hid ((at2 + 4) ≠ wl) := hae
               clear hae HGx HDx
               obtain ⟨a0, a1, a2, a3, a4, a5, a6, a7, a8, a9, a10, a11, a12, a13⟩ := Blk.c14 HF.out
               obtain ⟨b0, b1, b2, b3, b4, b5, b6, b7, b8, b9, b10, b11, b12, b13⟩ := Blk.c14 HRb.out
               obtain ⟨fz0, fz1, fz2, fz3, fz4, fz5, fz6, fz7, fz8, fz9, fz10, fz11, fz12, fz13⟩ := Blk.f14 HRb.out
               go_wp2_with fail
               have hrs := res_set HRb.out (.string nm) (.int .u8 (k : Int)) (.bool dn) (.int .u8 nu) (.bool true) (.bool bA) (.string M1) (.bool bB) (.string M2) (.int .i64 0) (.int .i64 0) (.bool false) (.bool false) (.slice none 0 0) rfl
               obtain ⟨hTF, hOF⟩ := hrs
               have hbF := hbW.trans ((hOF.below (Nat.le_of_lt HRb.out.lt)).mono hRbw)
               refine bodyPost_ret (res73 hTF rfl rfl) rfl ?_
               exact fpost_no (o := ⟨(nm), ((k : Int)), (dn), (nu), (true), (bA), (M1), (bB), (M2), (0), (0), (false), (false)⟩) HG.out hbF
             ·
              have u1 : (k1 != 0) = false := by rw [z1]; rfl
              have u2 : (k2 != 0) = true := bne_iff_ne.2 z2
              have HG : Hid (G = none) := by
               show _ = _
               obtain ⟨e, he⟩ := HBAD2.out z2
               rw [HGs.out, he]
               cases parseR n1.data.toList <;> rfl
              clear HGs z1 z2 HOK1 HOK2 HBAD1 HBAD2 HD4 HL9 HM9
              obtain ⟨a0, a1, a2, a3, a4, a5, a6, a7, a8, a9, a10, a11, a12, a13⟩ := Blk.c14 HF.out
              obtain ⟨b0, b1, b2, b3, b4, b5, b6, b7, b8, b9, b10, b11, b12, b13⟩ := Blk.c14 HRb.out
              obtain ⟨fz0, fz1, fz2, fz3, fz4, fz5, fz6, fz7, fz8, fz9, fz10, fz11, fz12, fz13⟩ := Blk.f14 HRb.out
              go_wp2_with fail
              have hrs := res_set HRb.out (.string nm) (.int .u8 (k : Int)) (.bool dn) (.int .u8 nu) (.bool false) (.bool false) (.string ⟨#[]⟩) (.bool false) (.string ⟨#[]⟩) (.int .i64 0) (.int .i64 0) (.bool false) (.bool false) (.slice none 0 0) rfl
              obtain ⟨hTF, hOF⟩ := hrs
              have hbF := hbW.trans ((hOF.below (Nat.le_of_lt HRb.out.lt)).mono hRbw)
              refine bodyPost_ret (res73 hTF rfl rfl) rfl ?_
              exact fpost_no (o := ⟨(nm), ((k : Int)), (dn), (nu), (false), (false), (⟨#[]⟩), (false), (⟨#[]⟩), (0), (0), (false), (false)⟩) HG.out hbF
            ·
             have u1 : (k1 != 0) = true := bne_iff_ne.2 z1
             have HG : Hid (G = none) := by
              show _ = _
              obtain ⟨e, he⟩ := HBAD1.out z1
              rw [HGs.out, he]
             clear HGs z1 HOK1 HOK2 HBAD1 HBAD2 HD4 HL9 HM9
             obtain ⟨a0, a1, a2, a3, a4, a5, a6, a7, a8, a9, a10, a11, a12, a13⟩ := Blk.c14 HF.out
             obtain ⟨b0, b1, b2, b3, b4, b5, b6, b7, b8, b9, b10, b11, b12, b13⟩ := Blk.c14 HRb.out
             obtain ⟨fz0, fz1, fz2, fz3, fz4, fz5, fz6, fz7, fz8, fz9, fz10, fz11, fz12, fz13⟩ := Blk.f14 HRb.out
             go_wp2_with fail
             have hrs := res_set HRb.out (.string nm) (.int .u8 (k : Int)) (.bool dn) (.int .u8 nu) (.bool false) (.bool false) (.string ⟨#[]⟩) (.bool false) (.string ⟨#[]⟩) (.int .i64 0) (.int .i64 0) (.bool false) (.bool false) (.slice none 0 0) rfl
             obtain ⟨hTF, hOF⟩ := hrs
             have hbF := hbW.trans ((hOF.below (Nat.le_of_lt HRb.out.lt)).mono hRbw)
             refine bodyPost_ret (res73 hTF rfl rfl) rfl ?_
             exact fpost_no (o := ⟨(nm), ((k : Int)), (dn), (nu), (false), (false), (⟨#[]⟩), (false), (⟨#[]⟩), (0), (0), (false), (false)⟩) HG.out hbF
        by_cases k3 : k = 3 ∨ k = 5
        ·
         have tk2 : ((k : Int) == 2) = false := beq_eq_false_iff_ne.2 (by omega)
         have tk6 : ((k : Int) == 6) = false := beq_eq_false_iff_ne.2 (by omega)
         have g0 : wc.cell? ⟨F, 1, none⟩ = some (.int .u8 (k : Int)) := HF.out.cell 1
         go_upto_region 34 with fail
         go_cut [128] from 121 to 127 (fun v wx => v = .bool true ∧ wx = wc)
         case first =>
          have g1 : wc.cell? ⟨F, 1, none⟩ = some (.int .u8 (k : Int)) := HF.out.cell 1
          rcases k3 with k3 | k3
          ·
           have tk3 : ((k : Int) == 3) = true := beq_iff_eq.2 (by omega)
           go_wp2_with fail
           go_meet
           exact ⟨rfl, rfl⟩
          ·
           have tk3 : ((k : Int) == 3) = false := beq_eq_false_iff_ne.2 (by omega)
           have tk5 : ((k : Int) == 5) = true := beq_iff_eq.2 (by omega)
           go_wp2_with fail
           go_meet
           exact ⟨rfl, rfl⟩
         case rest =>
          obtain ⟨rfl, rfl⟩ := hcut
          have HGr : Hid (G = (match readMostL r2 ⟨(nm), ((k : Int)), (dn), (nu), (false), (false), (⟨#[]⟩), (false), (⟨#[]⟩), (0), (0), (false), (false)⟩ with | some z => if z.1.isEmpty then some z.2 else none | none => none)) := by
           show _ = _
           rw [HG.out]
           rw [readKL]
           rw [if_neg k2, if_pos k3]
           rfl
          clear HG
          have g1 : wc.cell? ⟨F, 1, none⟩ = some (.int .u8 (k : Int)) := HF.out.cell 1
          have ea : IntKind.i64.wrap ((at2 : Int) + 2) = (at2 : Int) + 2 := IntWalk.i64_in _ (by omega)
          have ea1 : IntKind.i64.wrap ((at2 : Int) + 1) = (at2 : Int) + 1 := IntWalk.i64_in _ (by omega)
          by_cases hshort : wl < at2 + 2
          ·
           have ts : decide ((wl : Int) < (at2 : Int) + 2) = true := decide_eq_true (by omega)
           have ts2 : decide (wl < at2 + 2) = true := decide_eq_true hshort
           have HG : Hid (G = none) := by
            show _ = _
            rw [HGr.out]
            have hl := congrArg List.length HD2.out
            rw [List.length_drop, HWLW.out] at hl
            match r2, hl with
            | [], _ => rfl
            | [y], _ =>
             unfold readMostL
             cases hy : (y.toList == (⟨#[109, 111, 115, 116]⟩ : ByteArray).toList) with
             | true => rw [show skipL [y] ⟨#[109, 111, 115, 116]⟩ = (true, []) by rw [skipL, if_pos hy]]; rfl
             | false => rw [show skipL [y] ⟨#[109, 111, 115, 116]⟩ = (false, [y]) by rw [skipL, if_neg (by rw [hy]; decide)]]; rfl
            | y :: z :: r3, hl => simp at hl; omega
           clear HGr HD2 HV hshort
           obtain ⟨a0, a1, a2, a3, a4, a5, a6, a7, a8, a9, a10, a11, a12, a13⟩ := Blk.c14 HF.out
           obtain ⟨b0, b1, b2, b3, b4, b5, b6, b7, b8, b9, b10, b11, b12, b13⟩ := Blk.c14 HRb.out
           obtain ⟨fz0, fz1, fz2, fz3, fz4, fz5, fz6, fz7, fz8, fz9, fz10, fz11, fz12, fz13⟩ := Blk.f14 HRb.out
           go_wp2_with fail
           have hrs := res_set HRb.out (.string nm) (.int .u8 (k : Int)) (.bool dn) (.int .u8 nu) (.bool false) (.bool false) (.string ⟨#[]⟩) (.bool false) (.string ⟨#[]⟩) (.int .i64 0) (.int .i64 0) (.bool false) (.bool false) (.slice none 0 0) rfl
           obtain ⟨hTF, hOF⟩ := hrs
           have hbF := hbW.trans ((hOF.below (Nat.le_of_lt HRb.out.lt)).mono hRbw)
           refine bodyPost_ret (res73 hTF rfl rfl) rfl ?_
           exact fpost_no (o := ⟨(nm), ((k : Int)), (dn), (nu), (false), (false), (⟨#[]⟩), (false), (⟨#[]⟩), (0), (0), (false), (false)⟩) HG.out hbF
          ·
           have ts : decide ((wl : Int) < (at2 : Int) + 2) = false := decide_eq_false (by omega)
           have ts2 : decide (wl < at2 + 2) = false := decide_eq_false hshort
           obtain ⟨y, z, r3, rfl⟩ : ∃ y z r3, r2 = y :: z :: r3 := by
            have hl := congrArg List.length HD2.out
            rw [List.length_drop, HWLW.out] at hl
            match r2, hl with
            | [], hl => simp at hl; omega
            | [y], hl => simp at hl; omega
            | y :: z :: r3, _ => exact ⟨y, z, r3, rfl⟩
           obtain ⟨i1, e1, hd1⟩ := wdrop_at HD2.out
           obtain ⟨i2, e2, hd2⟩ := wdrop_at hd1
           obtain ⟨_, _, ha1, _, sy⟩ := (HSTW.out.old hbW) at2 i1
           cases ha1
           obtain ⟨_, _, ha2, _, sz⟩ := (HSTW.out.old hbW) (at2 + 1) i2
           cases ha2
           rw [e1] at sy
           rw [e2] at sz
           have sz' : wc.cell? ⟨ba, off + at2 + 1, none⟩ = some (.string z) := sz
           have hzo := HOK.out.2 z (by rw [← e2]; exact List.getElem_mem i2)
           have HD4 : Hid (WS.drop (at2 + 2) = r3) := hd2
           have hl4 : at2 + 2 ≤ wl := by omega
           clear hd1 hd2 e1 e2 HD2
           have hsm := small_any z hzo.1 hzo.2
           cases hy : (y.toList == (⟨#[109, 111, 115, 116]⟩ : ByteArray).toList) with
           | false =>
            have ty : (y.toList != (⟨#[109, 111, 115, 116]⟩ : ByteArray).toList) = true := by rw [bne, hy]; rfl
            have ty2 : (y.toList == [109, 111, 115, 116]) = false := by rw [← show (⟨#[109, 111, 115, 116]⟩ : ByteArray).toList = [109, 111, 115, 116] by rw [ByteArray.toList_eq]]; exact hy
            have ty3 : (y.toList != [109, 111, 115, 116]) = true := by rw [bne, ty2]; rfl
            have HG : Hid (G = none) := by
             show _ = _
             rw [HGr.out]
             have e : skipL (y :: z :: r3) ⟨#[109, 111, 115, 116]⟩ = (false, y :: z :: r3) := by rw [skipL, if_neg (by rw [hy]; decide)]
             unfold readMostL
             rw [e]
             rfl
            clear HGr HD4 HV hy hsm
            obtain ⟨a0, a1, a2, a3, a4, a5, a6, a7, a8, a9, a10, a11, a12, a13⟩ := Blk.c14 HF.out
            obtain ⟨b0, b1, b2, b3, b4, b5, b6, b7, b8, b9, b10, b11, b12, b13⟩ := Blk.c14 HRb.out
            obtain ⟨fz0, fz1, fz2, fz3, fz4, fz5, fz6, fz7, fz8, fz9, fz10, fz11, fz12, fz13⟩ := Blk.f14 HRb.out
            go_wp2_with fail
            have hrs := res_set HRb.out (.string nm) (.int .u8 (k : Int)) (.bool dn) (.int .u8 nu) (.bool false) (.bool false) (.string ⟨#[]⟩) (.bool false) (.string ⟨#[]⟩) (.int .i64 0) (.int .i64 0) (.bool false) (.bool false) (.slice none 0 0) rfl
            obtain ⟨hTF, hOF⟩ := hrs
            have hbF := hbW.trans ((hOF.below (Nat.le_of_lt HRb.out.lt)).mono hRbw)
            refine bodyPost_ret (res73 hTF rfl rfl) rfl ?_
            exact fpost_no (o := ⟨(nm), ((k : Int)), (dn), (nu), (false), (false), (⟨#[]⟩), (false), (⟨#[]⟩), (0), (0), (false), (false)⟩) HG.out hbF
           | true =>
            have ty : (y.toList != (⟨#[109, 111, 115, 116]⟩ : ByteArray).toList) = false := by rw [bne, hy]; rfl
            have ty2 : (y.toList == [109, 111, 115, 116]) = true := by rw [← show (⟨#[109, 111, 115, 116]⟩ : ByteArray).toList = [109, 111, 115, 116] by rw [ByteArray.toList_eq]]; exact hy
            have ty3 : (y.toList != [109, 111, 115, 116]) = false := by rw [bne, ty2]; rfl
            have e : skipL (y :: z :: r3) ⟨#[109, 111, 115, 116]⟩ = (true, z :: r3) := by rw [skipL, if_pos hy]
            cases hc : cntL z.data.toList with
            | none =>
             have HG : Hid (G = none) := by
              show _ = _
              rw [HGr.out]
              unfold readMostL
              rw [e]
              dsimp only
              rw [cntW, hc]
              rfl
             rw [hc] at hsm
             clear HGr HD4 HV hy hc e
             go_wp2_with fail
             refine (hsm _).mono ?_
             clear hsm
             rintro _ _ ⟨rfl, rfl⟩
             obtain ⟨a0, a1, a2, a3, a4, a5, a6, a7, a8, a9, a10, a11, a12, a13⟩ := Blk.c14 HF.out
             obtain ⟨b0, b1, b2, b3, b4, b5, b6, b7, b8, b9, b10, b11, b12, b13⟩ := Blk.c14 HRb.out
             obtain ⟨fz0, fz1, fz2, fz3, fz4, fz5, fz6, fz7, fz8, fz9, fz10, fz11, fz12, fz13⟩ := Blk.f14 HRb.out
             go_wp2_with fail
             have hrs := res_set HRb.out (.string nm) (.int .u8 (k : Int)) (.bool dn) (.int .u8 nu) (.bool false) (.bool false) (.string ⟨#[]⟩) (.bool false) (.string ⟨#[]⟩) (.int .i64 0) (.int .i64 0) (.bool false) (.bool false) (.slice none 0 0) rfl
             obtain ⟨hTF, hOF⟩ := hrs
             have hbF := hbW.trans ((hOF.below (Nat.le_of_lt HRb.out.lt)).mono hRbw)
             refine bodyPost_ret (res73 hTF rfl rfl) rfl ?_
             exact fpost_no (o := ⟨(nm), ((k : Int)), (dn), (nu), (false), (false), (⟨#[]⟩), (false), (⟨#[]⟩), (0), (0), (false), (false)⟩) HG.out hbF
            | some n =>
             have hn := cnt_range (ws := [z]) (z := (n, [])) (by rw [cntW, hc])
             have tn : decide (n < 0) = false := decide_eq_false (by omega)
             rw [hc] at hsm
             clear hy
             go_wp2_with fail
             refine (hsm _).mono ?_
             rintro _ _ ⟨rfl, rfl⟩
             have q9 : wc.cell? ⟨F, 9, none⟩ = some (.int .i64 0) := HF.out.cell 9
             have fq9 : wc.frozen? ⟨F, 9, none⟩ = false := Blk.free HF.out 9
             have HF5 : Hid (Blk (wc.setCell ⟨F, 9, none⟩ (.int .i64 n)) F 48 #[.string nm, .int .u8 (k : Int), .bool dn, .int .u8 nu, .bool false, .bool false, .string ⟨#[]⟩, .bool false, .string ⟨#[]⟩, .int .i64 n, .int .i64 0, .bool false, .bool false, .slice none 0 0]) := HF.out.set 9 (.int .i64 n)
             have HR5 : Hid (Blk (wc.setCell ⟨F, 9, none⟩ (.int .i64 n)) Rb 48 #[.string ⟨#[]⟩, .int .u8 0, .bool false, .int .u8 0, .bool false, .bool false, .string ⟨#[]⟩, .bool false, .string ⟨#[]⟩, .int .i64 0, .int .i64 0, .bool false, .bool false, .slice none 0 0]) := ((Oth.set F 9 wc (.int .i64 n)).block Rb HRb.out.lt (by omega)).trans HRb.out
             have hb5 := hbW.setCell (p := ⟨F, 9, none⟩) hFw (.int .i64 n)
             have HGx : Hid (G = if r3.isEmpty then some ⟨(nm), ((k : Int)), (dn), (nu), (false), (false), (⟨#[]⟩), (false), (⟨#[]⟩), (n), (0), (false), (false)⟩ else none) := by
              show _ = _
              rw [HGr.out]
              unfold readMostL
              rw [e]
              dsimp only
              rw [cntW, hc]
              rfl
             clear HGr hc e HV
             go_upto_region 38 with (go_at_call 47; refine (hsm _).mono ?_; rintro _ _ ⟨rfl, rfl⟩)
             generalize wc.setCell ⟨F, 9, none⟩ (.int .i64 n) = w5 at *
             clear HF HRb hbW hsm sy sz sz' q9 fq9 g1
             have HF : Hid (Blk w5 F 48 #[.string nm, .int .u8 (k : Int), .bool dn, .int .u8 nu, .bool false, .bool false, .string ⟨#[]⟩, .bool false, .string ⟨#[]⟩, .int .i64 n, .int .i64 0, .bool false, .bool false, .slice none 0 0]) := HF5
             have HRb : Hid (Blk w5 Rb 48 #[.string ⟨#[]⟩, .int .u8 0, .bool false, .int .u8 0, .bool false, .bool false, .string ⟨#[]⟩, .bool false, .string ⟨#[]⟩, .int .i64 0, .int .i64 0, .bool false, .bool false, .slice none 0 0]) := HR5
             have hbW := hb5
             have HDx : Hid (WS.drop (at2 + 2) = r3) := HD4
             clear HF5 HR5 hb5 HD4
             cases r3 with
             | nil =>
              have hae : (at2 + 2) = wl := by have := congrArg List.length HDx.out; rw [List.length_drop] at this; have := HWLW.out; simp at *; omega
              have te : (((at2 : Int) + 2) == (wl : Int)) = true := beq_iff_eq.2 (by omega)
              have te2 : (((at2 + 2) : Nat) == wl) = true := beq_iff_eq.2 hae
              have HG : Hid (G = some ⟨(nm), ((k : Int)), (dn), (nu), (false), (false), (⟨#[]⟩), (false), (⟨#[]⟩), (n), (0), (false), (false)⟩) := HGx.out
              have HAE : Hid ((at2 + 2) = wl) := hae
              clear hae HGx HDx
              obtain ⟨a0, a1, a2, a3, a4, a5, a6, a7, a8, a9, a10, a11, a12, a13⟩ := Blk.c14 HF.out
              obtain ⟨b0, b1, b2, b3, b4, b5, b6, b7, b8, b9, b10, b11, b12, b13⟩ := Blk.c14 HRb.out
              obtain ⟨fz0, fz1, fz2, fz3, fz4, fz5, fz6, fz7, fz8, fz9, fz10, fz11, fz12, fz13⟩ := Blk.f14 HRb.out
              go_wp2_with fail
              have hrs := res_set HRb.out (.string nm) (.int .u8 (k : Int)) (.bool dn) (.int .u8 nu) (.bool false) (.bool false) (.string ⟨#[]⟩) (.bool false) (.string ⟨#[]⟩) (.int .i64 n) (.int .i64 0) (.bool false) (.bool false) (.slice none 0 0) rfl
              obtain ⟨hTF, hOF⟩ := hrs
              have hbF := hbW.trans ((hOF.below (Nat.le_of_lt HRb.out.lt)).mono hRbw)
              refine bodyPost_ret (res73 hTF rfl rfl) rfl ?_
              exact fpost_yes (o := ⟨(nm), ((k : Int)), (dn), (nu), (false), (false), (⟨#[]⟩), (false), (⟨#[]⟩), (n), (0), (false), (false)⟩) HG.out hbF
             | cons rq rr =>
              have hae : (at2 + 2) ≠ wl := by have := congrArg List.length HDx.out; rw [List.length_drop] at this; have := HWLW.out; simp at *; omega
              have te : (((at2 : Int) + 2) == (wl : Int)) = false := beq_eq_false_iff_ne.2 (by omega)
              have te2 : (((at2 + 2) : Nat) == wl) = false := beq_eq_false_iff_ne.2 hae
              have HG : Hid (G = none) := HGx.out
              have HAE : Hid ((at2 + 2) ≠ wl) := hae
              clear hae HGx HDx
              obtain ⟨a0, a1, a2, a3, a4, a5, a6, a7, a8, a9, a10, a11, a12, a13⟩ := Blk.c14 HF.out
              obtain ⟨b0, b1, b2, b3, b4, b5, b6, b7, b8, b9, b10, b11, b12, b13⟩ := Blk.c14 HRb.out
              obtain ⟨fz0, fz1, fz2, fz3, fz4, fz5, fz6, fz7, fz8, fz9, fz10, fz11, fz12, fz13⟩ := Blk.f14 HRb.out
              go_wp2_with fail
              have hrs := res_set HRb.out (.string nm) (.int .u8 (k : Int)) (.bool dn) (.int .u8 nu) (.bool false) (.bool false) (.string ⟨#[]⟩) (.bool false) (.string ⟨#[]⟩) (.int .i64 n) (.int .i64 0) (.bool false) (.bool false) (.slice none 0 0) rfl
              obtain ⟨hTF, hOF⟩ := hrs
              have hbF := hbW.trans ((hOF.below (Nat.le_of_lt HRb.out.lt)).mono hRbw)
              refine bodyPost_ret (res73 hTF rfl rfl) rfl ?_
              exact fpost_no (o := ⟨(nm), ((k : Int)), (dn), (nu), (false), (false), (⟨#[]⟩), (false), (⟨#[]⟩), (n), (0), (false), (false)⟩) HG.out hbF
        by_cases k6 : k = 6
        ·
         have HGr : Hid (G = (match readCollateL r2 ⟨(nm), ((k : Int)), (dn), (nu), (false), (false), (⟨#[]⟩), (false), (⟨#[]⟩), (0), (0), (false), (false)⟩ with | some z => if z.1.isEmpty then some z.2 else none | none => none)) := by
          show _ = _
          rw [HG.out]
          rw [readKL]
          rw [if_neg k2, if_neg k3, if_pos k6]
          rfl
         clear HG
         have tk2 : ((k : Int) == 2) = false := beq_eq_false_iff_ne.2 (by omega)
         have tk3 : ((k : Int) == 3) = false := beq_eq_false_iff_ne.2 (by omega)
         have tk5 : ((k : Int) == 5) = false := beq_eq_false_iff_ne.2 (by omega)
         have tk6 : ((k : Int) == 6) = true := beq_iff_eq.2 (by omega)
         clear k2 k3 k6
         have g1 : wc.cell? ⟨F, 1, none⟩ = some (.int .u8 (k : Int)) := HF.out.cell 1
         have ea : IntKind.i64.wrap ((at2 : Int) + 2) = (at2 : Int) + 2 := IntWalk.i64_in _ (by omega)
         have ea1 : IntKind.i64.wrap ((at2 : Int) + 1) = (at2 : Int) + 1 := IntWalk.i64_in _ (by omega)
         by_cases hshort : wl < at2 + 2
         ·
          have ts : decide ((wl : Int) < (at2 : Int) + 2) = true := decide_eq_true (by omega)
          have ts2 : decide (wl < at2 + 2) = true := decide_eq_true hshort
          have HG : Hid (G = none) := by
           show _ = _
           rw [HGr.out]
           have hl := congrArg List.length HD2.out
           rw [List.length_drop, HWLW.out] at hl
           match r2, hl with
           | [], _ => rfl
           | [y], _ =>
            unfold readCollateL
            cases hy : (y.toList == (⟨#[115, 116, 114, 101, 110, 103, 116, 104]⟩ : ByteArray).toList) with
            | true => rw [show skipL [y] ⟨#[115, 116, 114, 101, 110, 103, 116, 104]⟩ = (true, []) by rw [skipL, if_pos hy]]; rfl
            | false => rw [show skipL [y] ⟨#[115, 116, 114, 101, 110, 103, 116, 104]⟩ = (false, [y]) by rw [skipL, if_neg (by rw [hy]; decide)]]; rfl
           | y :: z :: r3, hl => simp at hl; omega
          clear HGr HD2 HV hshort
          obtain ⟨a0, a1, a2, a3, a4, a5, a6, a7, a8, a9, a10, a11, a12, a13⟩ := Blk.c14 HF.out
          obtain ⟨b0, b1, b2, b3, b4, b5, b6, b7, b8, b9, b10, b11, b12, b13⟩ := Blk.c14 HRb.out
          obtain ⟨fz0, fz1, fz2, fz3, fz4, fz5, fz6, fz7, fz8, fz9, fz10, fz11, fz12, fz13⟩ := Blk.f14 HRb.out
          go_wp2_with fail
          have hrs := res_set HRb.out (.string nm) (.int .u8 (k : Int)) (.bool dn) (.int .u8 nu) (.bool false) (.bool false) (.string ⟨#[]⟩) (.bool false) (.string ⟨#[]⟩) (.int .i64 0) (.int .i64 0) (.bool false) (.bool false) (.slice none 0 0) rfl
          obtain ⟨hTF, hOF⟩ := hrs
          have hbF := hbW.trans ((hOF.below (Nat.le_of_lt HRb.out.lt)).mono hRbw)
          refine bodyPost_ret (res73 hTF rfl rfl) rfl ?_
          exact fpost_no (o := ⟨(nm), ((k : Int)), (dn), (nu), (false), (false), (⟨#[]⟩), (false), (⟨#[]⟩), (0), (0), (false), (false)⟩) HG.out hbF
         ·
          have ts : decide ((wl : Int) < (at2 : Int) + 2) = false := decide_eq_false (by omega)
          have ts2 : decide (wl < at2 + 2) = false := decide_eq_false hshort
          obtain ⟨y, z, r3, rfl⟩ : ∃ y z r3, r2 = y :: z :: r3 := by
           have hl := congrArg List.length HD2.out
           rw [List.length_drop, HWLW.out] at hl
           match r2, hl with
           | [], hl => simp at hl; omega
           | [y], hl => simp at hl; omega
           | y :: z :: r3, _ => exact ⟨y, z, r3, rfl⟩
          obtain ⟨i1, e1, hd1⟩ := wdrop_at HD2.out
          obtain ⟨i2, e2, hd2⟩ := wdrop_at hd1
          obtain ⟨_, _, ha1, _, sy⟩ := (HSTW.out.old hbW) at2 i1
          cases ha1
          obtain ⟨_, _, ha2, _, sz⟩ := (HSTW.out.old hbW) (at2 + 1) i2
          cases ha2
          rw [e1] at sy
          rw [e2] at sz
          have sz' : wc.cell? ⟨ba, off + at2 + 1, none⟩ = some (.string z) := sz
          have hzo := HOK.out.2 z (by rw [← e2]; exact List.getElem_mem i2)
          have HD4 : Hid (WS.drop (at2 + 2) = r3) := hd2
          have hl4 : at2 + 2 ≤ wl := by omega
          clear hd1 hd2 e1 e2 HD2
          have hsm := small_any z hzo.1 hzo.2
          cases hy : (y.toList == (⟨#[115, 116, 114, 101, 110, 103, 116, 104]⟩ : ByteArray).toList) with
          | false =>
           have ty : (y.toList != (⟨#[115, 116, 114, 101, 110, 103, 116, 104]⟩ : ByteArray).toList) = true := by rw [bne, hy]; rfl
           have ty2 : (y.toList == [115, 116, 114, 101, 110, 103, 116, 104]) = false := by rw [← show (⟨#[115, 116, 114, 101, 110, 103, 116, 104]⟩ : ByteArray).toList = [115, 116, 114, 101, 110, 103, 116, 104] by rw [ByteArray.toList_eq]]; exact hy
           have ty3 : (y.toList != [115, 116, 114, 101, 110, 103, 116, 104]) = true := by rw [bne, ty2]; rfl
           have HG : Hid (G = none) := by
            show _ = _
            rw [HGr.out]
            have e : skipL (y :: z :: r3) ⟨#[115, 116, 114, 101, 110, 103, 116, 104]⟩ = (false, y :: z :: r3) := by rw [skipL, if_neg (by rw [hy]; decide)]
            unfold readCollateL
            rw [e]
            rfl
           clear HGr HD4 HV hy hsm
           obtain ⟨a0, a1, a2, a3, a4, a5, a6, a7, a8, a9, a10, a11, a12, a13⟩ := Blk.c14 HF.out
           obtain ⟨b0, b1, b2, b3, b4, b5, b6, b7, b8, b9, b10, b11, b12, b13⟩ := Blk.c14 HRb.out
           obtain ⟨fz0, fz1, fz2, fz3, fz4, fz5, fz6, fz7, fz8, fz9, fz10, fz11, fz12, fz13⟩ := Blk.f14 HRb.out
           go_wp2_with fail
           have hrs := res_set HRb.out (.string nm) (.int .u8 (k : Int)) (.bool dn) (.int .u8 nu) (.bool false) (.bool false) (.string ⟨#[]⟩) (.bool false) (.string ⟨#[]⟩) (.int .i64 0) (.int .i64 0) (.bool false) (.bool false) (.slice none 0 0) rfl
           obtain ⟨hTF, hOF⟩ := hrs
           have hbF := hbW.trans ((hOF.below (Nat.le_of_lt HRb.out.lt)).mono hRbw)
           refine bodyPost_ret (res73 hTF rfl rfl) rfl ?_
           exact fpost_no (o := ⟨(nm), ((k : Int)), (dn), (nu), (false), (false), (⟨#[]⟩), (false), (⟨#[]⟩), (0), (0), (false), (false)⟩) HG.out hbF
          | true =>
           have ty : (y.toList != (⟨#[115, 116, 114, 101, 110, 103, 116, 104]⟩ : ByteArray).toList) = false := by rw [bne, hy]; rfl
           have ty2 : (y.toList == [115, 116, 114, 101, 110, 103, 116, 104]) = true := by rw [← show (⟨#[115, 116, 114, 101, 110, 103, 116, 104]⟩ : ByteArray).toList = [115, 116, 114, 101, 110, 103, 116, 104] by rw [ByteArray.toList_eq]]; exact hy
           have ty3 : (y.toList != [115, 116, 114, 101, 110, 103, 116, 104]) = false := by rw [bne, ty2]; rfl
           have e : skipL (y :: z :: r3) ⟨#[115, 116, 114, 101, 110, 103, 116, 104]⟩ = (true, z :: r3) := by rw [skipL, if_pos hy]
           cases hc : cntL z.data.toList with
           | none =>
            have HG : Hid (G = none) := by
             show _ = _
             rw [HGr.out]
             unfold readCollateL
             rw [e]
             dsimp only
             rw [cntW, hc]
             rfl
            rw [hc] at hsm
            clear HGr HD4 HV hy hc e
            go_wp2_with fail
            refine (hsm _).mono ?_
            clear hsm
            rintro _ _ ⟨rfl, rfl⟩
            obtain ⟨a0, a1, a2, a3, a4, a5, a6, a7, a8, a9, a10, a11, a12, a13⟩ := Blk.c14 HF.out
            obtain ⟨b0, b1, b2, b3, b4, b5, b6, b7, b8, b9, b10, b11, b12, b13⟩ := Blk.c14 HRb.out
            obtain ⟨fz0, fz1, fz2, fz3, fz4, fz5, fz6, fz7, fz8, fz9, fz10, fz11, fz12, fz13⟩ := Blk.f14 HRb.out
            go_wp2_with fail
            have hrs := res_set HRb.out (.string nm) (.int .u8 (k : Int)) (.bool dn) (.int .u8 nu) (.bool false) (.bool false) (.string ⟨#[]⟩) (.bool false) (.string ⟨#[]⟩) (.int .i64 0) (.int .i64 0) (.bool false) (.bool false) (.slice none 0 0) rfl
            obtain ⟨hTF, hOF⟩ := hrs
            have hbF := hbW.trans ((hOF.below (Nat.le_of_lt HRb.out.lt)).mono hRbw)
            refine bodyPost_ret (res73 hTF rfl rfl) rfl ?_
            exact fpost_no (o := ⟨(nm), ((k : Int)), (dn), (nu), (false), (false), (⟨#[]⟩), (false), (⟨#[]⟩), (0), (0), (false), (false)⟩) HG.out hbF
           | some n =>
            have hn := cnt_range (ws := [z]) (z := (n, [])) (by rw [cntW, hc])
            have tn : decide (n < 0) = false := decide_eq_false (by omega)
            rw [hc] at hsm
            clear hy
            go_wp2_with fail
            refine (hsm _).mono ?_
            rintro _ _ ⟨rfl, rfl⟩
            have q9 : wc.cell? ⟨F, 10, none⟩ = some (.int .i64 0) := HF.out.cell 10
            have fq9 : wc.frozen? ⟨F, 10, none⟩ = false := Blk.free HF.out 10
            have HF5 : Hid (Blk (wc.setCell ⟨F, 10, none⟩ (.int .i64 n)) F 48 #[.string nm, .int .u8 (k : Int), .bool dn, .int .u8 nu, .bool false, .bool false, .string ⟨#[]⟩, .bool false, .string ⟨#[]⟩, .int .i64 0, .int .i64 n, .bool false, .bool false, .slice none 0 0]) := HF.out.set 10 (.int .i64 n)
            have HR5 : Hid (Blk (wc.setCell ⟨F, 10, none⟩ (.int .i64 n)) Rb 48 #[.string ⟨#[]⟩, .int .u8 0, .bool false, .int .u8 0, .bool false, .bool false, .string ⟨#[]⟩, .bool false, .string ⟨#[]⟩, .int .i64 0, .int .i64 0, .bool false, .bool false, .slice none 0 0]) := ((Oth.set F 10 wc (.int .i64 n)).block Rb HRb.out.lt (by omega)).trans HRb.out
            have hb5 := hbW.setCell (p := ⟨F, 10, none⟩) hFw (.int .i64 n)
            obtain ⟨sh, r4, hs11⟩ : ∃ sh r4, skipL r3 ⟨#[115, 104, 105, 102, 116, 101, 100]⟩ = (sh, r4) := ⟨_, _, rfl⟩
            obtain ⟨bk, r5, hs12⟩ : ∃ bk r5, skipL r4 ⟨#[98, 97, 99, 107]⟩ = (bk, r5) := ⟨_, _, rfl⟩
            have HGx : Hid (G = if r5.isEmpty then some ⟨(nm), ((k : Int)), (dn), (nu), (false), (false), (⟨#[]⟩), (false), (⟨#[]⟩), (0), (n), (sh), (bk)⟩ else none) := by
             show _ = _
             rw [HGr.out]
             unfold readCollateL
             rw [e]
             dsimp only
             rw [cntW, hc]
             dsimp only
             rw [hs11]
             dsimp only
             rw [hs12]
             rfl
            clear HGr hc e
            go_upto_region 43 with (go_at_call 47; refine (hsm _).mono ?_; rintro _ _ ⟨rfl, rfl⟩)
            generalize wc.setCell ⟨F, 10, none⟩ (.int .i64 n) = w5 at *
            clear HF HRb hbW hsm sy sz sz' q9 fq9 g1
            have HF : Hid (Blk w5 F 48 #[.string nm, .int .u8 (k : Int), .bool dn, .int .u8 nu, .bool false, .bool false, .string ⟨#[]⟩, .bool false, .string ⟨#[]⟩, .int .i64 0, .int .i64 n, .bool false, .bool false, .slice none 0 0]) := HF5
            have HRb : Hid (Blk w5 Rb 48 #[.string ⟨#[]⟩, .int .u8 0, .bool false, .int .u8 0, .bool false, .bool false, .string ⟨#[]⟩, .bool false, .string ⟨#[]⟩, .int .i64 0, .int .i64 0, .bool false, .bool false, .slice none 0 0]) := HR5
            have hbW := hb5
            obtain ⟨at3, hat3⟩ : ∃ at3, at2 + 2 = at3 := ⟨_, rfl⟩
            have hat3i : (at2 : Int) + 2 = (at3 : Int) := by omega
            have HDx : Hid (WS.drop at3 = r3) := by show _ = _; rw [← hat3]; exact HD4.out
            have hatl3 : at3 ≤ wl := by omega
            have hat3m : at3 ≤ 7 := by omega
            clear HF5 HR5 hb5 HD4
            go_upto_region 44 with fail
            clear hat3i hat3 hl4
            have hv := HV.out at3 ⟨#[115, 104, 105, 102, 116, 101, 100]⟩ w5 (by omega) hbW
            rw [HDx.out, hs11] at hv
            go_wp2_with fail
            refine hv.mono ?_
            clear hv
            rintro _ _ ⟨rfl, rfl⟩
            go_upto_if 197 with fail
            go_cut [7] from 198 to 201 (fun av wx => ∃ at4 : Nat, av = .int .i64 (at4 : Int) ∧ at4 ≤ 8 ∧ at4 ≤ wl ∧ WS.drop at4 = r4 ∧ Blk wx F 48 #[.string nm, .int .u8 (k : Int), .bool dn, .int .u8 nu, .bool false, .bool false, .string ⟨#[]⟩, .bool false, .string ⟨#[]⟩, .int .i64 0, .int .i64 n, .bool sh, .bool false, .slice none 0 0] ∧ Blk wx Rb 48 #[.string ⟨#[]⟩, .int .u8 0, .bool false, .int .u8 0, .bool false, .bool false, .string ⟨#[]⟩, .bool false, .string ⟨#[]⟩, .int .i64 0, .int .i64 0, .bool false, .bool false, .slice none 0 0] ∧ Below w.heap.size w wx)
            case first =>
             cases sh with
             | true =>
              have ⟨hy, hyl⟩ := (skip_yes (l := r3) (y := ⟨#[115, 104, 105, 102, 116, 101, 100]⟩) (by rw [hs11]))
              rw [hs11] at hy
              have f2 : w5.cell? ⟨F, 11, none⟩ = some (.bool false) := HF.out.cell 11
              have fr2 : w5.frozen? ⟨F, 11, none⟩ = false := Blk.free HF.out 11
              have HF5 : Hid (Blk (w5.setCell ⟨F, 11, none⟩ (.bool true)) F 48 #[.string nm, .int .u8 (k : Int), .bool dn, .int .u8 nu, .bool false, .bool false, .string ⟨#[]⟩, .bool false, .string ⟨#[]⟩, .int .i64 0, .int .i64 n, .bool true, .bool false, .slice none 0 0]) := HF.out.set 11 (.bool true)
              have HR5 : Hid (Blk (w5.setCell ⟨F, 11, none⟩ (.bool true)) Rb 48 #[.string ⟨#[]⟩, .int .u8 0, .bool false, .int .u8 0, .bool false, .bool false, .string ⟨#[]⟩, .bool false, .string ⟨#[]⟩, .int .i64 0, .int .i64 0, .bool false, .bool false, .slice none 0 0]) := ((Oth.set F 11 w5 (.bool true)).block Rb HRb.out.lt (by omega)).trans HRb.out
              have hb5 := hbW.setCell (p := ⟨F, 11, none⟩) hFw (.bool true)
              have HY : Hid (WS.drop (at3 + 1) = r4 ∧ at3 + 1 ≤ wl) := ⟨by dsimp only at hy; rw [hy, ← HDx.out, List.drop_drop], by have := hyl; rw [← HDx.out, List.length_drop] at this; have := HWLW.out; omega⟩
              have ea7 : IntKind.i64.wrap ((at3 : Int) + 1) = (at3 : Int) + 1 := IntWalk.i64_in _ (by omega)
              clear hy hs11
              go_wp2_with fail
              go_meet
              exact ⟨at3 + 1, by simp, by omega, HY.out.2, HY.out.1, HF5.out, HR5.out, hb5⟩
             | false =>
              have hy := skipL_no r3 ⟨#[115, 104, 105, 102, 116, 101, 100]⟩ (by rw [hs11])
              rw [hs11] at hy
              have HY : Hid (WS.drop at3 = r4) := by show _ = _; dsimp only at hy; rw [hy, HDx.out]
              clear hy hs11
              go_wp2_with fail
              go_meet
              exact ⟨at3, rfl, by omega, by omega, HY.out, HF.out, HRb.out, hbW⟩
            case rest =>
             obtain ⟨at4, rfl, hatm, hatl2, hd2, hF1, hR1, hbW1⟩ := hcut
             clear HF HRb hbW HDx
             have HF : Hid (Blk wc F 48 #[.string nm, .int .u8 (k : Int), .bool dn, .int .u8 nu, .bool false, .bool false, .string ⟨#[]⟩, .bool false, .string ⟨#[]⟩, .int .i64 0, .int .i64 n, .bool sh, .bool false, .slice none 0 0]) := hF1
             have HRb : Hid (Blk wc Rb 48 #[.string ⟨#[]⟩, .int .u8 0, .bool false, .int .u8 0, .bool false, .bool false, .string ⟨#[]⟩, .bool false, .string ⟨#[]⟩, .int .i64 0, .int .i64 0, .bool false, .bool false, .slice none 0 0]) := hR1
             have hbW := hbW1
             have HDx : Hid (WS.drop at4 = r4) := hd2
             clear hF1 hR1 hbW1 hd2 hs11
             have hv := HV.out at4 ⟨#[98, 97, 99, 107]⟩ wc (by omega) hbW
             rw [HDx.out, hs12] at hv
             go_wp2_with fail
             refine hv.mono ?_
             clear hv
             rintro _ _ ⟨rfl, rfl⟩
             go_upto_if 204 with fail
             go_cut [7] from 205 to 208 (fun av wx => ∃ at5 : Nat, av = .int .i64 (at5 : Int) ∧ at5 ≤ 9 ∧ at5 ≤ wl ∧ WS.drop at5 = r5 ∧ Blk wx F 48 #[.string nm, .int .u8 (k : Int), .bool dn, .int .u8 nu, .bool false, .bool false, .string ⟨#[]⟩, .bool false, .string ⟨#[]⟩, .int .i64 0, .int .i64 n, .bool sh, .bool bk, .slice none 0 0] ∧ Blk wx Rb 48 #[.string ⟨#[]⟩, .int .u8 0, .bool false, .int .u8 0, .bool false, .bool false, .string ⟨#[]⟩, .bool false, .string ⟨#[]⟩, .int .i64 0, .int .i64 0, .bool false, .bool false, .slice none 0 0] ∧ Below w.heap.size w wx)
             case first =>
              cases bk with
              | true =>
               have ⟨hy, hyl⟩ := (skip_yes (l := r4) (y := ⟨#[98, 97, 99, 107]⟩) (by rw [hs12]))
               rw [hs12] at hy
               have f2 : wc.cell? ⟨F, 12, none⟩ = some (.bool false) := HF.out.cell 12
               have fr2 : wc.frozen? ⟨F, 12, none⟩ = false := Blk.free HF.out 12
               have HF5 : Hid (Blk (wc.setCell ⟨F, 12, none⟩ (.bool true)) F 48 #[.string nm, .int .u8 (k : Int), .bool dn, .int .u8 nu, .bool false, .bool false, .string ⟨#[]⟩, .bool false, .string ⟨#[]⟩, .int .i64 0, .int .i64 n, .bool sh, .bool true, .slice none 0 0]) := HF.out.set 12 (.bool true)
               have HR5 : Hid (Blk (wc.setCell ⟨F, 12, none⟩ (.bool true)) Rb 48 #[.string ⟨#[]⟩, .int .u8 0, .bool false, .int .u8 0, .bool false, .bool false, .string ⟨#[]⟩, .bool false, .string ⟨#[]⟩, .int .i64 0, .int .i64 0, .bool false, .bool false, .slice none 0 0]) := ((Oth.set F 12 wc (.bool true)).block Rb HRb.out.lt (by omega)).trans HRb.out
               have hb5 := hbW.setCell (p := ⟨F, 12, none⟩) hFw (.bool true)
               have HY : Hid (WS.drop (at4 + 1) = r5 ∧ at4 + 1 ≤ wl) := ⟨by dsimp only at hy; rw [hy, ← HDx.out, List.drop_drop], by have := hyl; rw [← HDx.out, List.length_drop] at this; have := HWLW.out; omega⟩
               have ea7 : IntKind.i64.wrap ((at4 : Int) + 1) = (at4 : Int) + 1 := IntWalk.i64_in _ (by omega)
               clear hy hs12
               go_wp2_with fail
               go_meet
               exact ⟨at4 + 1, by simp, by omega, HY.out.2, HY.out.1, HF5.out, HR5.out, hb5⟩
              | false =>
               have hy := skipL_no r4 ⟨#[98, 97, 99, 107]⟩ (by rw [hs12])
               rw [hs12] at hy
               have HY : Hid (WS.drop at4 = r5) := by show _ = _; dsimp only at hy; rw [hy, HDx.out]
               clear hy hs12
               go_wp2_with fail
               go_meet
               exact ⟨at4, rfl, by omega, by omega, HY.out, HF.out, HRb.out, hbW⟩
             case rest =>
              obtain ⟨at5, rfl, hatm, hatl2, hd2, hF1, hR1, hbW1⟩ := hcut
              clear HF HRb hbW HDx
              have HF : Hid (Blk wc F 48 #[.string nm, .int .u8 (k : Int), .bool dn, .int .u8 nu, .bool false, .bool false, .string ⟨#[]⟩, .bool false, .string ⟨#[]⟩, .int .i64 0, .int .i64 n, .bool sh, .bool bk, .slice none 0 0]) := hF1
              have HRb : Hid (Blk wc Rb 48 #[.string ⟨#[]⟩, .int .u8 0, .bool false, .int .u8 0, .bool false, .bool false, .string ⟨#[]⟩, .bool false, .string ⟨#[]⟩, .int .i64 0, .int .i64 0, .bool false, .bool false, .slice none 0 0]) := hR1
              have hbW := hbW1
              have HDx : Hid (WS.drop at5 = r5) := hd2
              clear hF1 hR1 hbW1 hd2 hs12
              clear HV
              cases r5 with
              | nil =>
               have hae : at5 = wl := by have := congrArg List.length HDx.out; rw [List.length_drop] at this; have := HWLW.out; simp at *; omega
               have te : (((at5 : Nat) : Int) == (wl : Int)) = true := beq_iff_eq.2 (by omega)
               have te2 : ((at5 : Nat) == wl) = true := beq_iff_eq.2 hae
               have HG : Hid (G = some ⟨(nm), ((k : Int)), (dn), (nu), (false), (false), (⟨#[]⟩), (false), (⟨#[]⟩), (0), (n), (sh), (bk)⟩) := HGx.out
               have HAE : Hid (at5 = wl) := hae
               clear hae HGx HDx
               obtain ⟨a0, a1, a2, a3, a4, a5, a6, a7, a8, a9, a10, a11, a12, a13⟩ := Blk.c14 HF.out
               obtain ⟨b0, b1, b2, b3, b4, b5, b6, b7, b8, b9, b10, b11, b12, b13⟩ := Blk.c14 HRb.out
               obtain ⟨fz0, fz1, fz2, fz3, fz4, fz5, fz6, fz7, fz8, fz9, fz10, fz11, fz12, fz13⟩ := Blk.f14 HRb.out
               go_wp2_with fail
               have hrs := res_set HRb.out (.string nm) (.int .u8 (k : Int)) (.bool dn) (.int .u8 nu) (.bool false) (.bool false) (.string ⟨#[]⟩) (.bool false) (.string ⟨#[]⟩) (.int .i64 0) (.int .i64 n) (.bool sh) (.bool bk) (.slice none 0 0) rfl
               obtain ⟨hTF, hOF⟩ := hrs
               have hbF := hbW.trans ((hOF.below (Nat.le_of_lt HRb.out.lt)).mono hRbw)
               refine bodyPost_ret (res73 hTF rfl rfl) rfl ?_
               exact fpost_yes (o := ⟨(nm), ((k : Int)), (dn), (nu), (false), (false), (⟨#[]⟩), (false), (⟨#[]⟩), (0), (n), (sh), (bk)⟩) HG.out hbF
              | cons rq rr =>
               have hae : at5 ≠ wl := by have := congrArg List.length HDx.out; rw [List.length_drop] at this; have := HWLW.out; simp at *; omega
               have te : (((at5 : Nat) : Int) == (wl : Int)) = false := beq_eq_false_iff_ne.2 (by omega)
               have te2 : ((at5 : Nat) == wl) = false := beq_eq_false_iff_ne.2 hae
               have HG : Hid (G = none) := HGx.out
               have HAE : Hid (at5 ≠ wl) := hae
               clear hae HGx HDx
               obtain ⟨a0, a1, a2, a3, a4, a5, a6, a7, a8, a9, a10, a11, a12, a13⟩ := Blk.c14 HF.out
               obtain ⟨b0, b1, b2, b3, b4, b5, b6, b7, b8, b9, b10, b11, b12, b13⟩ := Blk.c14 HRb.out
               obtain ⟨fz0, fz1, fz2, fz3, fz4, fz5, fz6, fz7, fz8, fz9, fz10, fz11, fz12, fz13⟩ := Blk.f14 HRb.out
               go_wp2_with fail
               have hrs := res_set HRb.out (.string nm) (.int .u8 (k : Int)) (.bool dn) (.int .u8 nu) (.bool false) (.bool false) (.string ⟨#[]⟩) (.bool false) (.string ⟨#[]⟩) (.int .i64 0) (.int .i64 n) (.bool sh) (.bool bk) (.slice none 0 0) rfl
               obtain ⟨hTF, hOF⟩ := hrs
               have hbF := hbW.trans ((hOF.below (Nat.le_of_lt HRb.out.lt)).mono hRbw)
               refine bodyPost_ret (res73 hTF rfl rfl) rfl ?_
               exact fpost_no (o := ⟨(nm), ((k : Int)), (dn), (nu), (false), (false), (⟨#[]⟩), (false), (⟨#[]⟩), (0), (n), (sh), (bk)⟩) HG.out hbF
        have HGx : Hid (G = if r2.isEmpty then some ⟨(nm), ((k : Int)), (dn), (nu), (false), (false), (⟨#[]⟩), (false), (⟨#[]⟩), (0), (0), (false), (false)⟩ else none) := by
         show _ = _
         rw [HG.out]
         rw [readKL, if_neg k2, if_neg k3, if_neg k6]
         rfl
        have tk2 : ((k : Int) == 2) = false := beq_eq_false_iff_ne.2 (by omega)
        have tk3 : ((k : Int) == 3) = false := beq_eq_false_iff_ne.2 (by omega)
        have tk5 : ((k : Int) == 5) = false := beq_eq_false_iff_ne.2 (by omega)
        have tk6 : ((k : Int) == 6) = false := beq_eq_false_iff_ne.2 (by omega)
        have HDx : Hid (WS.drop at2 = r2) := HD2
        clear HG k2 k3 k6 HD2 HV
        cases r2 with
        | nil =>
         have hae : at2 = wl := by have := congrArg List.length HDx.out; rw [List.length_drop] at this; have := HWLW.out; simp at *; omega
         have te : (((at2 : Nat) : Int) == (wl : Int)) = true := beq_iff_eq.2 (by omega)
         have te2 : ((at2 : Nat) == wl) = true := beq_iff_eq.2 hae
         have HG : Hid (G = some ⟨(nm), ((k : Int)), (dn), (nu), (false), (false), (⟨#[]⟩), (false), (⟨#[]⟩), (0), (0), (false), (false)⟩) := HGx.out
         have HAE : Hid (at2 = wl) := hae
         clear hae HGx HDx
         obtain ⟨a0, a1, a2, a3, a4, a5, a6, a7, a8, a9, a10, a11, a12, a13⟩ := Blk.c14 HF.out
         obtain ⟨b0, b1, b2, b3, b4, b5, b6, b7, b8, b9, b10, b11, b12, b13⟩ := Blk.c14 HRb.out
         obtain ⟨fz0, fz1, fz2, fz3, fz4, fz5, fz6, fz7, fz8, fz9, fz10, fz11, fz12, fz13⟩ := Blk.f14 HRb.out
         go_wp2_with fail
         have hrs := res_set HRb.out (.string nm) (.int .u8 (k : Int)) (.bool dn) (.int .u8 nu) (.bool false) (.bool false) (.string ⟨#[]⟩) (.bool false) (.string ⟨#[]⟩) (.int .i64 0) (.int .i64 0) (.bool false) (.bool false) (.slice none 0 0) rfl
         obtain ⟨hTF, hOF⟩ := hrs
         have hbF := hbW.trans ((hOF.below (Nat.le_of_lt HRb.out.lt)).mono hRbw)
         refine bodyPost_ret (res73 hTF rfl rfl) rfl ?_
         exact fpost_yes (o := ⟨(nm), ((k : Int)), (dn), (nu), (false), (false), (⟨#[]⟩), (false), (⟨#[]⟩), (0), (0), (false), (false)⟩) HG.out hbF
        | cons rq rr =>
         have hae : at2 ≠ wl := by have := congrArg List.length HDx.out; rw [List.length_drop] at this; have := HWLW.out; simp at *; omega
         have te : (((at2 : Nat) : Int) == (wl : Int)) = false := beq_eq_false_iff_ne.2 (by omega)
         have te2 : ((at2 : Nat) == wl) = false := beq_eq_false_iff_ne.2 hae
         have HG : Hid (G = none) := HGx.out
         have HAE : Hid (at2 ≠ wl) := hae
         clear hae HGx HDx
         obtain ⟨a0, a1, a2, a3, a4, a5, a6, a7, a8, a9, a10, a11, a12, a13⟩ := Blk.c14 HF.out
         obtain ⟨b0, b1, b2, b3, b4, b5, b6, b7, b8, b9, b10, b11, b12, b13⟩ := Blk.c14 HRb.out
         obtain ⟨fz0, fz1, fz2, fz3, fz4, fz5, fz6, fz7, fz8, fz9, fz10, fz11, fz12, fz13⟩ := Blk.f14 HRb.out
         go_wp2_with fail
         have hrs := res_set HRb.out (.string nm) (.int .u8 (k : Int)) (.bool dn) (.int .u8 nu) (.bool false) (.bool false) (.string ⟨#[]⟩) (.bool false) (.string ⟨#[]⟩) (.int .i64 0) (.int .i64 0) (.bool false) (.bool false) (.slice none 0 0) rfl
         obtain ⟨hTF, hOF⟩ := hrs
         have hbF := hbW.trans ((hOF.below (Nat.le_of_lt HRb.out.lt)).mono hRbw)
         refine bodyPost_ret (res73 hTF rfl rfl) rfl ?_
         exact fpost_no (o := ⟨(nm), ((k : Int)), (dn), (nu), (false), (false), (⟨#[]⟩), (false), (⟨#[]⟩), (0), (0), (false), (false)⟩) HG.out hbF
end Go.Proofs.YtcbjnifoojjipaaGreatDoor
