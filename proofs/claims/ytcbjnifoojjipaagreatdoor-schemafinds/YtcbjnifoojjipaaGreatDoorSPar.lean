/- What schema.Parse does (a contract; nothing is claimed here). -/
import Derived.Test.YtcbjnifoojjipaaGreatDoorSPaa
import Derived.Test.YtcbjnifoojjipaaGreatDoorJ23
import Derived.Test.YtcbjnifoojjipaaGreatDoorJ22
import Derived.BigRegion
namespace Go.Proofs.YtcbjnifoojjipaaGreatDoor
open Go.RowKit Go.Vf
theorem res27_run {tmps : Array Value} {w : World} {C : Nat} {v0 v1 v3 : Value} (hC : Blk w C 25 #[v0, v1]) (t2 : tmps[2]?.getD undef = .pointer (some ⟨C, 0, none⟩)) (t3 : tmps[3]?.getD undef = v3) : (results Tryz.f27 tmps).run Tryz.prog w = .ok (.tuple #[.agg #[v0, v1], v3]) w := by
  have c0 : w.cell? ⟨C, 0, none⟩ = some v0 := hC.cell 0
  have c1 : w.cell? ⟨C, 1, none⟩ = some v1 := hC.cell 1
  simp [results, Tryz.results27, go_sem, t2, t3, c0, c1]
def afterS : Except Int (Int × List Fld × List Int) → Except (Int × Int × List Int) (Int × List Fld)
  | .error num => .error (110, num, [])
  | .ok q => if (chkS bndQ q.1 q.2.1).1 = 0 then (if 65536 < (prnS q.1 q.2.1).length then .error (2, 0, []) else .ok (q.1, q.2.1))
    else .error ((chkS bndQ q.1 q.2.1).1, q.2.2[(chkN bndQ q.1 q.2.1).toNat]?.getD 0, (chkS bndQ q.1 q.2.1).2)
def parseS (s : List UInt8) : Except (Int × Int × List Int) (Int × List Fld) :=
  if 65536 < s.length then .error (2, 0, []) else afterS (schemaP (1 + ((linesL s).length : Int)) (lnF 1 (linesL s)) [])
def ParPost (r : Except (Int × Int × List Int) (Int × List Fld)) (w : World) (e : Ending) (w' : World) : Prop :=
  Below w.heap.size w w' ∧ match r with
  | .error q => ∃ v, e = .returned (.tuple #[.agg #[.int .i64 0, .slice none 0 0], v]) ∧ FaultAt w' w.heap.size v q.1 q.2.1 q.2.2 .nilIface
  | .ok q => ∃ fa fc, e = .returned (.tuple #[.agg #[.int .i64 q.1, .slice fa q.2.length fc], .nilIface]) ∧ q.2.length ≤ fc ∧ FIn w' w.heap.size w'.heap.size q.2 fa ∧ FT w' w.heap.size none q.2 fa fc
theorem zero_fault {w wA : World} {C : Nat} {v0 v1 : Value} {code at' : Int} (hC : Blk wA C 25 #[v0, v1]) (hb : Below w.heap.size w wA) (hCw : w.heap.size ≤ C) {wE : World} (hE : wE = ((wA.setCell ⟨C, 0, none⟩ (.int .i64 0)).setCell ⟨C, 1, none⟩ (.slice none 0 0)).alloc (.cells #[.int .i64 code, .int .i64 at', .slice none 0 0, .nilIface] 75)) :
    Blk wE C 25 #[.int .i64 0, .slice none 0 0] ∧ Below w.heap.size w wE ∧ FaultAt wE w.heap.size (.iface 71 (.pointer (some ⟨wA.heap.size, 0, none⟩))) code at' [] .nilIface := by
  subst hE
  have hz : ((wA.setCell ⟨C, 0, none⟩ (.int .i64 0)).setCell ⟨C, 1, none⟩ (.slice none 0 0)).heap.size = wA.heap.size := by simp [World.setCell]
  have hC2 := (hC.set 0 (.int .i64 0)).set 1 (.slice none 0 0)
  have hb2 := (hb.setCell (p := ⟨C, 0, none⟩) hCw (.int .i64 0)).setCell (p := ⟨C, 1, none⟩) hCw (.slice none 0 0)
  have hN := Blk.new ((wA.setCell ⟨C, 0, none⟩ (.int .i64 0)).setCell ⟨C, 1, none⟩ (.slice none 0 0)) 75 #[.int .i64 code, .int .i64 at', .slice none 0 0, .nilIface]
  have hbN := (Below.refl _ ((wA.setCell ⟨C, 0, none⟩ (.int .i64 0)).setCell ⟨C, 1, none⟩ (.slice none 0 0))).alloc (Nat.le_refl _) (.cells #[.int .i64 code, .int .i64 at', .slice none 0 0, .nilIface] 75)
  rw [hz] at hN
  exact ⟨hC2.old hbN, hb2.trans (hbN.mono hb2.size), _, _, _, rfl, hb.size, hN, IOwn.nil _ _, by simp [Value.ownBlock]⟩
theorem path_fault {w wA : World} {C : Nat} {v0 v1 : Value} {code at' : Int} {P : List Int} {pa : Option Addr} {pc base : Nat} (hC : Blk wA C 25 #[v0, v1]) (hb : Below w.heap.size w wA) (hCw : w.heap.size ≤ C) (hP : IOwn wA base (.slice pa P.length pc) P) (hwb : w.heap.size ≤ base) (hCb : C < base) {wE : World} (hE : wE = ((wA.setCell ⟨C, 0, none⟩ (.int .i64 0)).setCell ⟨C, 1, none⟩ (.slice none 0 0)).alloc (.cells #[.int .i64 code, .int .i64 at', .slice pa P.length pc, .nilIface] 75)) :
    Blk wE C 25 #[.int .i64 0, .slice none 0 0] ∧ Below w.heap.size w wE ∧ FaultAt wE w.heap.size (.iface 71 (.pointer (some ⟨wA.heap.size, 0, none⟩))) code at' P .nilIface := by
  subst hE
  have hz : ((wA.setCell ⟨C, 0, none⟩ (.int .i64 0)).setCell ⟨C, 1, none⟩ (.slice none 0 0)).heap.size = wA.heap.size := by simp [World.setCell]
  have hC2 := (hC.set 0 (.int .i64 0)).set 1 (.slice none 0 0)
  have hb2 := (hb.setCell (p := ⟨C, 0, none⟩) hCw (.int .i64 0)).setCell (p := ⟨C, 1, none⟩) hCw (.slice none 0 0)
  have hP2 : IOwn ((wA.setCell ⟨C, 0, none⟩ (.int .i64 0)).setCell ⟨C, 1, none⟩ (.slice none 0 0)) base (.slice pa P.length pc) P := own_setCell (own_setCell hP (by exact hCb) _) (by exact hCb) _
  have hN := Blk.new ((wA.setCell ⟨C, 0, none⟩ (.int .i64 0)).setCell ⟨C, 1, none⟩ (.slice none 0 0)) 75 #[.int .i64 code, .int .i64 at', .slice pa P.length pc, .nilIface]
  have hbN := (Below.refl _ ((wA.setCell ⟨C, 0, none⟩ (.int .i64 0)).setCell ⟨C, 1, none⟩ (.slice none 0 0))).alloc (Nat.le_refl _) (.cells #[.int .i64 code, .int .i64 at', .slice pa P.length pc, .nilIface] 75)
  rw [hz] at hN
  refine ⟨hC2.old hbN, hb2.trans (hbN.mono hb2.size), _, _, _, rfl, hb.size, hN, IOwn.mono (own_after hP2 hbN) hwb, fun e => ?_⟩
  obtain ⟨_, cs, f, hh⟩ := own_ge hP e.symm
  have := (Array.getElem?_eq_some_iff.1 hh).1
  omega
structure ReadOk (q : Int × List Fld × List Int) : Prop where
  fit : ∀ x ∈ q.2.1, FitsF 17179869184 x
  len : q.2.1.length ≤ 17179869184
  l0 : -9223372036854775808 ≤ q.1
  l1 : q.1 ≤ 9223372036854775807
  cnt : (chkS bndQ q.1 q.2.1).1 ≠ 0 → ∃ k : Nat, chkN bndQ q.1 q.2.1 = (k : Int) ∧ k < q.2.2.length
  nl : q.2.2.length ≤ 1000000
  good : (chkS bndQ q.1 q.2.1).1 = 0 → (∀ x ∈ q.2.1, OkP x) ∧ (prnS q.1 q.2.1).length ≤ 400000
set_option maxHeartbeats 8000000 in
set_option maxRecDepth 20000 in
theorem parse_s (s : List UInt8) (hW : s.length ≤ 65536 → ∀ l ∈ lnF 1 (linesL s), WsOK l.2) (hA : s.length ≤ 65536 → ∀ q, schemaP (1 + ((linesL s).length : Int)) (lnF 1 (linesL s)) [] = .ok q → ReadOk q) (w : World) (hE : Env w) :
    Calls Tryz.prog 27 #[.string (bs s)] w (ParPost (parseS s) w) := by
  obtain ⟨G, hG⟩ : ∃ G, parseS s = G := ⟨_, rfl⟩
  rw [hG]
  have HG : Hid (G = parseS s) := hG.symm
  clear hG
  have hb0 := (Below.refl w.heap.size w).alloc (Nat.le_refl _) (.cells #[.int .i64 0, .slice none 0 0] 25)
  have hC0 := Blk.new w 25 #[.int .i64 0, .slice none 0 0]
  have hE0 := hE.old hb0
  have hsz := bs_size s
  have hC0l := hC0.lt
  have HE : Hid (Env w) := hE
  clear hE
  by_cases hlong : 65536 < s.length
  · have hGq : Hid (G = .error (2, 0, [])) := by show _ = _; rw [HG.out, parseS, if_pos hlong]
    have t1 : decide ((65536 : Int) < ((bs s).size : Int)) = true := decide_eq_true (by rw [hsz]; omega)
    have t2 : decide (65536 < (bs s).size) = true := decide_eq_true (by rw [hsz]; exact hlong)
    clear HG hW hA hlong hsz
    go_enter Tryz.func27, Tryz.ntmps27
    go_upto_region 1 with fail
    generalize w.alloc (.cells #[.int .i64 0, .slice none 0 0] 25) = wA at *
    have c0 : wA.cell? ⟨w.heap.size, 0, none⟩ = some (.int .i64 0) := hC0.cell 0
    have c1 : wA.cell? ⟨w.heap.size, 1, none⟩ = some (.slice none 0 0) := hC0.cell 1
    have f0 : wA.frozen? ⟨w.heap.size, 0, none⟩ = false := hC0.frozen 0
    have f1 : wA.frozen? ⟨w.heap.size, 1, none⟩ = false := hC0.frozen 1
    have HC0 : Hid (Blk wA w.heap.size 25 #[.int .i64 0, .slice none 0 0]) := hC0
    clear hC0
    go_wp2_with fail
    have hF := zero_fault (code := 2) (at' := 0) HC0.out hb0 (Nat.le_refl _) rfl
    refine bodyPost_ret (res27_run (C := w.heap.size) (v0 := .int .i64 0) (v1 := .slice none 0 0) hF.1 rfl rfl) rfl ⟨hF.2.1, ?_⟩
    rw [hGq.out]
    exact ⟨_, rfl, hF.2.2⟩
  · have hs6 : s.length ≤ 65536 := by omega
    have t1 : decide ((65536 : Int) < ((bs s).size : Int)) = false := decide_eq_false (by rw [hsz]; omega)
    have t2 : decide (65536 < (bs s).size) = false := decide_eq_false (by rw [hsz]; exact hlong)
    have hWs := hW hs6
    have HA : Hid (∀ q, schemaP (1 + ((linesL s).length : Int)) (lnF 1 (linesL s)) [] = .ok q → ReadOk q) := hA hs6
    have hll : (lnF 1 (linesL s)).length ≤ 999990 := by have := lnF_len 1 (linesL s); have := (linesL_len s).1; omega
    have HG2 : Hid (G = afterS (schemaP (1 + ((linesL s).length : Int)) (lnF 1 (linesL s)) [])) := by show _ = _; rw [HG.out, parseS, if_neg hlong]
    clear HG hW hA hlong hsz
    have hnr := newReader_any s hs6 _ hE0
    go_enter Tryz.func27, Tryz.ntmps27
    go_upto_region 1 with fail
    generalize w.alloc (.cells #[.int .i64 0, .slice none 0 0] 25) = wA at *
    generalize (linesL s).length = NL at *
    generalize lnF 1 (linesL s) = LS at *
    go_wp2_with fail
    refine hnr.mono ?_
    clear hnr
    rintro _ w1 ⟨R, rfl, hRA, hb1, hrd⟩
    have hC1 := hC0.old hb1
    have hE1 := hE0.old hb1
    have hb01 := hb0.trans (hb1.mono hb0.size)
    obtain ⟨K, hKd⟩ : ∃ K, w1.heap.size = K := ⟨_, rfl⟩
    rw [hKd] at hrd
    have hz1 := hb1.size
    have hz0 := hb0.size
    go_upto_region 4 with fail
    have hb2 := (Below.refl w1.heap.size w1).alloc (Nat.le_refl _) (.cells #[.pointer (some ⟨R, 0, none⟩)] 102)
    have hRb2 := Blk.new w1 102 #[.pointer (some ⟨R, 0, none⟩)]
    have hs2 := alloc_size w1 (.cells #[.pointer (some ⟨R, 0, none⟩)] 102)
    rw [hKd] at hRb2 hs2
    have hC2 := hC1.old hb2
    have hE2 := hE1.old hb2
    have hrd2 := hrd.kp (w' := w1.alloc (.cells #[.pointer (some ⟨R, 0, none⟩)] 102)) hb2.size (fun k hk => hb2.block k (by omega))
    have hb02 := hb01.trans (hb2.mono (by omega))
    generalize w1.alloc (.cells #[.pointer (some ⟨R, 0, none⟩)] 102) = w2 at *
    have HS2 : Hid (w2.heap.size = K + 1) := hs2
    clear hs2
    go_upto_region 5 with fail
    have hb3 := (Below.refl w2.heap.size w2).alloc (Nat.le_refl _) (.cells #[.int .i64 0, .slice none 0 0] 25)
    have hS3 := Blk.new w2 25 #[.int .i64 0, .slice none 0 0]
    have hs3 := alloc_size w2 (.cells #[.int .i64 0, .slice none 0 0] 25)
    have hs2 := HS2.out
    rw [hs2] at hS3 hs3 ⊢
    have hC3 := hC2.old hb3
    have hE3 := hE2.old hb3
    have hRb3 := hRb2.old hb3
    have hrd3 := hrd2.kp (w' := w2.alloc (.cells #[.int .i64 0, .slice none 0 0] 25)) hb3.size (fun k hk => hb3.block k (by omega))
    have hb03 := hb02.trans (hb3.mono (by omega))
    generalize w2.alloc (.cells #[.int .i64 0, .slice none 0 0] 25) = w3 at *
    have hCR : w.heap.size ≠ R := by omega
    have hCK : w.heap.size < K := by omega
    have hRw : w.heap.size ≤ R := by omega
    have hKw : w.heap.size ≤ K := by omega
    have hRK := hrd3.hR
    have hgv := givenUp_read K R K (K + 1) (1 + (NL : Int)) LS hWs hll w3 hRb3 hS3 (by omega) hrd3
    obtain ⟨SP, hSP⟩ : ∃ SP, schemaP (1 + (NL : Int)) LS [] = SP := ⟨_, rfl⟩
    rw [hSP] at hgv
    have HSP : Hid (G = afterS SP) := by show _ = _; rw [← hSP]; exact HG2.out
    have HA2 : Hid (∀ q, SP = .ok q → ReadOk q) := by rw [← hSP]; exact HA.out
    have HS3 : Hid (w3.heap.size = K + 1 + 1) := hs3
    clear HG2 HA hSP hC2 hE2 hRb2 hrd2 hb02 hb3 hs3 hs2 hrd3 hS3 hC1 hE1 hb1 hrd hC0 hE0 hb01 hb2 hKd HS2 hWs hll
    have hmf : ∀ (fn : Fn) (first cap : Array Value) (w : World), (Instr.makeFunc fn first cap).run Tryz.prog w = .ok (.func fn first cap) w := fun _ _ _ _ => rfl
    go_wp2_with fail
    refine hgv.mono ?_
    clear hgv
    intro e w4 hp
    cases SP with
    | error num =>
      have HGq : Hid (G = .error (110, num, [])) := HSP.out
      clear HSP HA2
      obtain ⟨L, rfl, hL, hg⟩ := hp
      have hs3 := HS3.out
      have hC4 : Blk w4 w.heap.size 25 #[.int .i64 0, .slice none 0 0] := (hg.block _ hC3.lt (by omega) (by simp)).trans hC3
      have hb04 : Below w.heap.size w w4 := ⟨hg.os.trans hb03.os, hg.tape.trans hb03.tape, hg.output.trans hb03.output, Nat.le_trans hb03.size hg.size, fun k hk => (hg.block k (by have := hb03.size; omega) (by omega) (by simp)).trans (hb03.block k hk)⟩
      have m0 : w4.cell? ⟨L, 0, none⟩ = some (.int .i64 110) := hL.cell 0
      have m1 : w4.cell? ⟨L, 1, none⟩ = some (.int .i64 num) := hL.cell 1
      have hLl := hL.lt
      have hCl := hC4.lt
      have hLC : w.heap.size ≠ L := by
        rintro rfl
        have h2 := hC4.symm.trans hL
        cases h2
      have c0 : w4.cell? ⟨w.heap.size, 0, none⟩ = some (.int .i64 0) := hC4.cell 0
      have c1 : w4.cell? ⟨w.heap.size, 1, none⟩ = some (.slice none 0 0) := hC4.cell 1
      have f0 : w4.frozen? ⟨w.heap.size, 0, none⟩ = false := hC4.frozen 0
      have f1 : w4.frozen? ⟨w.heap.size, 1, none⟩ = false := hC4.frozen 1
      have HC4 : Hid (Blk w4 w.heap.size 25 #[.int .i64 0, .slice none 0 0]) := hC4
      have hz4 := hb04.size
      clear hC4 hL hg hC3 hRb3 hb03 hE3 hs3
      go_upto_region 7 with fail
      go_region
      all_goals
        go_wp2_with fail
        have hF := zero_fault (code := 110) (at' := num) HC4.out hb04 (Nat.le_refl _) rfl
        refine bodyPost_ret (res27_run (C := w.heap.size) (v0 := .int .i64 0) (v1 := .slice none 0 0) hF.1 rfl rfl) rfl ⟨hF.2.1.drew, ?_⟩
        rw [HGq.out]
        exact ⟨_, rfl, hF.2.2⟩
    | ok q =>
      obtain ⟨lim, fs, ns⟩ := q
      have hro := HA2.out _ rfl
      obtain ⟨fa, fc, a, c, rfl, hra⟩ := hp
      have hs3 := HS3.out
      have hsch : Blk w4 (K + 1) 25 #[.int .i64 lim, .slice fa fs.length fc] := hra.sch
      have hC4 : Blk w4 w.heap.size 25 #[.int .i64 0, .slice none 0 0] := (hra.block _ hC3.lt (by omega) (by omega)).trans hC3
      have hRb4 : Blk w4 K 102 #[.pointer (some ⟨R, 0, none⟩)] := (hra.block K hRb3.lt (by omega) (by omega)).trans hRb3
      have hb04 : Below w.heap.size w w4 := ⟨hra.os.trans hb03.os, hra.tape.trans hb03.tape, hra.output.trans hb03.output, Nat.le_trans hb03.size hra.size, fun k hk => (hra.block k (by have := hb03.size; omega) (by omega) (by omega)).trans (hb03.block k hk)⟩
      have hE4 : Env w4 := HE.out.old hb04
      have hfin : FIn w4 w3.heap.size w4.heap.size fs fa := hra.ft.fin
      have hck := check_post lim fs fa fc w3.heap.size w4.heap.size w4 hra.cap hro.fit hro.len (Nat.le_refl _) hfin
      have s0 : w4.cell? ⟨K + 1, 0, none⟩ = some (.int .i64 lim) := hsch.cell 0
      have s1 : w4.cell? ⟨K + 1, 1, none⟩ = some (.slice fa fs.length fc) := hsch.cell 1
      obtain ⟨rc, rp, hrc⟩ : ∃ rc rp, chkS bndQ lim fs = (rc, rp) := ⟨_, _, rfl⟩
      obtain ⟨mm, hmm⟩ : ∃ mm, chkN bndQ lim fs = mm := ⟨_, rfl⟩
      rw [hrc, hmm] at hck
      have HGq : Hid (G = if rc = 0 then (if 65536 < (prnS lim fs).length then .error (2, 0, []) else .ok (lim, fs)) else .error (rc, ns[mm.toNat]?.getD 0, rp)) := by
        show _ = _
        rw [HSP.out, afterS]
        simp only [hrc, hmm]
      have HRO : Hid (ReadOk (lim, fs, ns)) := hro
      have HRA : Hid (ReadAt K R (K + 1) (1 + (NL : Int)) w3 w4 (lim, fs, ns) fa fc a c) := hra
      have HRC : Hid (chkS bndQ lim fs = (rc, rp)) := hrc
      have HMM : Hid (chkN bndQ lim fs = mm) := hmm
      clear HSP HA2 hro hra hrc hmm hC3 hRb3 hb03 hE3 hs3 hsch
      unfold CheckPost at hck
      go_wp2_with fail
      refine hck.mono ?_
      clear hck
      rintro e w5 ⟨hb5, ⟨hq0, rfl⟩ | ⟨hq1, L, pa, pc, m, rfl, hmm, hL, hown⟩⟩
      · have hrc0 : rc = 0 := hq0
        obtain ⟨hok, hT⟩ := HRO.out.good (by rw [HRC.out]; exact hrc0)
        have hb05 := hb04.trans (hb5.mono hb04.size)
        have hE5 := hE4.old hb5
        have hf5 : FIn w5 w3.heap.size w4.heap.size fs fa := hfin.keep hb5 (Nat.le_refl _)
        have hp := printed_any lim HRO.out.l0 HRO.out.l1 fs HRO.out.len hok HRO.out.fit hT fa fc w3.heap.size w4.heap.size w5 hb5.size hf5 hE5
        have hsch5 : Blk w5 (K + 1) 25 #[.int .i64 lim, .slice fa fs.length fc] := HRA.out.sch.old hb5
        have hC5 := hC4.old hb5
        have s50 : w5.cell? ⟨K + 1, 0, none⟩ = some (.int .i64 lim) := hsch5.cell 0
        have s51 : w5.cell? ⟨K + 1, 1, none⟩ = some (.slice fa fs.length fc) := hsch5.cell 1
        have HGq2 : Hid (G = if 65536 < (prnS lim fs).length then .error (2, 0, []) else .ok (lim, fs)) := by show _ = _; rw [HGq.out, if_pos hrc0]
        have hTz : (bs (prnS lim fs)).size = (prnS lim fs).length := bs_size _
        generalize prnS lim fs = T at *
        clear HGq hq0 hrc0 hok HRC HMM s0 s1 hfin
        go_wp2_with fail
        refine hp.mono ?_
        clear hp
        rintro _ w6 ⟨rfl, hb6⟩
        have hb06 := hb05.trans (hb6.mono hb05.size)
        have hC6 := hC5.old hb6
        have hsch6 := hsch5.old hb6
        have hf6 := hf5.keep hb6 hb5.size
        have c0 : w6.cell? ⟨w.heap.size, 0, none⟩ = some (.int .i64 0) := hC6.cell 0
        have c1 : w6.cell? ⟨w.heap.size, 1, none⟩ = some (.slice none 0 0) := hC6.cell 1
        have f0 : w6.frozen? ⟨w.heap.size, 0, none⟩ = false := hC6.frozen 0
        have f1 : w6.frozen? ⟨w.heap.size, 1, none⟩ = false := hC6.frozen 1
        have s60 : w6.cell? ⟨K + 1, 0, none⟩ = some (.int .i64 lim) := hsch6.cell 0
        have s61 : w6.cell? ⟨K + 1, 1, none⟩ = some (.slice fa fs.length fc) := hsch6.cell 1
        have HC6 : Hid (Blk w6 w.heap.size 25 #[.int .i64 0, .slice none 0 0]) := hC6
        have hsl6 := hsch6.lt
        have hCl6 : w.heap.size < w6.heap.size := HC6.out.lt
        clear hC6 hC5 hC4 hsch5 hsch6 s50 s51 hE4 hE5 hRb4
        by_cases hlg : 65536 < T.length
        · have t3 : decide ((65536 : Int) < ((bs T).size : Int)) = true := decide_eq_true (by rw [hTz]; omega)
          have t4 : decide (65536 < (bs T).size) = true := decide_eq_true (by rw [hTz]; exact hlg)
          have hGq : Hid (G = .error (2, 0, [])) := by show _ = _; rw [HGq2.out, if_pos hlg]
          clear hTz hlg hT HGq2
          go_wp2_with fail
          have hF := zero_fault (code := 2) (at' := 0) HC6.out hb06 (Nat.le_refl _) rfl
          refine bodyPost_ret (res27_run (C := w.heap.size) (v0 := .int .i64 0) (v1 := .slice none 0 0) hF.1 rfl rfl) rfl ⟨hF.2.1, ?_⟩
          rw [hGq.out]
          exact ⟨_, rfl, hF.2.2⟩
        · have t3 : decide ((65536 : Int) < ((bs T).size : Int)) = false := decide_eq_false (by rw [hTz]; omega)
          have t4 : decide (65536 < (bs T).size) = false := decide_eq_false (by rw [hTz]; exact hlg)
          have hGq : Hid (G = .ok (lim, fs)) := by show _ = _; rw [HGq2.out, if_neg hlg]
          clear hTz hlg hT HGq2
          go_wp2_with fail
          have hC7 := (HC6.out.set 0 (.int .i64 lim)).set 1 (.slice fa fs.length fc)
          have hO := (Oth.set w.heap.size 0 w6 (.int .i64 lim)).trans (Oth.set w.heap.size 1 _ (.slice fa fs.length fc))
          have hs3 := HS3.out
          refine bodyPost_ret (res27_run (C := w.heap.size) (v0 := .int .i64 lim) (v1 := .slice fa fs.length fc) hC7 rfl rfl) rfl ⟨(hb06.setCell (p := ⟨w.heap.size, 0, none⟩) (Nat.le_refl _) _).setCell (p := ⟨w.heap.size, 1, none⟩) (Nat.le_refl _) _, ?_⟩
          rw [hGq.out]
          have hz5 := hb5.size
          have hz6 := hb6.size
          have hft : FT ((w6.setCell ⟨w.heap.size, 0, none⟩ (.int .i64 lim)).setCell ⟨w.heap.size, 1, none⟩ (.slice fa fs.length fc)) w.heap.size none fs fa fc := ((HRA.out.ft.keep (w' := w6) fun b _ _ hb => (hb6.block b (by have := hb.lt; omega)).trans (hb5.block b hb.lt)).keep (w' := (w6.setCell ⟨w.heap.size, 0, none⟩ (.int .i64 lim)).setCell ⟨w.heap.size, 1, none⟩ (.slice fa fs.length fc)) fun b h1 _ hb => hO.block b hb.lt (by omega)).mono (by omega) (fun _ _ _ _ => by simp)
          refine ⟨fa, fc, rfl, HRA.out.cap, ?_, hft⟩
          have hf7 := hf6.keep' (w' := (w6.setCell ⟨w.heap.size, 0, none⟩ (.int .i64 lim)).setCell ⟨w.heap.size, 1, none⟩ (.slice fa fs.length fc)) (fun b h1 h2 => hO.block b (by omega) (by omega))
          exact hf7.mono (by have := hO.size; omega) (by omega)
      · have hrc1 : rc ≠ 0 := hq1
        obtain ⟨k, hk, hkl⟩ := HRO.out.cnt (by rw [HRC.out]; exact hrc1)
        have hkl : k < ns.length := hkl
        have hk2 : mm = (k : Int) := by rw [← HMM.out]; exact hk
        have hb05 := hb04.trans (hb5.mono hb04.size)
        have hGq : Hid (G = .error (rc, ns[k]?.getD 0, rp)) := by show _ = _; rw [HGq.out, if_neg hrc1, hk2, Int.toNat_natCast]
        have hC5 := hC4.old hb5
        have hRb5 := hRb4.old hb5
        obtain ⟨la, lc, hRB4, _⟩ := HRA.out.rd.row
        have hRB5 := hRB4.old hb5
        have hown4 : IOwn w5 K (.slice a ns.length c) ns := own_after HRA.out.own hb5
        obtain ⟨g, hag, hgl, hgc⟩ : ∃ g, a = some ⟨g, 0, none⟩ ∧ g < w5.heap.size ∧ w5.cell? ⟨g, k, none⟩ = some (.int .i64 (ns[k]?.getD 0)) := by
          rcases hown4.form with ⟨_, hbad⟩ | ⟨g, cap, he, _, hlt, _, hc, _⟩
          · rw [hbad] at hkl; simp at hkl
          · simp only [Value.slice.injEq] at he
            exact ⟨g, he.1, hlt, hc k hkl⟩
        have hCg : w.heap.size ≠ g := by
          rintro rfl
          obtain ⟨h1, _⟩ := own_ge hown4 (j := w.heap.size) (by rw [hag]; rfl)
          omega
        have hLC : w.heap.size ≠ L := by
          rintro rfl
          have h2 := hC5.symm.trans hL
          cases h2
        subst hag
        rw [hmm, hk2] at hL
        have hLc : w5.cell? ⟨L, 0, none⟩ = some (.int .i64 rc) ∧ w5.cell? ⟨L, 2, none⟩ = some (.slice pa rp.length pc) ∧ w5.cell? ⟨L, 3, none⟩ = some (.int .i64 (k : Int)) := ⟨hL.cell 0, hL.cell 2, hL.cell 3⟩
        obtain ⟨m0, m2, m3⟩ := hLc
        have k0 : w5.cell? ⟨K, 0, none⟩ = some (.pointer (some ⟨R, 0, none⟩)) := hRb5.cell 0
        have r2 : w5.cell? ⟨R, 2, none⟩ = some (.slice (some ⟨g, 0, none⟩) ns.length c) := hRB5.cell 2
        have c0 : w5.cell? ⟨w.heap.size, 0, none⟩ = some (.int .i64 0) := hC5.cell 0
        have c1 : w5.cell? ⟨w.heap.size, 1, none⟩ = some (.slice none 0 0) := hC5.cell 1
        have f0 : w5.frozen? ⟨w.heap.size, 0, none⟩ = false := hC5.frozen 0
        have f1 : w5.frozen? ⟨w.heap.size, 1, none⟩ = false := hC5.frozen 1
        have HC5 : Hid (Blk w5 w.heap.size 25 #[.int .i64 0, .slice none 0 0]) := hC5
        have hCl5 : w.heap.size < w5.heap.size := hC5.lt
        have hLl5 : L < w5.heap.size := hL.lt
        have hKl5 : K < w5.heap.size := hRb5.lt
        have hRl5 : R < w5.heap.size := hRB5.lt
        have HP : Hid (IOwn w5 w4.heap.size (.slice pa rp.length pc) rp) := hown
        have HW4 : Hid (w.heap.size < w4.heap.size) := hC4.lt
        have hCK2 : w.heap.size ≠ K := by omega
        have hkl2 : (k : Int) < (ns.length : Int) := by omega
        obtain ⟨nl, hnl⟩ : ∃ nl, ns.length = nl := ⟨_, rfl⟩
        have hnm : nl ≤ 1000000 := by rw [← hnl]; exact HRO.out.nl
        rw [hnl] at r2 hkl hkl2
        generalize ns[k]?.getD 0 = NK at *
        clear hC5 hC4 hRb5 hRB5 hRB4 hL hown hown4 HGq hq1 hrc1 hk hk2 hmm HRC HMM HRA HRO s0 s1 hfin hE4 hRb4 hnl
        go_upto_region 10 with fail
        go_region
        all_goals
          go_wp2_with fail
          have hF := path_fault (code := rc) (at' := NK) HC5.out hb05 (Nat.le_refl _) HP.out (Nat.le_of_lt HW4.out) HW4.out rfl
          refine bodyPost_ret (res27_run (C := w.heap.size) (v0 := .int .i64 0) (v1 := .slice none 0 0) hF.1 rfl rfl) rfl ⟨hF.2.1.drew, ?_⟩
          rw [hGq.out]
          exact ⟨_, rfl, hF.2.2⟩
end Go.Proofs.YtcbjnifoojjipaaGreatDoor
