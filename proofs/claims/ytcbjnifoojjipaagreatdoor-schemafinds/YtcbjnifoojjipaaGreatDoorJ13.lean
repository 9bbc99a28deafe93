/- Contracts and lemmas (nothing is claimed here). -/
import Derived.Test.YtcbjnifoojjipaaGreatDoorJ12
import Derived.Test.YtcbjnifoojjipaaGreatDoorSLiC
namespace Go.Proofs.YtcbjnifoojjipaaGreatDoor
open Go.RowKit Go.Vf
theorem Blk.free {W : World} {B : Nat} {t : TypeId} {cs : Array Value} (h : Blk W B t cs) (j : Nat) : W.frozen? ⟨B, j, none⟩ = false := by simp [World.frozen?, show W.heap[B]? = _ from h]
theorem Oth.then {B n : Nat} {w w2 w3 : World} (h : Oth B w w2) (hb : Below n w2 w3) (hn : w.heap.size ≤ n) : Oth B w w3 :=
  ⟨hb.os.trans h.os, hb.tape.trans h.tape, hb.output.trans h.output, Nat.le_trans h.size hb.size, fun k hk hB => (hb.block k (by omega)).trans (h.block k hk hB)⟩
set_option maxHeartbeats 1000000 in
set_option maxRecDepth 20000 in
theorem takeNumber_any (B : Nat) (num : Int) (x : ByteArray) (hxs : x.size ≤ 1000000) (r : List ByteArray) (hwl : r.length ≤ 1000000) (w : World) (h : LnAt w B num (x :: r)) :
    Calls Tryz.prog 150 #[.pointer (some ⟨B, 0, none⟩)] w fun e w' => (match parseR x.data.toList with | .ok z => e = .returned (numV z.1 (bs z.2)) ∧ LnAt w' B num r ∧ Oth B w w' | .error _ => e = lostL num ∧ Oth B w w') := by
  have htk := fun w h => take_ok B num x r hwl w h
  have hpa := fun w => parse_any x (by omega) w
  obtain ⟨R, hR⟩ : ∃ R, parseR x.data.toList = R := ⟨_, rfl⟩
  have HR : Hid (parseR x.data.toList = R) := hR
  rw [hR] at hpa ⊢
  clear hR
  go_enter Tryz.func150, Tryz.ntmps150
  go_wp2_with fail
  have hBl : B < w.heap.size := by obtain ⟨a, c, hB, _⟩ := h; exact hB.lt
  have hb0 := (Below.refl w.heap.size w).alloc (Nat.le_refl _) (.cells #[.bool false, .string ⟨#[]⟩] 44)
  have hk0 := Blk.new w 44 #[.bool false, .string ⟨#[]⟩]
  have hs0 : (w.alloc (.cells #[.bool false, .string ⟨#[]⟩] 44)).heap.size = w.heap.size + 1 := alloc_size _ _
  refine (htk _ (h.old hb0)).mono ?_
  rintro _ w2 ⟨rfl, hL, hO⟩
  clear htk h
  have hk2 : Blk w2 w.heap.size 44 #[.bool false, .string ⟨#[]⟩] := (hO.block w.heap.size (by omega) (by omega)).trans hk0
  have HO : Hid (Oth B w w2) := (Oth.of hb0).trans hO
  have HL : Hid (LnAt w2 B num r) := hL
  have hs2 : w.heap.size < w2.heap.size := by have := hO.size; omega
  clear hL hO hb0 hk0 hs0
  have HH : Hid (w.heap.size ≤ w.heap.size) := Nat.le_refl _
  obtain ⟨H, hH⟩ : ∃ H, w.heap.size = H := ⟨_, rfl⟩
  have HW : Hid (w.heap.size = H) := hH
  rw [hH] at hk2 hs2 hBl ⊢
  clear hH HH
  go_wp2_with fail
  refine (hpa _).mono ?_
  rintro _ w3 ⟨rfl, hb3⟩
  clear hpa
  have hk3 := hk2.old hb3
  have hs3 := hb3.size
  have hb4 : Below H w2 w3 := hb3.mono (Nat.le_of_lt hs2)
  clear hb3 hk2
  cases R with
  | error e =>
    have he : (e == 0) = false := by
      have := HR.out
      unfold parseR at this
      split at this
      · split at this
        · cases this
        · cases this; rfl
      · cases this; rfl
    clear HR
    have hb5 := hb4.alloc (by omega) (.cells #[.bool false, .string (bs [])] 44)
    have hL5 := HL.out.above (hb5.mono (by omega))
    have HO5 : Hid (Oth B w _) := HO.out.then hb5 (Nat.le_of_eq HW.out)
    obtain ⟨a, c, hB, hW⟩ := hL5
    have hno := lneed_no B num _ _ false rfl hB
    clear hB hW hb5 HL HO
    unfold lostL at *
    simp only [parseE, numV]
    go_wp2_with fail
    refine hno.mono ?_
    rintro _ w5 ⟨rfl, rfl⟩
    clear hno
    go_wp2_with fail
    refine ⟨rfl, ?_, HO5.out⟩
    unfold lostL; rfl
  | ok z =>
    obtain ⟨b, m⟩ := z
    clear HR
    have c0 : w3.cell? ⟨H, 0, none⟩ = some (.bool false) := hk3.cell 0
    have c1 : w3.cell? ⟨H, 1, none⟩ = some (.string ⟨#[]⟩) := hk3.cell 1
    have hyes := fun w => lneed_ok (.pointer (some ⟨B, 0, none⟩)) true w rfl
    have hb5 := ((hb4.setCell (p := ⟨H, 0, none⟩) (Nat.le_refl _) (.bool b)).setCell (p := ⟨H, 1, none⟩) (Nat.le_refl _) (.string (bs m))).alloc (by simp; omega) (.cells #[.bool b, .string (bs m)] 44)
    have f0 : w3.frozen? ⟨H, 0, none⟩ = false := hk3.free 0
    have f1 : w3.frozen? ⟨H, 1, none⟩ = false := hk3.free 1
    have HL5 : Hid (LnAt _ B num r) := HL.out.above (hb5.mono (by omega))
    have HO5 : Hid (Oth B w _) := HO.out.then hb5 (Nat.le_of_eq HW.out)
    have hk5 := ((hk3.set 0 (.bool b)).set 1 (.string (bs m))).old ((Below.refl _ _).alloc (Nat.le_refl _) (.cells #[.bool b, .string (bs m)] 44))
    have d0 := hk5.cell 0
    have d1 := hk5.cell 1
    have D : Hid (_ ∧ _) := ⟨d0, d1⟩
    clear HL HO hb5 hb4 hk3 hk5 d0 d1
    have hs4 : H < w3.heap.size := by omega
    simp only [parseE, numV]
    go_wp2_with fail
    refine (hyes _).mono ?_
    rintro _ w5 ⟨rfl, rfl⟩
    clear hyes
    go_wp2_with fail
    obtain ⟨d0, d1⟩ := D.out
    exact ⟨rfl, _, by simp [results, Tryz.results150, go_sem, d0, d1], rfl, HL5.out, HO5.out⟩
def WsOK (ws : List ByteArray) : Prop := ws.length ≤ 1000000 ∧ ∀ x ∈ ws, 0 < x.size ∧ x.size ≤ 1000000
theorem WsOK.tail {x : ByteArray} {r : List ByteArray} (h : WsOK (x :: r)) : WsOK r := by
  have h1 := h.1
  simp only [List.length_cons] at h1
  exact ⟨by omega, fun y hy => h.2 y (List.mem_cons_of_mem _ hy)⟩
theorem WsOK.skip {ws : List ByteArray} (h : WsOK ws) (y : ByteArray) : WsOK (skipL ws y).2 := by
  cases ws with
  | nil => exact h
  | cons x r =>
    rw [skipL]
    split
    · exact h.tail
    · exact h
def takeW : List ByteArray → Option (ByteArray × List ByteArray)
  | [] => none
  | x :: r => some (x, r)
def cntW : List ByteArray → Option (Int × List ByteArray)
  | [] => none
  | x :: r => match cntL x.data.toList with | some z => some (z, r) | none => none
def kindW : List ByteArray → Option (Nat × List ByteArray)
  | [] => none
  | x :: r => match kindL x with | some z => some (z, r) | none => none
def numW : List ByteArray → Option ((Bool × List UInt8) × List ByteArray)
  | [] => none
  | x :: r => match parseR x.data.toList with | .ok z => some (z, r) | .error _ => none
theorem cntW_ok {ws : List ByteArray} (h : WsOK ws) {z : Int} {r : List ByteArray} (hz : cntW ws = some (z, r)) : WsOK r := by
  cases ws with
  | nil => cases hz
  | cons x s =>
    rw [cntW] at hz
    split at hz
    · cases hz; exact h.tail
    · cases hz
theorem kindW_ok {ws : List ByteArray} (h : WsOK ws) {z : Nat} {r : List ByteArray} (hz : kindW ws = some (z, r)) : WsOK r ∧ z < 8 := by
  cases ws with
  | nil => cases hz
  | cons x s =>
    rw [kindW] at hz
    split at hz
    · rename_i z2 h2
      cases hz; exact ⟨h.tail, kindL_lt h2⟩
    · cases hz
theorem numW_ok {ws : List ByteArray} (h : WsOK ws) {z : Bool × List UInt8} {r : List ByteArray} (hz : numW ws = some (z, r)) : WsOK r := by
  cases ws with
  | nil => cases hz
  | cons x s =>
    rw [numW] at hz
    split at hz
    · cases hz; exact h.tail
    · cases hz
theorem take_ws (B : Nat) (num : Int) (ws : List ByteArray) (hws : WsOK ws) (w : World) (h : LnAt w B num ws) :
    Calls Tryz.prog 104 #[.pointer (some ⟨B, 0, none⟩)] w fun e w' => (match takeW ws with | some z => e = .returned (.string z.1) ∧ LnAt w' B num z.2 ∧ Oth B w w' | none => e = lostL num ∧ Oth B w w') := by
  cases ws with
  | nil =>
    refine (take_no B num w h).mono ?_
    rintro _ w2 ⟨rfl, rfl⟩
    exact ⟨rfl, Oth.refl _ _⟩
  | cons x r => exact take_ok B num x r hws.tail.1 w h
theorem takeCount_ws (B : Nat) (num : Int) (ws : List ByteArray) (hws : WsOK ws) (w : World) (h : LnAt w B num ws) :
    Calls Tryz.prog 79 #[.pointer (some ⟨B, 0, none⟩)] w fun e w' => (match cntW ws with | some z => e = .returned (.int .i64 z.1) ∧ LnAt w' B num z.2 ∧ Oth B w w' | none => e = lostL num ∧ Oth B w w') := by
  cases ws with
  | nil =>
    have htk := take_no B num w h
    have HO : Hid (Oth B w _) := Oth.refl B w
    clear h hws
    show Calls Tryz.prog 79 #[.pointer (some ⟨B, 0, none⟩)] w fun e w' => e = lostL num ∧ Oth B w w'
    unfold lostL at *
    go_enter Tryz.func79, Tryz.ntmps79
    go_wp2_with fail
    refine htk.mono ?_
    rintro _ w5 ⟨rfl, rfl⟩
    clear htk
    go_wp2_with fail
    exact ⟨rfl, rfl, HO.out⟩
  | cons x r =>
    have hx := hws.2 x (List.mem_cons_self ..)
    refine (takeCount_any B num x hx.1 hx.2 r hws.tail.1 w h).mono ?_
    intro e w' hp
    revert hp
    simp only [cntW]
    cases cntL x.data.toList with
    | some z => exact fun hp => hp
    | none => exact fun hp => hp
theorem takeKind_ws (B : Nat) (num : Int) (ws : List ByteArray) (hws : WsOK ws) (w : World) (h : LnAt w B num ws) :
    Calls Tryz.prog 106 #[.pointer (some ⟨B, 0, none⟩)] w fun e w' => (match kindW ws with | some z => e = .returned (.int .u8 (z.1 : Int)) ∧ LnAt w' B num z.2 ∧ Oth B w w' | none => e = lostL num ∧ Oth B w w') := by
  cases ws with
  | nil =>
    have htk := take_no B num w h
    have HO : Hid (Oth B w _) := Oth.refl B w
    clear h hws
    show Calls Tryz.prog 106 #[.pointer (some ⟨B, 0, none⟩)] w fun e w' => e = lostL num ∧ Oth B w w'
    unfold lostL at *
    go_enter Tryz.func106, Tryz.ntmps106
    go_wp2_with fail
    refine htk.mono ?_
    rintro _ w5 ⟨rfl, rfl⟩
    clear htk
    go_wp2_with fail
    exact ⟨rfl, rfl, HO.out⟩
  | cons x r =>
    have hx := hws.2 x (List.mem_cons_self ..)
    refine (takeKind_any B num x r hws.tail.1 w h).mono ?_
    intro e w' hp
    revert hp
    simp only [kindW]
    cases kindL x with
    | some z => exact fun hp => hp
    | none => exact fun hp => hp
theorem takeNumber_ws (B : Nat) (num : Int) (ws : List ByteArray) (hws : WsOK ws) (w : World) (h : LnAt w B num ws) :
    Calls Tryz.prog 150 #[.pointer (some ⟨B, 0, none⟩)] w fun e w' => (match numW ws with | some z => e = .returned (numV z.1.1 (bs z.1.2)) ∧ LnAt w' B num z.2 ∧ Oth B w w' | none => e = lostL num ∧ Oth B w w') := by
  cases ws with
  | nil =>
    have hb0 := (Below.refl w.heap.size w).alloc (Nat.le_refl _) (.cells #[.bool false, .string ⟨#[]⟩] 44)
    have htk := take_no B num _ (h.old hb0)
    have HO : Hid (Oth B w _) := Oth.of hb0
    clear hb0 h hws
    show Calls Tryz.prog 150 #[.pointer (some ⟨B, 0, none⟩)] w fun e w' => e = lostL num ∧ Oth B w w'
    unfold lostL at *
    go_enter Tryz.func150, Tryz.ntmps150
    go_wp2_with fail
    refine htk.mono ?_
    rintro _ w5 ⟨rfl, rfl⟩
    clear htk
    go_wp2_with fail
    exact ⟨rfl, rfl, HO.out⟩
  | cons x r =>
    have hx := hws.2 x (List.mem_cons_self ..)
    refine (takeNumber_any B num x hx.2 r hws.tail.1 w h).mono ?_
    intro e w' hp
    revert hp
    simp only [numW]
    cases parseR x.data.toList with
    | ok z => exact fun hp => hp
    | error _ => exact fun hp => hp
structure OthF (B F : Nat) (w w' : World) : Prop where
  os : w'.os = w.os
  tape : w'.tape = w.tape
  output : w'.output = w.output
  size : w.heap.size ≤ w'.heap.size
  block : ∀ k, k < w.heap.size → k ≠ B → k ≠ F → w'.heap[k]? = w.heap[k]?
theorem OthF.refl (B F : Nat) (w : World) : OthF B F w w := ⟨rfl, rfl, rfl, Nat.le_refl _, fun _ _ _ _ => rfl⟩
theorem OthF.of {B : Nat} {w w' : World} (F : Nat) (h : Oth B w w') : OthF B F w w' := ⟨h.os, h.tape, h.output, h.size, fun k hk h1 _ => h.block k hk h1⟩
theorem OthF.ofF {F : Nat} {w w' : World} (B : Nat) (h : Oth F w w') : OthF B F w w' := ⟨h.os, h.tape, h.output, h.size, fun k hk _ h1 => h.block k hk h1⟩
theorem OthF.trans {B F : Nat} {a b c : World} (h : OthF B F a b) (k : OthF B F b c) : OthF B F a c :=
  ⟨k.os.trans h.os, k.tape.trans h.tape, k.output.trans h.output, Nat.le_trans h.size k.size, fun i hi h1 h2 => (k.block i (Nat.lt_of_lt_of_le hi h.size) h1 h2).trans (h.block i hi h1 h2)⟩
theorem OthF.set (B F j : Nat) (w : World) (v : Value) : OthF B F w (w.setCell ⟨F, j, none⟩ v) := OthF.ofF B (Oth.set F j w v)
theorem LnAt.setF {w : World} {B F : Nat} {num : Int} {ws : List ByteArray} (h : LnAt w B num ws) (hBF : B < F) (j : Nat) (v : Value) : LnAt (w.setCell ⟨F, j, none⟩ v) B num ws :=
  h.above ((Below.refl (B + 1) w).setCell (p := ⟨F, j, none⟩) hBF v)
def FAt (w : World) (F : Nat) (o : Own) : Prop := Blk w F 48 (cellsF o none 0 0)
theorem FAt.keep {w w' : World} {B F : Nat} {o : Own} (h : FAt w F o) (hO : Oth B w w') (hBF : B < F) : FAt w' F o := (hO.block F (Blk.lt h) (by omega)).trans h
theorem FAt.most {w : World} {F : Nat} {o : Own} (h : FAt w F o) (z : Int) : FAt (w.setCell ⟨F, 9, none⟩ (.int .i64 z)) F { o with most := z } := Blk.set 9 (.int .i64 z) h
theorem FAt.bnd {w : World} {F : Nat} {o : Own} (h : FAt w F o) (z : Bool) : FAt (w.setCell ⟨F, 4, none⟩ (.bool z)) F { o with bnd := z } := Blk.set 4 (.bool z) h
theorem FAt.ln {w : World} {F : Nat} {o : Own} (h : FAt w F o) (z : Bool) : FAt (w.setCell ⟨F, 5, none⟩ (.bool z)) F { o with ln := z } := Blk.set 5 (.bool z) h
theorem FAt.lm {w : World} {F : Nat} {o : Own} (h : FAt w F o) (z : ByteArray) : FAt (w.setCell ⟨F, 6, none⟩ (.string z)) F { o with lm := z } := Blk.set 6 (.string z) h
theorem FAt.hn {w : World} {F : Nat} {o : Own} (h : FAt w F o) (z : Bool) : FAt (w.setCell ⟨F, 7, none⟩ (.bool z)) F { o with hn := z } := Blk.set 7 (.bool z) h
theorem FAt.hm {w : World} {F : Nat} {o : Own} (h : FAt w F o) (z : ByteArray) : FAt (w.setCell ⟨F, 8, none⟩ (.string z)) F { o with hm := z } := Blk.set 8 (.string z) h
theorem FAt.str {w : World} {F : Nat} {o : Own} (h : FAt w F o) (z : Int) : FAt (w.setCell ⟨F, 10, none⟩ (.int .i64 z)) F { o with str := z } := Blk.set 10 (.int .i64 z) h
theorem FAt.shf {w : World} {F : Nat} {o : Own} (h : FAt w F o) (z : Bool) : FAt (w.setCell ⟨F, 11, none⟩ (.bool z)) F { o with shf := z } := Blk.set 11 (.bool z) h
theorem FAt.bck {w : World} {F : Nat} {o : Own} (h : FAt w F o) (z : Bool) : FAt (w.setCell ⟨F, 12, none⟩ (.bool z)) F { o with bck := z } := Blk.set 12 (.bool z) h
def ReadPost (B F : Nat) (num : Int) (w : World) (R : Option (List ByteArray × Own)) (e : Ending) (w' : World) : Prop :=
  match R with
  | some z => e = .returned (.tuple #[]) ∧ LnAt w' B num z.1 ∧ FAt w' F z.2 ∧ OthF B F w w'
  | none => e = lostL num ∧ OthF B F w w'
def readMostL (ws : List ByteArray) (o : Own) : Option (List ByteArray × Own) :=
  if (skipL ws ⟨#[109, 111, 115, 116]⟩).1 then (match cntW (skipL ws ⟨#[109, 111, 115, 116]⟩).2 with | some z => some (z.2, { o with most := z.1 }) | none => none) else none
def readBoundsL (ws : List ByteArray) (o : Own) : Option (List ByteArray × Own) :=
  if (skipL ws ⟨#[102, 114, 111, 109]⟩).1 then
    (match numW (skipL ws ⟨#[102, 114, 111, 109]⟩).2 with
    | some z => if (skipL z.2 ⟨#[116, 111]⟩).1 then (match numW (skipL z.2 ⟨#[116, 111]⟩).2 with | some y => some (y.2, { o with bnd := true, ln := z.1.1, lm := bs z.1.2, hn := y.1.1, hm := bs y.1.2 }) | none => none) else none
    | none => none)
  else some (ws, o)
def readCollateL (ws : List ByteArray) (o : Own) : Option (List ByteArray × Own) :=
  if (skipL ws ⟨#[115, 116, 114, 101, 110, 103, 116, 104]⟩).1 then
    (match cntW (skipL ws ⟨#[115, 116, 114, 101, 110, 103, 116, 104]⟩).2 with
    | some z => some ((skipL (skipL z.2 ⟨#[115, 104, 105, 102, 116, 101, 100]⟩).2 ⟨#[98, 97, 99, 107]⟩).2, { o with str := z.1, shf := (skipL z.2 ⟨#[115, 104, 105, 102, 116, 101, 100]⟩).1, bck := (skipL (skipL z.2 ⟨#[115, 104, 105, 102, 116, 101, 100]⟩).2 ⟨#[98, 97, 99, 107]⟩).1 })
    | none => none)
  else none
theorem readNothing_any (p q : Value) (w : World) : Calls Tryz.prog 125 #[p, q] w fun e w' => e = .returned (.tuple #[]) ∧ w = w' := by
  go_enter Tryz.func125, Tryz.ntmps125
  go_wp2
  exact ⟨rfl, _, by simp [results, Tryz.results125], rfl, rfl⟩
set_option maxHeartbeats 2000000 in
theorem readMost_any (B F : Nat) (num : Int) (ws : List ByteArray) (o : Own) (hBF : B < F) (hws : WsOK ws) (w : World) (hL : LnAt w B num ws) (hF : FAt w F o) :
    Calls Tryz.prog 133 #[.pointer (some ⟨B, 0, none⟩), .pointer (some ⟨F, 0, none⟩)] w (ReadPost B F num w (readMostL ws o)) := by
  have hnw := needWord_any B num ws ⟨#[109, 111, 115, 116]⟩ hws.1 w hL
  obtain ⟨R, hR⟩ : ∃ R, readMostL ws o = R := ⟨_, rfl⟩
  rw [hR]
  have HR : Hid (readMostL ws o = R) := hR
  have hw2 := hws.skip ⟨#[109, 111, 115, 116]⟩
  clear hR
  go_enter Tryz.func133, Tryz.ntmps133
  go_wp2_with fail
  refine hnw.mono ?_
  clear hnw
  rintro _ w2 (⟨hs, rfl, hL2, hO2⟩ | ⟨hs, rfl, hO2⟩)
  · have hF2 := hF.keep hO2 hBF
    have htc := takeCount_ws B num _ hw2 w2 hL2
    have HO2 : Hid (OthF B F w w2) := OthF.of F hO2
    clear hL2 hO2 hL hF
    go_wp2_with fail
    refine htc.mono ?_
    clear htc
    intro e w3 hp
    cases hc : cntW (skipL ws ⟨#[109, 111, 115, 116]⟩).2 with
    | none =>
      rw [hc] at hp
      obtain ⟨rfl, hO3⟩ := hp
      have hRn : R = none := by rw [← HR.out, readMostL, if_pos hs, hc]
      subst hRn
      have HO3 : Hid (OthF B F w w3) := HO2.out.trans (OthF.of F hO3)
      clear HR hO3 hF2 HO2 hc hs
      unfold lostL
      go_wp2_with fail
      exact ⟨rfl, rfl, HO3.out⟩
    | some z =>
      rw [hc] at hp
      obtain ⟨rfl, hL3, hO3⟩ := hp
      have hRn : R = some (z.2, { o with most := z.1 }) := by rw [← HR.out, readMostL, if_pos hs, hc]
      subst hRn
      have hF3 : FAt w3 F o := hF2.keep hO3 hBF
      have c9 : w3.cell? ⟨F, 9, none⟩ = some (.int .i64 o.most) := Blk.cell hF3 9
      have f9 : w3.frozen? ⟨F, 9, none⟩ = false := Blk.free hF3 9
      have HO3 : Hid (OthF B F w _) := (HO2.out.trans (OthF.of F hO3)).trans (OthF.set B F 9 w3 (.int .i64 z.1))
      have HL3 : Hid (LnAt _ B num z.2) := hL3.setF hBF 9 (.int .i64 z.1)
      have HF3 : Hid (FAt _ F _) := hF3.most z.1
      clear HR hO3 hF2 HO2 hc hs hL3 hF3
      go_wp2_with fail
      exact ⟨rfl, _, by simp [results, Tryz.results133], rfl, HL3.out, HF3.out, HO3.out⟩
  · have hRn : R = none := by rw [← HR.out, readMostL, hs]; rfl
    subst hRn
    have HO2 : Hid (OthF B F w w2) := OthF.of F hO2
    clear HR hs hO2 hL hF
    unfold lostL
    go_wp2_with fail
    exact ⟨rfl, rfl, HO2.out⟩
end Go.Proofs.YtcbjnifoojjipaaGreatDoor
