/- What the methods of schema's line do (contracts; nothing is claimed here). -/
import Derived.Test.YtcbjnifoojjipaaGreatDoorSSay
import Derived.Test.YtcbjnifoojjipaaGreatDoorFTou
namespace Go.Proofs.YtcbjnifoojjipaaGreatDoor
open Go.RowKit Go.Vf
structure Oth (B : Nat) (w w' : World) : Prop where
  os : w'.os = w.os
  tape : w'.tape = w.tape
  output : w'.output = w.output
  size : w.heap.size ≤ w'.heap.size
  block : ∀ k, k < w.heap.size → k ≠ B → w'.heap[k]? = w.heap[k]?
theorem Oth.refl (B : Nat) (w : World) : Oth B w w := ⟨rfl, rfl, rfl, Nat.le_refl _, fun _ _ _ => rfl⟩
theorem Oth.trans {B : Nat} {a b c : World} (h : Oth B a b) (k : Oth B b c) : Oth B a c :=
  ⟨k.os.trans h.os, k.tape.trans h.tape, k.output.trans h.output, Nat.le_trans h.size k.size, fun i hi hB => (k.block i (Nat.lt_of_lt_of_le hi h.size) hB).trans (h.block i hi hB)⟩
theorem Oth.of {B : Nat} {w w' : World} (h : Below w.heap.size w w') : Oth B w w' := ⟨h.os, h.tape, h.output, h.size, fun k hk _ => h.block k hk⟩
theorem Oth.set (B j : Nat) (w : World) (v : Value) : Oth B w (w.setCell ⟨B, j, none⟩ v) := by
  have h := (Below.refl 0 w).setCell (p := ⟨B, j, none⟩) (Nat.zero_le _) v
  exact ⟨h.os, h.tape, h.output, h.size, fun k _ hB => Below.heap_setCell w ⟨B, j, none⟩ v k hB⟩
theorem Oth.below {B : Nat} {w w' : World} (h : Oth B w w') (hB : B ≤ w.heap.size) : Below B w w' := ⟨h.os, h.tape, h.output, h.size, fun k hk => h.block k (by omega) (by omega)⟩
def WAt (w : World) (B : Nat) (a : Option Addr) (c : Nat) (ws : List ByteArray) : Prop := ws.length ≤ c ∧ ∀ j (hj : j < ws.length), ∃ b off, a = some ⟨b, off, none⟩ ∧ b < B ∧ w.cell? ⟨b, off + j, none⟩ = some (.string ws[j])
theorem WAt.keep {w w' : World} {B : Nat} {a : Option Addr} {c : Nat} {ws : List ByteArray} (h : WAt w B a c ws) (hk : Oth B w w') : WAt w' B a c ws := by
  refine ⟨h.1, fun j hj => ?_⟩
  obtain ⟨b, off, h1, h2, h3⟩ := h.2 j hj
  have hl : b < w.heap.size := World.block_lt_of_cell? w _ h3
  exact ⟨b, off, h1, h2, (cell_of_block (hk.block b hl (Nat.ne_of_lt h2)) _).trans h3⟩
theorem WAt.tail {w : World} {B b off c : Nat} {x : ByteArray} {ws : List ByteArray} (h : WAt w B (some ⟨b, off, none⟩) c (x :: ws)) {q : Option Addr} (hq : (if c = 1 then some (⟨b, off, none⟩ : Addr) else some ⟨b, off + 1, none⟩) = q) : WAt w B q (c - 1) ws := by
  have h1 := h.1
  simp only [List.length_cons] at h1
  refine ⟨by omega, fun j hj => ?_⟩
  obtain ⟨b', off', e, h2, h3⟩ := h.2 (j + 1) (by simp only [List.length_cons]; omega)
  cases e
  rw [if_neg (by omega)] at hq
  exact ⟨b, off + 1, hq.symm, h2, by rw [show off + 1 + j = off + (j + 1) by omega]; simpa using h3⟩
def LnAt (w : World) (B : Nat) (num : Int) (ws : List ByteArray) : Prop := ∃ a c, Blk w B 139 #[.int .i64 num, .slice a ws.length c] ∧ WAt w B a c ws
def lostL (num : Int) : Ending := .panicked [{ v := .iface 73 (.agg #[.int .i64 110, .int .i64 num, .slice none 0 0, .int .i64 0]), recovered := false }]
theorem lneed_ok (p : Value) (h : Bool) (w : World) (hh : h = true) : Calls Tryz.prog 102 #[p, .bool h] w fun e w' => e = .returned (.tuple #[]) ∧ w = w' := by
  subst hh
  go_enter Tryz.func102, Tryz.ntmps102
  go_wp2
  exact ⟨rfl, _, by simp [results, Tryz.results102], rfl, rfl⟩
theorem lneed_no (B : Nat) (num : Int) (v : Value) (w : World) (h : Bool) (hh : h = false) (hB : Blk w B 139 #[.int .i64 num, v]) : Calls Tryz.prog 102 #[.pointer (some ⟨B, 0, none⟩), .bool h] w fun e w' => e = lostL num ∧ w = w' := by
  subst hh
  have c0 : w.cell? ⟨B, 0, none⟩ = some (.int .i64 num) := hB.cell 0
  go_enter Tryz.func102, Tryz.ntmps102
  go_wp2
  exact ⟨rfl, rfl, rfl⟩
theorem ln_tail {w : World} {B b off c n : Nat} {num : Int} {x : ByteArray} {r : List ByteArray} (hB : Blk w B 139 #[.int .i64 num, .slice (some ⟨b, off, none⟩) (n + 1) c]) (hW : WAt w B (some ⟨b, off, none⟩) c (x :: r)) (hn : r.length = n) {q : Option Addr} (hq : (if c = 1 then some (⟨b, off, none⟩ : Addr) else some ⟨b, off + 1, none⟩) = q) : LnAt (w.setCell ⟨B, 1, none⟩ (.slice q n (c - 1))) B num r := by
  refine ⟨q, c - 1, ?_, (hW.tail hq).keep (Oth.set B 1 w _)⟩
  have := hB.set 1 (.slice q n (c - 1))
  rw [hn]
  simpa using this
def skipL : List ByteArray → ByteArray → Bool × List ByteArray
  | [], _ => (false, [])
  | x :: r, y => if x.toList == y.toList then (true, r) else (false, x :: r)
set_option maxHeartbeats 2000000 in
theorem skip_any (B : Nat) (num : Int) (ws : List ByteArray) (y : ByteArray) (hwl : ws.length ≤ 1000000) (w : World) (h : LnAt w B num ws) :
    Calls Tryz.prog 103 #[.pointer (some ⟨B, 0, none⟩), .string y] w fun e w' => e = .returned (.bool (skipL ws y).1) ∧ LnAt w' B num (skipL ws y).2 ∧ Oth B w w' := by
  obtain ⟨a, c, hB, hW⟩ := h
  have c1 : w.cell? ⟨B, 1, none⟩ = some (.slice a ws.length c) := hB.cell 1
  cases ws with
  | nil =>
    have hL : LnAt w B num [] := ⟨a, c, hB, hW⟩
    simp only [List.length_nil] at c1
    go_enter Tryz.func103, Tryz.ntmps103
    go_wp2
    go_ret
    exact ⟨rfl, hL, Oth.refl _ _⟩
  | cons x r =>
    obtain ⟨b, off, rfl, hb', hx⟩ := hW.2 0 (by simp)
    have hb : b ≠ B := Nat.ne_of_lt hb'
    simp only [List.getElem_cons_zero, Nat.add_zero] at hx
    obtain ⟨n, hn⟩ : ∃ n, r.length = n := ⟨_, rfl⟩
    have hcn : n + 1 ≤ c := by have := hW.1; simp only [List.length_cons] at this; omega
    have hn1 : n + 1 ≤ 1000000 := by simp only [List.length_cons] at hwl; omega
    simp only [List.length_cons, hn] at c1
    have HB : Hid (Blk w B 139 #[.int .i64 num, .slice (some ⟨b, off, none⟩) (n + 1) c]) := by
      have := hB
      simp only [List.length_cons, hn] at this
      exact this
    have HW : Hid (WAt w B (some ⟨b, off, none⟩) c (x :: r)) := hW
    have HN : Hid (r.length = n) := hn
    have f1 := hB.frozen 1
    clear hB hW hn hwl
    have t0 : (((n : Int) + 1) == 0) = false := by simp; omega
    have t0' : decide ((n : Int) + 1 = 0) = false := by simp; omega
    cases hxy : (x.toList == y.toList) with
    | true =>
      have t1 : (x.toList != y.toList) = false := by simp [bne, hxy]
      obtain ⟨q, hq⟩ : ∃ q, (if c = 1 then some (⟨b, off, none⟩ : Addr) else some ⟨b, off + 1, none⟩) = q := ⟨_, rfl⟩
      have HQ : Hid ((if c = 1 then some (⟨b, off, none⟩ : Addr) else some ⟨b, off + 1, none⟩) = q) := hq
      have HS : Hid (skipL (x :: r) y = (true, r)) := by show _ = _; rw [skipL, if_pos hxy]
      rw [HS.out]
      go_enter Tryz.func103, Tryz.ntmps103
      go_wp2
      go_ret
      exact ⟨rfl, ln_tail HB.out HW.out HN.out HQ.out, Oth.set B 1 w _⟩
    | false =>
      have t1 : (x.toList != y.toList) = true := by simp [bne, hxy]
      have HS : Hid (skipL (x :: r) y = (false, x :: r)) := by show _ = _; rw [skipL, if_neg (by simp [hxy])]
      rw [HS.out]
      go_enter Tryz.func103, Tryz.ntmps103
      go_wp2
      go_ret
      exact ⟨rfl, ⟨_, c, by have := HB.out; simp only [List.length_cons, HN.out]; exact this, HW.out⟩, Oth.refl _ _⟩
set_option maxHeartbeats 2000000 in
theorem take_ok (B : Nat) (num : Int) (x : ByteArray) (r : List ByteArray) (hwl : r.length ≤ 1000000) (w : World) (h : LnAt w B num (x :: r)) :
    Calls Tryz.prog 104 #[.pointer (some ⟨B, 0, none⟩)] w fun e w' => e = .returned (.string x) ∧ LnAt w' B num r ∧ Oth B w w' := by
  obtain ⟨a, c, hB, hW⟩ := h
  obtain ⟨b, off, rfl, hb', hx⟩ := hW.2 0 (by simp)
  have hb : b ≠ B := Nat.ne_of_lt hb'
  simp only [List.getElem_cons_zero, Nat.add_zero] at hx
  obtain ⟨n, hn⟩ : ∃ n, r.length = n := ⟨_, rfl⟩
  have hcn : n + 1 ≤ c := by have := hW.1; simp only [List.length_cons] at this; omega
  simp only [List.length_cons, hn] at hB
  have c1 : w.cell? ⟨B, 1, none⟩ = some (.slice (some ⟨b, off, none⟩) (n + 1) c) := hB.cell 1
  have HB : Hid (Blk w B 139 #[.int .i64 num, .slice (some ⟨b, off, none⟩) (n + 1) c]) := hB
  have HW : Hid (WAt w B (some ⟨b, off, none⟩) c (x :: r)) := hW
  have HN : Hid (r.length = n) := hn
  have f1 := hB.frozen 1
  have hn1 : n ≤ 1000000 := by omega
  have t0 : decide ((0 : Int) < (n : Int) + 1) = true := decide_eq_true (by omega)
  obtain ⟨q, hq⟩ : ∃ q, (if c = 1 then some (⟨b, off, none⟩ : Addr) else some ⟨b, off + 1, none⟩) = q := ⟨_, rfl⟩
  have HQ : Hid ((if c = 1 then some (⟨b, off, none⟩ : Addr) else some ⟨b, off + 1, none⟩) = q) := hq
  have hnd := fun h hh => lneed_ok (.pointer (some ⟨B, 0, none⟩)) h w hh
  clear hB hW hn hwl
  go_enter Tryz.func104, Tryz.ntmps104
  go_wp2_with (first | (go_at_call 102; refine (hnd _ (by simp; try omega)).mono ?_; rintro _ w2 ⟨rfl, rfl⟩))
  go_ret
  exact ⟨rfl, ln_tail HB.out HW.out HN.out HQ.out, Oth.set B 1 w _⟩
set_option maxHeartbeats 2000000 in
theorem take_no (B : Nat) (num : Int) (w : World) (h : LnAt w B num []) :
    Calls Tryz.prog 104 #[.pointer (some ⟨B, 0, none⟩)] w fun e w' => e = lostL num ∧ w = w' := by
  obtain ⟨a, c, hB, hW⟩ := h
  have c1 : w.cell? ⟨B, 1, none⟩ = some (.slice a 0 c) := hB.cell 1
  have hnd := fun h hh => lneed_no B num _ w h hh hB
  clear hB hW
  unfold lostL at *
  go_enter Tryz.func104, Tryz.ntmps104
  go_wp2_with (first | (go_at_call 102; refine (hnd _ (by simp)).mono ?_; rintro _ w2 ⟨rfl, rfl⟩))
  exact ⟨rfl, rfl, rfl⟩
set_option maxHeartbeats 2000000 in
theorem needEnd_ok (B : Nat) (num : Int) (w : World) (h : LnAt w B num []) : Calls Tryz.prog 80 #[.pointer (some ⟨B, 0, none⟩)] w fun e w' => e = .returned (.tuple #[]) ∧ w = w' := by
  obtain ⟨a, c, hB, hW⟩ := h
  have c1 : w.cell? ⟨B, 1, none⟩ = some (.slice a 0 c) := hB.cell 1
  have hnd := fun h hh => lneed_ok (.pointer (some ⟨B, 0, none⟩)) h w hh
  clear hB hW
  go_enter Tryz.func80, Tryz.ntmps80
  go_wp2_with (first | (go_at_call 102; refine (hnd _ (by simp)).mono ?_; rintro _ w2 ⟨rfl, rfl⟩))
  exact ⟨rfl, _, by simp [results, Tryz.results80], rfl, rfl⟩
set_option maxHeartbeats 2000000 in
theorem needEnd_no (B : Nat) (num : Int) (x : ByteArray) (r : List ByteArray) (hwl : r.length ≤ 1000000) (w : World) (h : LnAt w B num (x :: r)) : Calls Tryz.prog 80 #[.pointer (some ⟨B, 0, none⟩)] w fun e w' => e = lostL num ∧ w = w' := by
  obtain ⟨a, c, hB, hW⟩ := h
  obtain ⟨n, hn⟩ : ∃ n, r.length = n := ⟨_, rfl⟩
  simp only [List.length_cons, hn] at hB
  have c1 : w.cell? ⟨B, 1, none⟩ = some (.slice a (n + 1) c) := hB.cell 1
  have hnd := fun h hh => lneed_no B num _ w h hh hB
  have hn1 : n ≤ 1000000 := by omega
  clear hB hW hn hwl
  unfold lostL at *
  go_enter Tryz.func80, Tryz.ntmps80
  go_wp2_with (first | (go_at_call 102; refine (hnd _ (by simp; try omega)).mono ?_; rintro _ w2 ⟨rfl, rfl⟩))
  exact ⟨rfl, rfl, rfl⟩
set_option maxHeartbeats 2000000 in
theorem needWord_any (B : Nat) (num : Int) (ws : List ByteArray) (y : ByteArray) (hwl : ws.length ≤ 1000000) (w : World) (h : LnAt w B num ws) :
    Calls Tryz.prog 78 #[.pointer (some ⟨B, 0, none⟩), .string y] w fun e w' => ((skipL ws y).1 = true ∧ e = .returned (.tuple #[]) ∧ LnAt w' B num (skipL ws y).2 ∧ Oth B w w') ∨ ((skipL ws y).1 = false ∧ e = lostL num ∧ Oth B w w') := by
  have hs := skip_any B num ws y hwl w h
  obtain ⟨⟨sb, sr⟩, hS⟩ : ∃ s, skipL ws y = s := ⟨_, rfl⟩
  rw [hS] at hs ⊢
  clear hS h
  go_enter Tryz.func78, Tryz.ntmps78
  go_wp2_with fail
  refine hs.mono ?_
  rintro _ w2 ⟨rfl, hL, hO⟩
  clear hs
  cases sb with
  | true =>
    have hnd := lneed_ok (.pointer (some ⟨B, 0, none⟩)) true w2 rfl
    go_wp2_with fail
    refine hnd.mono ?_
    rintro _ w3 ⟨rfl, rfl⟩
    clear hnd
    go_wp2_with fail
    exact ⟨rfl, _, by simp [results, Tryz.results78], rfl, hL, hO⟩
  | false =>
    obtain ⟨a, c, hB, hW⟩ := hL
    have hnd := lneed_no B num _ w2 false rfl hB
    unfold lostL at *
    clear hB hW
    go_wp2_with fail
    refine hnd.mono ?_
    rintro _ w3 ⟨rfl, rfl⟩
    clear hnd
    go_wp2_with fail
    exact ⟨rfl, rfl, hO⟩
def nullsW (ws : List ByteArray) : Int × List ByteArray :=
  if (skipL ws ⟨#[110, 117, 108, 108, 45, 102, 105, 114, 115, 116]⟩).1 then (1, (skipL ws ⟨#[110, 117, 108, 108, 45, 102, 105, 114, 115, 116]⟩).2)
  else if (skipL ws ⟨#[110, 117, 108, 108, 45, 108, 97, 115, 116]⟩).1 then (2, (skipL ws ⟨#[110, 117, 108, 108, 45, 108, 97, 115, 116]⟩).2) else (0, ws)
theorem skipL_no (ws : List ByteArray) (y : ByteArray) (h : (skipL ws y).1 = false) : (skipL ws y).2 = ws := by
  cases ws with
  | nil => rfl
  | cons x r =>
    rw [skipL] at h ⊢
    split at h <;> simp_all
set_option maxHeartbeats 2000000 in
theorem takeNulls_any (B : Nat) (num : Int) (ws : List ByteArray) (hwl : ws.length ≤ 1000000) (w : World) (h : LnAt w B num ws) :
    Calls Tryz.prog 107 #[.pointer (some ⟨B, 0, none⟩)] w fun e w' => e = .returned (.int .u8 (nullsW ws).1) ∧ LnAt w' B num (nullsW ws).2 ∧ Oth B w w' := by
  have hs := skip_any B num ws ⟨#[110, 117, 108, 108, 45, 102, 105, 114, 115, 116]⟩ hwl w h
  have hs2 := fun w hL => skip_any B num ws ⟨#[110, 117, 108, 108, 45, 108, 97, 115, 116]⟩ hwl w hL
  have k1 := skipL_no ws ⟨#[110, 117, 108, 108, 45, 102, 105, 114, 115, 116]⟩
  have k2 := skipL_no ws ⟨#[110, 117, 108, 108, 45, 108, 97, 115, 116]⟩
  unfold nullsW
  obtain ⟨⟨b1, r1⟩, h1⟩ : ∃ s, skipL ws ⟨#[110, 117, 108, 108, 45, 102, 105, 114, 115, 116]⟩ = s := ⟨_, rfl⟩
  obtain ⟨⟨b2, r2⟩, h2⟩ : ∃ s, skipL ws ⟨#[110, 117, 108, 108, 45, 108, 97, 115, 116]⟩ = s := ⟨_, rfl⟩
  simp only [h1, h2] at *
  clear h1 h2 h
  cases b1 with
  | true =>
    simp only [if_true]
    go_enter Tryz.func107, Tryz.ntmps107
    go_wp2_with fail
    refine hs.mono ?_
    rintro _ w2 ⟨rfl, hL, hO⟩
    clear hs hs2 k1 k2
    go_wp2_with fail
    go_ret
    exact ⟨rfl, hL, hO⟩
  | false =>
    obtain rfl := k1 rfl
    cases b2 with
    | true =>
      simp only [Bool.false_eq_true, if_false, if_true]
      go_enter Tryz.func107, Tryz.ntmps107
      go_wp2_with fail
      refine hs.mono ?_
      rintro _ w2 ⟨rfl, hL, hO⟩
      have q2 := hs2 w2 hL
      clear hs hs2 k1 k2
      go_wp2_with fail
      refine q2.mono ?_
      rintro _ w3 ⟨rfl, hL3, hO3⟩
      clear q2
      go_wp2_with fail
      go_ret
      exact ⟨rfl, hL3, hO.trans hO3⟩
    | false =>
      obtain rfl := k2 rfl
      simp only [Bool.false_eq_true, if_false]
      go_enter Tryz.func107, Tryz.ntmps107
      go_wp2_with fail
      refine hs.mono ?_
      rintro _ w2 ⟨rfl, hL, hO⟩
      have q2 := hs2 w2 hL
      clear hs hs2 k1 k2
      go_wp2_with fail
      refine q2.mono ?_
      rintro _ w3 ⟨rfl, hL3, hO3⟩
      clear q2
      go_wp2_with fail
      go_ret
      exact ⟨rfl, hL3, hO.trans hO3⟩
end Go.Proofs.YtcbjnifoojjipaaGreatDoor
