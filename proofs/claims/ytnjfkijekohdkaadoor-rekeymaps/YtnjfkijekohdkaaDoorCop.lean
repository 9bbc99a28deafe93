/- What dovetailref00.Copied does (contracts; nothing is claimed here). -/
import Derived.Test.YtnjfkijekohdkaaDoorRPit
import Derived.Test.YtnjfkijekohdkaaDoorTell
namespace Go.Proofs.YtnjfkijekohdkaaDoor
open Go.RowKit Go.Vf
theorem PIn.items {w : World} {lo n : Nat} {p q : Prt} {a : Option Addr} (h : PIn w lo n p a) (e : q.items = p.items) : PIn w lo n q a := by
  cases h with
  | nil h => exact .nil (e.trans h)
  | cons A C h1 h2 h3 h4 =>
    refine .cons A C h1 h2 (fun j hj => ?_) (fun j hj => ?_)
    · have hj' : j < p.items.length := by rw [← e]; exact hj
      have e2 : q.items[j] = p.items[j] := by simp only [e]
      rw [e2]; exact h3 j hj'
    · have hj' : j < p.items.length := by rw [← e]; exact hj
      have e2 : q.items[j] = p.items[j] := by simp only [e]
      rw [e2]; exact h4 j hj'
theorem set_sizeC (w : World) (a : Addr) (v : Value) : (w.setCell a v).heap.size = w.heap.size := by simp [World.setCell]
/-- The contract of Copied at a part. -/
def CopOk (p : Prt) : Prop := ∀ (a : Option Addr) (c lo n₀ : Nat) (w : World), n₀ ≤ w.heap.size → PIn w lo n₀ p a →
    Calls Tryd.prog 28 #[pV p a c] w fun e w' => ∃ a' c', e = .returned (pV p a' c') ∧ PIn w' w.heap.size w'.heap.size p a' ∧ Below w.heap.size w w'
set_option maxRecDepth 100000 in
theorem resCop_run {tmps : Array Value} {w : World} {b : Nat} {a0 a1 a2 a3 a4 a5 : Value} (h : Blk w b 29 #[a0, a1, a2, a3, a4, a5]) (t2 : tmps[2]?.getD undef = .pointer (some ⟨b, 0, none⟩)) :
    (results Tryd.f28 tmps).run Tryd.prog w = .ok (.agg #[a0, a1, a2, a3, a4, a5]) w := by
  obtain ⟨c0, c1, c2, c3, c4, c5⟩ := h.c6
  simp [results, Tryd.results28, go_sem, t2, c0, c1, c2, c3, c4, c5]
set_option maxHeartbeats 8000000 in
set_option maxRecDepth 20000 in
theorem copied_step (k : Int) (y b : Bool) (m r : ByteArray) (l : List Prt) (hl : l.length ≤ 1024) (ih : ∀ x ∈ l, CopOk x) : CopOk (.mk k y b m r l) := by
  intro a c lo n₀ w hn₀ hin
  unfold pV
  simp only [Prt.kind, Prt.yes, Prt.neg, Prt.mag, Prt.raw, Prt.items]
  obtain ⟨ln, hln⟩ : ∃ ln, l.length = ln := ⟨_, rfl⟩
  have HLN : Hid (l.length = ln) := hln
  rw [hln] at hl ⊢
  clear hln
  have hB0 := Blk.new w 29 #[.int .u8 k, .bool y, .bool b, .string m, .string r, .slice a ln c]
  have hb1 := (Below.refl w.heap.size w).alloc (Nat.le_refl _) (.cells #[.int .u8 k, .bool y, .bool b, .string m, .string r, .slice a ln c] 29)
  have hs1 := alloc_size w (.cells #[.int .u8 k, .bool y, .bool b, .string m, .string r, .slice a ln c] 29)
  have hk1 : ∀ w1, Below w.heap.size w w1 → PIn w1 lo n₀ (.mk k y b m r l) a := fun w1 h => hin.keep h hn₀
  have HIN : Hid (∀ w1, Below w.heap.size w w1 → PIn w1 lo n₀ (.mk k y b m r l) a) := hk1
  have hb2 := hb1.alloc hb1.size (.cells #[.int .u8 0, .bool false, .bool false, .string ⟨#[]⟩, .string ⟨#[]⟩, .slice none 0 0] 29)
  have hs2 := alloc_size (w.alloc (.cells #[.int .u8 k, .bool y, .bool b, .string m, .string r, .slice a ln c] 29)) (.cells #[.int .u8 0, .bool false, .bool false, .string ⟨#[]⟩, .string ⟨#[]⟩, .slice none 0 0] 29)
  have hB1 := Blk.new (w.alloc (.cells #[.int .u8 k, .bool y, .bool b, .string m, .string r, .slice a ln c] 29)) 29 #[.int .u8 0, .bool false, .bool false, .string ⟨#[]⟩, .string ⟨#[]⟩, .slice none 0 0]
  have hB0b := hB0.old ((Below.refl _ (w.alloc (.cells #[.int .u8 k, .bool y, .bool b, .string m, .string r, .slice a ln c] 29))).alloc (Nat.le_refl _) (.cells #[.int .u8 0, .bool false, .bool false, .string ⟨#[]⟩, .string ⟨#[]⟩, .slice none 0 0] 29))
  rw [hs1] at hB1 hs2
  clear hk1 hin
  go_enter Tryd.func28, Tryd.ntmps28
  go_upto_region 1 with fail
  generalize (w.alloc (.cells #[.int .u8 k, .bool y, .bool b, .string m, .string r, .slice a ln c] 29)).alloc (.cells #[.int .u8 0, .bool false, .bool false, .string ⟨#[]⟩, .string ⟨#[]⟩, .slice none 0 0] 29) = w2 at *
  have hb3 := hb2.alloc hb2.size (.cells #[.int .u8 k, .bool y, .bool b, .string m, .string r, .slice a ln c] 29)
  have hb4 := (hb2.alloc hb2.size (.cells #[.int .u8 k, .bool y, .bool b, .string m, .string r, .slice none 0 0] 29))
  have hs4 := alloc_size w2 (.cells #[.int .u8 k, .bool y, .bool b, .string m, .string r, .slice none 0 0] 29)
  have hB2 := Blk.new w2 29 #[.int .u8 k, .bool y, .bool b, .string m, .string r, .slice none 0 0]
  have hB1c := hB1.old ((Below.refl w2.heap.size w2).alloc (Nat.le_refl _) (.cells #[.int .u8 k, .bool y, .bool b, .string m, .string r, .slice none 0 0] 29))
  have hB0c := hB0b.old ((Below.refl w2.heap.size w2).alloc (Nat.le_refl _) (.cells #[.int .u8 k, .bool y, .bool b, .string m, .string r, .slice none 0 0] 29))
  rw [hs2] at hB2 hs4
  obtain ⟨c0, c1, c2, c3, c4, c5⟩ := hB0b.c6
  go_upto_region 3 with fail
  generalize w2.alloc (.cells #[.int .u8 k, .bool y, .bool b, .string m, .string r, .slice none 0 0] 29) = w3 at *
  have HB0 : Hid (Blk w3 w.heap.size 29 #[.int .u8 k, .bool y, .bool b, .string m, .string r, .slice a ln c]) := hB0c
  have HB1 : Hid (Blk w3 (w.heap.size + 1) 29 #[.int .u8 0, .bool false, .bool false, .string ⟨#[]⟩, .string ⟨#[]⟩, .slice none 0 0]) := hB1c
  have HB2 : Hid (Blk w3 (w.heap.size + 1 + 1) 29 #[.int .u8 k, .bool y, .bool b, .string m, .string r, .slice none 0 0]) := hB2
  have HS3 : Hid (w.heap.size + 1 + 1 + 1 ≤ w3.heap.size) := by show _ ≤ _; omega
  clear hB0 hB0b hB0c hB1 hB1c hB2 hs1 hs2 hs4 hb1 hb2 hb3 c0 c1 c2 c3 c4 c5
  go_wp2_with fail
  go_loopw [4] (fun iv wr => ∃ (j : Nat) (a6 : Option Addr) (c6 : Nat), j ≤ ln ∧ iv = .int .i64 (j : Int) ∧ PItm (w.heap.size + 1 + 1 + 1) wr (.slice a6 j c6) (l.take j) ∧ Hid (Blk wr w.heap.size 29 #[.int .u8 k, .bool y, .bool b, .string m, .string r, .slice a ln c]) ∧ Hid (Blk wr (w.heap.size + 1) 29 #[.int .u8 0, .bool false, .bool false, .string ⟨#[]⟩, .string ⟨#[]⟩, .slice none 0 0]) ∧ Hid (Blk wr (w.heap.size + 1 + 1) 29 #[.int .u8 k, .bool y, .bool b, .string m, .string r, .slice a6 j c6]) ∧ Below w.heap.size w wr ∧ Hid (w.heap.size + 1 + 1 + 1 ≤ wr.heap.size)) (fun iv _ => ln - (intOf iv).toNat)
  case atStart => exact ⟨0, none, 0, Nat.zero_le _, rfl, PItm.nil _ _, HB0, HB1, HB2, hb4, HS3⟩
  case round =>
    clear HB0 HB1 HB2 HS3 hb4
    obtain ⟨j, a6, c6, hj, rfl, hit, HB0, HB1, HB2, hb, HLE⟩ := hrel
    have hbsz : w.heap.size ≤ wr.heap.size := hb.size
    have p5 : wr.cell? ⟨w.heap.size, 5, none⟩ = some (.slice a ln c) := Blk.cell HB0.out 5
    by_cases hlt : j < ln
    · have tl : decide ((j : Int) < (ln : Int)) = true := decide_eq_true (by omega)
      have tl2 : decide (j < ln) = true := decide_eq_true hlt
      have hjl : j < l.length := by rw [HLN.out]; exact hlt
      obtain ⟨bb, off, aj, cj, ha, _, _, hrow, hinj⟩ := (HIN.out wr hb).at (p := .mk k y b m r l) hjl
      simp only [Prt.items] at ha hrow hinj
      subst ha
      obtain ⟨r0, r1, r2, r3, r4, r5⟩ := hrow
      have hcall := ih l[j] (List.getElem_mem hjl) aj cj lo n₀ wr (by omega) hinj
      have HTK : Hid (l.take (j + 1) = l.take j ++ [l[j]]) := List.take_succ_eq_append_getElem hjl
      unfold pV at hcall
      generalize l[j] = x at *
      have hji : (j : Int) < (ln : Int) := by omega
      clear hinj ih
      go_wp2_with fail
      refine hcall.mono ?_
      rintro _ w4 ⟨ax, cx, rfl, hpx, hb4⟩
      have hb5 := hb4.alloc hb4.size (.cells #[.int .u8 x.kind, .bool x.yes, .bool x.neg, .string x.mag, .string x.raw, .slice ax x.items.length cx] 29)
      have hB5 := Blk.new w4 29 #[.int .u8 x.kind, .bool x.yes, .bool x.neg, .string x.mag, .string x.raw, .slice ax x.items.length cx]
      have hq5 := (Below.refl w4.heap.size w4).alloc (Nat.le_refl _) (.cells #[.int .u8 x.kind, .bool x.yes, .bool x.neg, .string x.mag, .string x.raw, .slice ax x.items.length cx] 29)
      clear hcall r0 r1 r2 r3 r4 r5
      go_upto_region 7 with fail
      generalize w4.alloc (.cells #[.int .u8 x.kind, .bool x.yes, .bool x.neg, .string x.mag, .string x.raw, .slice ax x.items.length cx] 29) = w5 at *
      have HP5 : Hid (PIn w5 wr.heap.size w5.heap.size x ax) := (hpx.keep hq5 (Nat.le_refl _)).mono hq5.size (Nat.le_refl _)
      have HI5 : Hid (PItm (w.heap.size + 1 + 1 + 1) w5 (.slice a6 j c6) (l.take j)) := hit.old hb5
      have HRL : Hid (∀ k, (Value.slice a6 j c6).ownBlock = some k → k < wr.heap.size) := hit.row_lt
      have hBx := hB5
      obtain ⟨x0, x1, x2, x3, x4, x5⟩ := Blk.c6 hBx
      have HBa : Hid (Blk w5 w.heap.size 29 #[.int .u8 k, .bool y, .bool b, .string m, .string r, .slice (some ⟨bb, off, none⟩) ln c]) := Blk.old HB0.out hb5
      have HBr : Hid (Blk w5 (w.heap.size + 1) 29 #[.int .u8 0, .bool false, .bool false, .string ⟨#[]⟩, .string ⟨#[]⟩, .slice none 0 0]) := Blk.old HB1.out hb5
      have HBp : Hid (Blk w5 (w.heap.size + 1 + 1) 29 #[.int .u8 k, .bool y, .bool b, .string m, .string r, .slice a6 j c6]) := Blk.old HB2.out hb5
      have q5 : w5.cell? ⟨w.heap.size + 1 + 1, 5, none⟩ = some (.slice a6 j c6) := Blk.cell HBp.out 5
      have HZ5 : Hid (wr.heap.size ≤ w5.heap.size) := hb5.size
      have HTL : Hid ((l.take j).length = j) := by show _ = _; rw [List.length_take]; omega
      have HAL : Hid ((l.take j).length < 1024) := by have := HTL.out; show _ < _; omega
      have HL6 : Hid ((l.take j ++ [x]).length = j + 1) := by have := HTL.out; show _ = _; simp; omega
      clear hit hpx hBx hB5 hq5 HB0 HB1 HB2 p5
      go_upto_region 5 with (at_builtin; refine PItm.more HI5.out HLE.out HZ5.out HRL.out HAL.out HP5.out (.tmp 22) (.tmp 24) rfl rfl rfl rfl ?_; intro v' w6 hit6 hb6; obtain ⟨a7, c7, hv6⟩ := hit6.form; rw [HL6.out] at hv6; subst hv6; have z5 : w6.cell? ⟨w.heap.size + 1 + 1, 5, none⟩ = some (.slice a6 j c6) := Blk.cell (Blk.below HBp.out hb6 (Nat.lt_succ_self _)) 5; have qf : w6.frozen? ⟨w.heap.size + 1 + 1, 5, none⟩ = false := Blk.frozen (Blk.below HBp.out hb6 (Nat.lt_succ_self _)) 5)
      have hBp7 : Blk (w6.setCell ⟨w.heap.size + 1 + 1, 5, none⟩ (.slice a7 (j + 1) c7)) (w.heap.size + 1 + 1) 29 #[.int .u8 k, .bool y, .bool b, .string m, .string r, .slice a7 (j + 1) c7] := by
        have := (Blk.below HBp.out hb6 (Nat.lt_succ_self _)).set 5 (.slice a7 (j + 1) c7)
        simpa using this
      have hBa7 : Blk (w6.setCell ⟨w.heap.size + 1 + 1, 5, none⟩ (.slice a7 (j + 1) c7)) w.heap.size 29 #[.int .u8 k, .bool y, .bool b, .string m, .string r, .slice (some ⟨bb, off, none⟩) ln c] := Blk.other (Blk.below HBa.out hb6 (by omega)) (p := ⟨w.heap.size + 1 + 1, 5, none⟩) (by show w.heap.size ≠ w.heap.size + 1 + 1; omega) _
      have hBr7 : Blk (w6.setCell ⟨w.heap.size + 1 + 1, 5, none⟩ (.slice a7 (j + 1) c7)) (w.heap.size + 1) 29 #[.int .u8 0, .bool false, .bool false, .string ⟨#[]⟩, .string ⟨#[]⟩, .slice none 0 0] := Blk.other (Blk.below HBr.out hb6 (by omega)) (p := ⟨w.heap.size + 1 + 1, 5, none⟩) (by show w.heap.size + 1 ≠ w.heap.size + 1 + 1; omega) _
      have hit7 : PItm (w.heap.size + 1 + 1 + 1) (w6.setCell ⟨w.heap.size + 1 + 1, 5, none⟩ (.slice a7 (j + 1) c7)) (.slice a7 (j + 1) c7) (l.take j ++ [x]) := hit6.keep (fun b q1 q2 => Below.heap_setCell _ _ _ b (by show b ≠ w.heap.size + 1 + 1; omega)) (by rw [set_sizeC]; exact Nat.le_refl _)
      have hb7 : Below w.heap.size w (w6.setCell ⟨w.heap.size + 1 + 1, 5, none⟩ (.slice a7 (j + 1) c7)) := ((hb.trans (hb5.mono hbsz)).trans (hb6.mono (by omega))).setCell (p := ⟨w.heap.size + 1 + 1, 5, none⟩) (by show w.heap.size ≤ w.heap.size + 1 + 1; omega) _
      have hsz7 : w.heap.size + 1 + 1 + 1 ≤ (w6.setCell ⟨w.heap.size + 1 + 1, 5, none⟩ (.slice a7 (j + 1) c7)).heap.size := by
        rw [set_sizeC]
        have := HLE.out
        have := HZ5.out
        have := hb6.size
        omega
      generalize w6.setCell ⟨w.heap.size + 1 + 1, 5, none⟩ (.slice a7 (j + 1) c7) = w7 at *
      rw [← HTK.out] at hit7
      clear HI5 HP5 HRL HBa HBr HBp q5 z5 qf hit6 hb6 hb5 hb4 x0 x1 x2 x3 x4 x5 HLE HZ5 HAL
      go_wp2_with fail
      go_roundw
      case rel => exact ⟨j + 1, a7, c7, hlt, by simp, hit7, hBa7, hBr7, hBp7, hb7, hsz7⟩
      case measure => simp only [intOf]; omega
    · have tl : decide ((j : Int) < (ln : Int)) = false := decide_eq_false (by omega)
      have tl2 : decide (j < ln) = false := decide_eq_false hlt
      have hjn : j = ln := by omega
      have HIT : Hid (PItm (w.heap.size + 1 + 1 + 1) wr (.slice a6 j c6) l) := by
        have e : l.take j = l := List.take_of_length_le (by rw [HLN.out]; omega)
        rw [e] at hit; exact hit
      have hBq := HB2.out
      obtain ⟨d0, d1, d2, d3, d4, d5⟩ := Blk.c6 hBq
      have hBr := HB1.out
      obtain ⟨e0, e1, e2, e3, e4, e5⟩ := Blk.c6 hBr
      have f0 := Blk.frozen HB1.out 0
      have f1 := Blk.frozen HB1.out 1
      have f2 := Blk.frozen HB1.out 2
      have f3 := Blk.frozen HB1.out 3
      have f4 := Blk.frozen HB1.out 4
      have f5 := Blk.frozen HB1.out 5
      have HJN : Hid (j = ln) := hjn
      clear hBq hBr hit hjn ih HIN
      go_wp2_with fail
      have hfin := Blk.set6 HB1.out (.int .u8 k) (.bool y) (.bool b) (.string m) (.string r) (.slice a6 j c6)
      have hbw := set6_below hb (show w.heap.size ≤ w.heap.size + 1 by omega) 0 (.int .u8 k) (.bool y) (.bool b) (.string m) (.string r) (.slice a6 j c6)
      refine bodyPost_ret (resCop_run (b := w.heap.size + 1) hfin rfl) rfl ?_
      refine ⟨a6, c6, by rw [HJN.out], ?_, hbw⟩
      have e7 := set6_size wr (w.heap.size + 1) 0 (.int .u8 k) (.bool y) (.bool b) (.string m) (.string r) (.slice a6 j c6)
      show PIn (set6 wr (w.heap.size + 1) 0 (.int .u8 k) (.bool y) (.bool b) (.string m) (.string r) (.slice a6 j c6)) _ (set6 wr (w.heap.size + 1) 0 (.int .u8 k) (.bool y) (.bool b) (.string m) (.string r) (.slice a6 j c6)).heap.size _ a6
      rw [e7]
      exact ((HIT.out.pin.keep' (fun b q1 q2 => set6_other (by omega))).mono (Nat.le_refl _) (by omega)).items rfl
theorem shp_items {P : Prt} (h : Shp P) (h7 : P.kind ≠ 7) : P.items = [] := by
  cases h <;> first | rfl | exact absurd rfl h7
theorem copied_any : ∀ (p : Prt), may p = true → CopOk p := by
  intro p
  induction p using Prt.ind with
  | h k y n m r l ih =>
    intro hf
    have hl : l.length ≤ 1024 ∧ ∀ x ∈ l, may x = true := by
      by_cases h7 : k = 7
      · subst h7; exact may_tup hf
      · have this : l = [] := shp_items (may_shape hf) h7
        subst this
        exact ⟨by decide, fun x hx => by cases hx⟩
    exact copied_step k y n m r l hl.1 (fun x hx => ih x hx (hl.2 x hx))
end Go.Proofs.YtnjfkijekohdkaaDoor
