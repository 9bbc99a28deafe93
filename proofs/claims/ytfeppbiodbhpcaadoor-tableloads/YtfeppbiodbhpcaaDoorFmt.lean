/- What formatBits does at base 16 (a contract; nothing is claimed here). -/
import Derived.Test.YtfeppbiodbhpcaaDoorMem
import Derived.Deep.CutRange
namespace Go.Proofs.YtfeppbiodbhpcaaDoor
open Go.RowKit Go.Vf Go.Maps

set_option maxRecDepth 10000 in
theorem tz64 (w : World) (ht : w.cell? ⟨6, 15, none⟩ = some (.int .u8 4)) : Calls Tryd.prog 143 #[.int .u64 16] w fun e w' => e = .returned (.int .i64 4) ∧ w = w' := by
  have e1 : IntKind.u64.wrap (-16) = 18446744073709551600 := by decide
  have e2 : bits BinOp.and IntKind.u64 16 18446744073709551600 = 16 := by decide
  have e3 : IntKind.u64.wrap (16 * 285870213051353865) = 4573923408821661840 := by decide
  go_enter Tryd.func143, Tryd.ntmps143
  go_wp2
  go_ret
  exact ⟨rfl, rfl⟩

theorem tz (w : World) (ht : w.cell? ⟨6, 15, none⟩ = some (.int .u8 4)) : Calls Tryd.prog 138 #[.int .u64 16] w fun e w' => e = .returned (.int .i64 4) ∧ w = w' := by
  go_enter Tryd.func138, Tryd.ntmps138
  go_wp2_with fail
  refine (tz64 w ht).mono ?_
  rintro e w1 ⟨rfl, rfl⟩
  go_wp2
  go_ret
  exact ⟨rfl, rfl⟩

theorem pow2 (w : World) : Calls Tryd.prog 137 #[.int .i64 16] w fun e w' => e = .returned (.bool true) ∧ w = w' := by
  have e1 : bits BinOp.and IntKind.i64 16 15 = 0 := by decide
  go_enter Tryd.func137, Tryd.ntmps137
  go_wp2
  go_ret
  exact ⟨rfl, rfl⟩

/-- Digits to the base 16, small letters. -/

theorem and15 (u : Nat) (hu : u < 16 ^ 8) : bits BinOp.and IntKind.u64 (u : Int) 15 = ((u % 16 : Nat) : Int) := by
  have h := bits_and_u64_nat u 15 (by omega) (by omega)
  rw [show ((15 : Nat) : Int) = 15 from rfl] at h
  rw [h]
  congr 1
  exact Nat.and_two_pow_sub_one_eq_mod u 4

theorem dig_at : ∀ (d : Nat) (_ : d < 16) (h' : d < (⟨#[48, 49, 50, 51, 52, 53, 54, 55, 56, 57, 97, 98, 99, 100, 101, 102, 103, 104, 105, 106, 107, 108, 109, 110, 111, 112, 113, 114, 115, 116, 117, 118, 119, 120, 121, 122]⟩ : ByteArray).size), ((⟨#[48, 49, 50, 51, 52, 53, 54, 55, 56, 57, 97, 98, 99, 100, 101, 102, 103, 104, 105, 106, 107, 108, 109, 110, 111, 112, 113, 114, 115, 116, 117, 118, 119, 120, 121, 122]⟩ : ByteArray)[d]'h').toNat = (lowDig d).toNat := by
  intro d h h'
  have hd : d = 0 ∨ d = 1 ∨ d = 2 ∨ d = 3 ∨ d = 4 ∨ d = 5 ∨ d = 6 ∨ d = 7 ∨ d = 8 ∨ d = 9 ∨ d = 10 ∨ d = 11 ∨ d = 12 ∨ d = 13 ∨ d = 14 ∨ d = 15 := by omega
  rcases hd with rfl | rfl | rfl | rfl | rfl | rfl | rfl | rfl | rfl | rfl | rfl | rfl | rfl | rfl | rfl | rfl <;> rfl
theorem drop_set_here {α : Type} (l : List α) (n : Nat) (a : α) (h : n < l.length) : (l.set n a).drop n = a :: l.drop (n + 1) := by
  induction l generalizing n with
  | nil => simp at h
  | cons b r ih =>
    cases n with
    | zero => simp
    | succ n => simpa using ih n (by simpa using h)
/-- A string out of a row at an offset. -/
theorem string_at {w : World} {b : Nat} {cs : Array Value} {l : List UInt8} {off n c : Nat} (h : Blk w b 180 cs) (hl : cs.toList.drop off = cellsL l) (hn : n = l.length) :
    (convert 79 9 (.slice (some ⟨b, off, none⟩) n c)).run Tryd.prog w = .ok (.string (bsz l)) w := by
  subst hn
  have hc := run_convert_bytes_arg (P := Tryd.prog) w 79 5 Tryd.underlying79 Tryd.underlying5 b off l.length c (l.map fun x => (x.toNat : Int)) (by simp) (fun i hi => by
    rw [h.cell]
    have e1 : cs.toList[off + i]? = (cellsL l)[i]? := by rw [← hl, List.getElem?_drop]
    have hi' : i < l.length := by simpa using hi
    rw [← Array.getElem?_toList, e1]
    simp [cellsL, List.getD, hi']) 9 Tryd.underlying9
  rw [hc]
  have e : strOfNums (l.map fun x => (x.toNat : Int)) = bsz l := data_inj (by rw [strOfNums_data]; simp [Function.comp_def])
  rw [e]

theorem results131_run {tmps : Array Value} {w : World} {a b : Value} (t2 : tmps[10]?.getD undef = a) (t3 : tmps[11]?.getD undef = b) :
    (results Tryd.f129 tmps).run Tryd.prog w = .ok (.tuple #[a, b]) w := by
  simp [results, Tryd.results129, go_sem, t2, t3]

theorem zero172 : Tryd.zeroCells180.size = 65 := by kernel_rfl

set_option maxHeartbeats 4000000 in
set_option maxRecDepth 20000 in
theorem fmt16 (u : Nat) (hu : u < 16 ^ 8) (w : World) (ht : w.cell? ⟨6, 15, none⟩ = some (.int .u8 4)) :
    Calls Tryd.prog 129 #[.slice none 0 0, .int .u64 (u : Int), .int .i64 16, .bool false, .bool false] w fun e w' => e = .returned (.tuple #[.slice none 0 0, .string (bsz (hexLow u))]) ∧ Below w.heap.size w w' := by
  have hlt := World.block_lt_of_cell? w _ ht
  have hbn := Blk.new w 180 Tryd.zeroCells180
  have hb0 := (Below.refl w.heap.size w).alloc (Nat.le_refl _) (.cells Tryd.zeroCells180 180)
  have ht0 := (hb0.cell (p := ⟨6, 15, none⟩) hlt).trans ht
  go_enter Tryd.func129, Tryd.ntmps129
  go_wp2_with fail
  generalize w.alloc (.cells Tryd.zeroCells180 180) = W at hbn hb0 ht0 ⊢
  have hz := zero172
  generalize Tryd.zeroCells180 = cs0 at hbn hz
  refine (pow2 W).mono ?_
  rintro e w1 ⟨rfl, rfl⟩
  go_wp2_with fail
  refine (tz W ht0).mono ?_
  rintro e w1 ⟨rfl, rfl⟩
  go_wp2_with fail
  go_loopw [1, 13] (fun x i wr => ∃ (v ix : Nat) (cs : Array Value) (acc : List UInt8), x = .int .u64 (v : Int) ∧ i = .int .i64 (ix : Int) ∧ ix + acc.length = 65 ∧ v < 16 ^ (8 - acc.length) ∧ acc.length ≤ 7 ∧ Blk wr w.heap.size 180 cs ∧ cs.size = 65 ∧ Hid (cs.toList.drop ix = cellsL acc) ∧ Hid (hexLow v ++ acc = hexLow u) ∧ Below w.heap.size w wr) (fun x _ _ => (intOf x).toNat)
  case atStart => exact ⟨u, 65, cs0, [], rfl, rfl, rfl, by simpa using hu, by simp, hbn, hz, by show _ = _; simp [cellsL, hz], by show _ = _; simp, hb0⟩
  case round =>
    obtain ⟨v, ix, cs, acc, rfl, rfl, hix, hv, hal, hbk, hcs, HC, HX, hbel⟩ := hrel
    have hp8 : 16 ^ (8 - acc.length) ≤ 16 ^ 8 := Nat.pow_le_pow_right (by omega) (by omega)
    have hv8 : v < 16 ^ 8 := by omega
    by_cases hbig : 16 ≤ v
    · have hand := and15 v hv8
      have hm := Nat.mod_lt v (show 0 < 16 by omega)
      have c0 : ∃ u0, wr.cell? ⟨w.heap.size, ix - 1, none⟩ = some u0 := ⟨cs[ix - 1]'(by omega), by rw [hbk.cell]; exact Array.getElem?_eq_getElem (by omega)⟩
      obtain ⟨u0, c0⟩ := c0
      have f0 := hbk.frozen (ix - 1)
      obtain ⟨iy, hiy⟩ : ∃ iy, iy = ix - 1 := ⟨_, rfl⟩
      rw [← hiy] at c0 f0
      have hiy1 : ((ix : Int) - 1) = (iy : Int) := by omega
      have hiy2 : iy < 65 := by omega
      generalize hdd : v % 16 = dd at hand hm
      have HDD : Hid (v % 16 = dd) := hdd
      clear hdd
      have hn6 : acc.length ≤ 6 := by
        by_cases h7 : acc.length = 7
        · rw [h7] at hv; omega
        · omega
      have hpw : v / 16 < 16 ^ (8 - (acc.length + 1)) := by
        have e : 8 - acc.length = (8 - (acc.length + 1)) + 1 := by omega
        rw [e, Nat.pow_succ] at hv
        omega
      have hdrop : (cs.setIfInBounds iy (.int .u8 ((lowDig dd).toNat : Int))).toList.drop iy = cellsL (lowDig dd :: acc) := by
        rw [Array.toList_setIfInBounds, drop_set_here _ _ _ (by rw [Array.length_toList]; omega), show iy + 1 = ix by omega, HC.out]
        rfl
      have HDR : Hid ((cs.setIfInBounds iy (.int .u8 ((lowDig dd).toNat : Int))).toList.drop iy = cellsL (lowDig dd :: acc)) := hdrop
      have HX2 : Hid (hexLow (v / 16) ++ (lowDig dd :: acc) = hexLow u) := by
        show _ = _
        rw [← HX.out, hexLow_big hbig, HDD.out]; simp
      clear hdrop HX HC hiy
      go_wp2_with fail
      rw [dig_at dd hm]
      go_roundw
      case rel => exact ⟨v / 16, iy, _, lowDig dd :: acc, by simp, rfl, by simp; omega, hpw, by simp; omega, hbk.set iy _, by simpa using hcs, HDR, HX2, hbel.setCell (p := ⟨w.heap.size, iy, none⟩) (Nat.le_refl _) _⟩
      case measure => simp only [intOf]; omega
    · have hm : v < 16 := by omega
      have c0 : ∃ u0, wr.cell? ⟨w.heap.size, ix - 1, none⟩ = some u0 := ⟨cs[ix - 1]'(by omega), by rw [hbk.cell]; exact Array.getElem?_eq_getElem (by omega)⟩
      obtain ⟨u0, c0⟩ := c0
      have f0 := hbk.frozen (ix - 1)
      obtain ⟨iy, hiy⟩ : ∃ iy, iy = ix - 1 := ⟨_, rfl⟩
      rw [← hiy] at c0 f0
      have hiy1 : ((ix : Int) - 1) = (iy : Int) := by omega
      have hiy2 : iy < 65 := by omega
      have hdrop : (cs.setIfInBounds iy (.int .u8 ((lowDig v).toNat : Int))).toList.drop iy = cellsL (lowDig v :: acc) := by
        rw [Array.toList_setIfInBounds, drop_set_here _ _ _ (by rw [Array.length_toList]; omega), show iy + 1 = ix by omega, HC.out]
        rfl
      have hbk2 := hbk.set iy (.int .u8 ((lowDig v).toNat : Int))
      have hcv := string_at (n := 65 - iy) (c := 65 - iy) hbk2 hdrop (by simp; omega)
      have HX2 : Hid (lowDig v :: acc = hexLow u) := by
        show _ = _
        rw [← HX.out, hexLow_small hbig]; rfl
      have hb2 := hbel.setCell (p := ⟨w.heap.size, iy, none⟩) (Nat.le_refl _) (.int .u8 ((lowDig v).toNat : Int))
      have hk1 : (iy : Int) ≤ 65 := by omega
      clear HX HC hdrop hiy
      go_upto_region 25 with fail
      rw [dig_at v hm]
      generalize wr.setCell ⟨w.heap.size, iy, none⟩ (.int .u8 ((lowDig v).toNat : Int)) = W2 at hbk2 hcv hb2 ⊢
      go_wp2_with fail
      refine ⟨rfl, _, results131_run rfl rfl, ?_, hb2⟩
      rw [HX2.out]; rfl

/-- strconv.FormatInt at base 16. -/
theorem format16 (u : Nat) (hu : u < 16 ^ 8) (w : World) (ht : w.cell? ⟨6, 15, none⟩ = some (.int .u8 4)) :
    Calls Tryd.prog 88 #[.int .i64 (u : Int), .int .i64 16] w fun e w' => e = .returned (.string (bsz (hexLow u))) ∧ Below w.heap.size w w' := by
  have h1 : Calls Tryd.prog 111 #[.int .i64 (u : Int), .int .i64 16] w fun e w' => e = .returned (.string (bsz (hexLow u))) ∧ Below w.heap.size w w' := by
    have h0 : ¬ (u : Int) < 0 := by omega
    have h0' : decide ((u : Int) < 0) = false := by simp
    go_enter Tryd.func111, Tryd.ntmps111
    go_wp2_with fail
    refine (fmt16 u hu w ht).mono ?_
    rintro e w1 ⟨rfl, hb⟩
    go_wp2
    go_ret
    exact ⟨rfl, hb⟩
  go_enter Tryd.func88, Tryd.ntmps88
  go_wp2_with fail
  refine h1.mono ?_
  rintro e w1 ⟨rfl, hb⟩
  go_wp2
  go_ret
  exact ⟨rfl, hb⟩

end Go.Proofs.YtfeppbiodbhpcaaDoor
