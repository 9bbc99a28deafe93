/- What formatBits does at base 16 (a contract; nothing is claimed here). · What appendPoint does (a contract; nothing is claimed here). · What appendMark does (a contract; nothing is claimed here). -/
import Derived.Test.YtpmckfmjegehgaaGreatDoorJ2
import Derived.Deep.CutRange
import Derived.Test.YtpmckfmjegehgaaGreatDoorShelf
import Derived.Test.YtpmckfmjegehgaaGreatDoorJ3
import Derived.Lib.AppendStr
import Derived.Lib.ItoaLen
namespace Go.Proofs.YtpmckfmjegehgaaGreatDoor
open Go.RowKit Go.Vf Go.Maps

set_option maxRecDepth 10000 in
theorem tz64 (w : World) (ht : w.cell? ⟨6, 15, none⟩ = some (.int .u8 4)) : Calls Tryz.prog 147 #[.int .u64 16] w fun e w' => e = .returned (.int .i64 4) ∧ w = w' := by
  have e1 : IntKind.u64.wrap (-16) = 18446744073709551600 := by decide
  have e2 : bits BinOp.and IntKind.u64 16 18446744073709551600 = 16 := by decide
  have e3 : IntKind.u64.wrap (16 * 285870213051353865) = 4573923408821661840 := by decide
  go_enter Tryz.func147, Tryz.ntmps147
  go_wp2
  go_ret
  exact ⟨rfl, rfl⟩

theorem tz (w : World) (ht : w.cell? ⟨6, 15, none⟩ = some (.int .u8 4)) : Calls Tryz.prog 142 #[.int .u64 16] w fun e w' => e = .returned (.int .i64 4) ∧ w = w' := by
  go_enter Tryz.func142, Tryz.ntmps142
  go_wp2_with fail
  refine (tz64 w ht).mono ?_
  rintro e w1 ⟨rfl, rfl⟩
  go_wp2
  go_ret
  exact ⟨rfl, rfl⟩

theorem pow2 (w : World) : Calls Tryz.prog 141 #[.int .i64 16] w fun e w' => e = .returned (.bool true) ∧ w = w' := by
  have e1 : bits BinOp.and IntKind.i64 16 15 = 0 := by decide
  go_enter Tryz.func141, Tryz.ntmps141
  go_wp2
  go_ret
  exact ⟨rfl, rfl⟩

/-- Digits to the base 16, small letters. -/
def lowDig (d : Nat) : UInt8 := if d < 10 then UInt8.ofNat (48 + d) else UInt8.ofNat (87 + d)
def hexLow (u : Nat) : List UInt8 := if u < 16 then [lowDig u] else hexLow (u / 16) ++ [lowDig (u % 16)]
termination_by u
decreasing_by omega

theorem and15 (u : Nat) (hu : u < 16 ^ 8) : bits BinOp.and IntKind.u64 (u : Int) 15 = ((u % 16 : Nat) : Int) := by
  have h := bits_and_u64_nat u 15 (by omega) (by omega)
  rw [show ((15 : Nat) : Int) = 15 from rfl] at h
  rw [h]
  congr 1
  exact Nat.and_two_pow_sub_one_eq_mod u 4

theorem dig_at : ∀ (d : Nat) (_ : d < 16) (h' : d < (⟨#[48, 49, 50, 51, 52, 53, 54, 55, 56, 57, 97, 98, 99, 100, 101, 102, 103, 104, 105, 106, 107, 108, 109, 110, 111, 112, 113, 114, 115, 116, 117, 118, 119, 120, 121, 122]⟩ : ByteArray).size), ((⟨#[48, 49, 50, 51, 52, 53, 54, 55, 56, 57, 97, 98, 99, 100, 101, 102, 103, 104, 105, 106, 107, 108, 109, 110, 111, 112, 113, 114, 115, 116, 117, 118, 119, 120, 121, 122]⟩ : ByteArray)[d]'h').toNat = (lowDig d).toNat := by
  intro d h h'
  have hd : d = 0 ∨ d = 1 ∨ d = 2 ∨ d = 3 ∨ d = 4 ∨ d = 5 ∨ d = 6 ∨ d = 7 ∨ d = 8 ∨ d = 9 ∨ d = 10 ∨ d = 11 ∨ d = 12 ∨ d = 13 ∨ d = 14 ∨ d = 15 := by omega
  rcases hd with rfl | rfl | rfl | rfl | rfl | rfl | rfl | rfl | rfl | rfl | rfl | rfl | rfl | rfl | rfl | rfl <;> rfl
theorem drop_set_here {α : Type} (l : List α) (n : Nat) (a : α) (h : n < l.length) : (l.set n a).drop n = a :: l.drop (n + 1) := by
  induction l generalizing n with
  | nil => simp at h
  | cons b r ih =>
    cases n with
    | zero => simp
    | succ n => simpa using ih n (by simpa using h)
/-- A string out of a row at an offset. -/
theorem string_at {w : World} {b : Nat} {cs : Array Value} {l : List UInt8} {off n c : Nat} (h : Blk w b 172 cs) (hl : cs.toList.drop off = cellsL l) (hn : n = l.length) :
    (convert 70 9 (.slice (some ⟨b, off, none⟩) n c)).run Tryz.prog w = .ok (.string (bsz l)) w := by
  subst hn
  have hc := run_convert_bytes_arg (P := Tryz.prog) w 70 5 Tryz.underlying70 Tryz.underlying5 b off l.length c (l.map fun x => (x.toNat : Int)) (by simp) (fun i hi => by
    rw [h.cell]
    have e1 : cs.toList[off + i]? = (cellsL l)[i]? := by rw [← hl, List.getElem?_drop]
    have hi' : i < l.length := by simpa using hi
    rw [← Array.getElem?_toList, e1]
    simp [cellsL, List.getD, hi']) 9 Tryz.underlying9
  rw [hc]
  have e : strOfNums (l.map fun x => (x.toNat : Int)) = bsz l := data_inj (by rw [strOfNums_data]; simp [Function.comp_def])
  rw [e]
theorem hexLow_big {v : Nat} (h : 16 ≤ v) : hexLow v = hexLow (v / 16) ++ [lowDig (v % 16)] := by
  rw [hexLow, if_neg (by omega)]
theorem hexLow_small {v : Nat} (h : ¬ 16 ≤ v) : hexLow v = [lowDig v] := by
  rw [hexLow, if_pos (by omega)]

theorem results131_run {tmps : Array Value} {w : World} {a b : Value} (t2 : tmps[10]?.getD undef = a) (t3 : tmps[11]?.getD undef = b) :
    (results Tryz.f131 tmps).run Tryz.prog w = .ok (.tuple #[a, b]) w := by
  simp [results, Tryz.results131, go_sem, t2, t3]

theorem zero172 : Tryz.zeroCells172.size = 65 := by kernel_rfl

set_option maxHeartbeats 4000000 in
set_option maxRecDepth 20000 in
theorem fmt16 (u : Nat) (hu : u < 16 ^ 8) (w : World) (ht : w.cell? ⟨6, 15, none⟩ = some (.int .u8 4)) :
    Calls Tryz.prog 131 #[.slice none 0 0, .int .u64 (u : Int), .int .i64 16, .bool false, .bool false] w fun e w' => e = .returned (.tuple #[.slice none 0 0, .string (bsz (hexLow u))]) ∧ Below w.heap.size w w' := by
  have hlt := World.block_lt_of_cell? w _ ht
  have hbn := Blk.new w 172 Tryz.zeroCells172
  have hb0 := (Below.refl w.heap.size w).alloc (Nat.le_refl _) (.cells Tryz.zeroCells172 172)
  have ht0 := (hb0.cell (p := ⟨6, 15, none⟩) hlt).trans ht
  go_enter Tryz.func131, Tryz.ntmps131
  go_wp2_with fail
  generalize w.alloc (.cells Tryz.zeroCells172 172) = W at hbn hb0 ht0 ⊢
  have hz := zero172
  generalize Tryz.zeroCells172 = cs0 at hbn hz
  refine (pow2 W).mono ?_
  rintro e w1 ⟨rfl, rfl⟩
  go_wp2_with fail
  refine (tz W ht0).mono ?_
  rintro e w1 ⟨rfl, rfl⟩
  go_wp2_with fail
  go_loopw [1, 13] (fun x i wr => ∃ (v ix : Nat) (cs : Array Value) (acc : List UInt8), x = .int .u64 (v : Int) ∧ i = .int .i64 (ix : Int) ∧ ix + acc.length = 65 ∧ v < 16 ^ (8 - acc.length) ∧ acc.length ≤ 7 ∧ Blk wr w.heap.size 172 cs ∧ cs.size = 65 ∧ Hid (cs.toList.drop ix = cellsL acc) ∧ Hid (hexLow v ++ acc = hexLow u) ∧ Below w.heap.size w wr) (fun x _ _ => (intOf x).toNat)
  case atStart => exact ⟨u, 65, cs0, [], rfl, rfl, rfl, by simpa using hu, by simp, hbn, hz, by show _ = _; simp [cellsL, hz], by show _ = _; simp, hb0⟩
  case round =>
    obtain ⟨v, ix, cs, acc, rfl, rfl, hix, hv, hal, hbk, hcs, HC, HX, hbel⟩ := hrel
    have hp8 : 16 ^ (8 - acc.length) ≤ 16 ^ 8 := Nat.pow_le_pow_right (by omega) (by omega)
    have hv8 : v < 16 ^ 8 := by omega
    by_cases hbig : 16 ≤ v
    · have hand := and15 v hv8
      have hm := Nat.mod_lt v (show 0 < 16 by omega)
      have c0 : ∃ u0, wr.cell? ⟨w.heap.size, ix - 1, none⟩ = some u0 := ⟨cs[ix - 1]'(by omega), by rw [hbk.cell]; exact Array.getElem?_eq_getElem (by omega)⟩
      obtain ⟨u0, c0⟩ := c0
      have f0 := hbk.frozen (ix - 1)
      obtain ⟨iy, hiy⟩ : ∃ iy, iy = ix - 1 := ⟨_, rfl⟩
      rw [← hiy] at c0 f0
      have hiy1 : ((ix : Int) - 1) = (iy : Int) := by omega
      have hiy2 : iy < 65 := by omega
      generalize hdd : v % 16 = dd at hand hm
      have HDD : Hid (v % 16 = dd) := hdd
      clear hdd
      have hn6 : acc.length ≤ 6 := by
        by_cases h7 : acc.length = 7
        · rw [h7] at hv; omega
        · omega
      have hpw : v / 16 < 16 ^ (8 - (acc.length + 1)) := by
        have e : 8 - acc.length = (8 - (acc.length + 1)) + 1 := by omega
        rw [e, Nat.pow_succ] at hv
        omega
      have hdrop : (cs.setIfInBounds iy (.int .u8 ((lowDig dd).toNat : Int))).toList.drop iy = cellsL (lowDig dd :: acc) := by
        rw [Array.toList_setIfInBounds, drop_set_here _ _ _ (by rw [Array.length_toList]; omega), show iy + 1 = ix by omega, HC.out]
        rfl
      have HDR : Hid ((cs.setIfInBounds iy (.int .u8 ((lowDig dd).toNat : Int))).toList.drop iy = cellsL (lowDig dd :: acc)) := hdrop
      have HX2 : Hid (hexLow (v / 16) ++ (lowDig dd :: acc) = hexLow u) := by
        show _ = _
        rw [← HX.out, hexLow_big hbig, HDD.out]; simp
      clear hdrop HX HC hiy
      go_wp2_with fail
      rw [dig_at dd hm]
      go_roundw
      case rel => exact ⟨v / 16, iy, _, lowDig dd :: acc, by simp, rfl, by simp; omega, hpw, by simp; omega, hbk.set iy _, by simpa using hcs, HDR, HX2, hbel.setCell (p := ⟨w.heap.size, iy, none⟩) (Nat.le_refl _) _⟩
      case measure => simp only [intOf]; omega
    · have hm : v < 16 := by omega
      have c0 : ∃ u0, wr.cell? ⟨w.heap.size, ix - 1, none⟩ = some u0 := ⟨cs[ix - 1]'(by omega), by rw [hbk.cell]; exact Array.getElem?_eq_getElem (by omega)⟩
      obtain ⟨u0, c0⟩ := c0
      have f0 := hbk.frozen (ix - 1)
      obtain ⟨iy, hiy⟩ : ∃ iy, iy = ix - 1 := ⟨_, rfl⟩
      rw [← hiy] at c0 f0
      have hiy1 : ((ix : Int) - 1) = (iy : Int) := by omega
      have hiy2 : iy < 65 := by omega
      have hdrop : (cs.setIfInBounds iy (.int .u8 ((lowDig v).toNat : Int))).toList.drop iy = cellsL (lowDig v :: acc) := by
        rw [Array.toList_setIfInBounds, drop_set_here _ _ _ (by rw [Array.length_toList]; omega), show iy + 1 = ix by omega, HC.out]
        rfl
      have hbk2 := hbk.set iy (.int .u8 ((lowDig v).toNat : Int))
      have hcv := string_at (n := 65 - iy) (c := 65 - iy) hbk2 hdrop (by simp; omega)
      have HX2 : Hid (lowDig v :: acc = hexLow u) := by
        show _ = _
        rw [← HX.out, hexLow_small hbig]; rfl
      have hb2 := hbel.setCell (p := ⟨w.heap.size, iy, none⟩) (Nat.le_refl _) (.int .u8 ((lowDig v).toNat : Int))
      have hk1 : (iy : Int) ≤ 65 := by omega
      clear HX HC hdrop hiy
      go_upto_region 25 with fail
      rw [dig_at v hm]
      generalize wr.setCell ⟨w.heap.size, iy, none⟩ (.int .u8 ((lowDig v).toNat : Int)) = W2 at hbk2 hcv hb2 ⊢
      go_wp2_with fail
      refine ⟨rfl, _, results131_run rfl rfl, ?_, hb2⟩
      rw [HX2.out]; rfl

/-- strconv.FormatInt at base 16. -/
theorem format16 (u : Nat) (hu : u < 16 ^ 8) (w : World) (ht : w.cell? ⟨6, 15, none⟩ = some (.int .u8 4)) :
    Calls Tryz.prog 84 #[.int .i64 (u : Int), .int .i64 16] w fun e w' => e = .returned (.string (bsz (hexLow u))) ∧ Below w.heap.size w w' := by
  have h1 : Calls Tryz.prog 108 #[.int .i64 (u : Int), .int .i64 16] w fun e w' => e = .returned (.string (bsz (hexLow u))) ∧ Below w.heap.size w w' := by
    have h0 : ¬ (u : Int) < 0 := by omega
    have h0' : decide ((u : Int) < 0) = false := by simp
    go_enter Tryz.func108, Tryz.ntmps108
    go_wp2_with fail
    refine (fmt16 u hu w ht).mono ?_
    rintro e w1 ⟨rfl, hb⟩
    go_wp2
    go_ret
    exact ⟨rfl, hb⟩
  go_enter Tryz.func84, Tryz.ntmps84
  go_wp2_with fail
  refine h1.mono ?_
  rintro e w1 ⟨rfl, hb⟩
  go_wp2
  go_ret
  exact ⟨rfl, hb⟩

end Go.Proofs.YtpmckfmjegehgaaGreatDoor

namespace Go.Proofs.YtpmckfmjegehgaaGreatDoor
open Go.RowKit Go.Vf Go.Maps

theorem info5 : (Tryz.prog.info? 5).map (fun i => (i.zero, i.size, i.bytes)) = some (some (.int .u8 0), 1, 1) := by kernel_rfl

/-- A point's digits. -/
def upHex (u : Nat) : List UInt8 := Lib.toUpperA (hexLow u)
def pointS (u : Nat) : List UInt8 := List.replicate (4 - (upHex u).length) 48 ++ upHex u

theorem hexLow_len : ∀ (u k : Nat), u < 16 ^ k → 0 < k → (hexLow u).length ≤ k := by
  intro u
  induction u using Nat.strongRecOn with
  | ind u ih =>
    intro k hk h0
    by_cases h : 16 ≤ u
    · rw [hexLow_big h]
      obtain ⟨k', rfl⟩ : ∃ k', k = k' + 1 := ⟨k - 1, by omega⟩
      rw [Nat.pow_succ] at hk
      have hk' : 0 < k' := by
        by_cases e : k' = 0
        · subst e; omega
        · omega
      have := ih (u / 16) (by omega) k' (by omega) hk'
      simp; omega
    · rw [hexLow_small h]; simp; omega
theorem hexLow_ascii : ∀ (u : Nat), ∀ b ∈ hexLow u, b.toNat < 128 := by
  intro u
  induction u using Nat.strongRecOn with
  | ind u ih =>
    have hl : ∀ d, d < 16 → (lowDig d).toNat < 128 := by decide
    by_cases h : 16 ≤ u
    · intro b hb
      rw [hexLow_big h] at hb
      rcases List.mem_append.1 hb with hb | hb
      · exact ih (u / 16) (by omega) b hb
      · simp at hb; subst hb; exact hl _ (Nat.mod_lt _ (by omega))
    · intro b hb
      rw [hexLow_small h] at hb
      simp at hb; subst hb; exact hl _ (by omega)

theorem toUpperA_len (l : List UInt8) : (Lib.toUpperA l).length = l.length := by simp [Lib.toUpperA]
theorem bown_val {e : TypeId} {w : World} {base : Nat} {v : Value} {acc : List UInt8} (h : BOwn e w base v acc) : ∃ a cap, v = .slice a acc.length cap := row_val h
theorem bown_after {e : TypeId} {w w' : World} {base : Nat} {v : Value} {acc : List UInt8} (h : BOwn e w base v acc) (hb : Below w.heap.size w w') : BOwn e w' base v acc := own_after h hb

/-- Blocks that hold no bytes stay. -/
def KO (w w' : World) : Prop := ∀ j t cs, t ≠ 5 → Blk w j t cs → Blk w' j t cs
theorem KO.refl (w : World) : KO w w := fun _ _ _ _ h => h
theorem KO.trans {w w1 w2 : World} (h : KO w w1) (h2 : KO w1 w2) : KO w w2 := fun j t cs ht hj => h2 j t cs ht (h j t cs ht hj)
theorem KO.of_below {w w' : World} (h : Below w.heap.size w w') : KO w w' := fun _ _ _ _ hj => hj.below h hj.lt
theorem KO.alloc {w w' : World} (h : KO w w') (o : Obj) : KO w (w'.alloc o) := fun j t cs ht hj => (Below.heap_alloc w' o j (h j t cs ht hj).lt).trans (h j t cs ht hj)
theorem KO.grown {w w' : World} {base : Nat} {v : Value} {acc : List UInt8} (hown : BOwn 5 w base v acc) (hg : w.grownBy w' v.ownBlock) : KO w w' := fun j _ _ ht hj => (hg.block j hj.lt (own_ne_blk hown hj (fun e => ht e.symm))).trans hj

/-- 'text = append(text, b)'. -/
theorem wpList_append_byteK {w : World} {ops : Array Oper} {rest : List Oper} {o : Oper} {a : Act} {Q : Exit → Act → World → Prop} (hgd : o.guard = none) (s x : Operand)
    (ho : o.op = .call { callee := .builtin .append, args := #[s, x], argTypes := #[70, 70] })
    (base : Nat) (v : Value) (acc : List UInt8) (hs : a.eval s = v) (hown : BOwn 5 w base v acc) (b : UInt8) (n : Int) (hn : n = (b.toNat : Int)) (c : Nat) (hx : a.eval x = .slice (some ⟨w.heap.size, 0, none⟩) 1 c)
    (hlen : acc.length ≤ 1099511627776) (hbase : base ≤ w.heap.size) (w0 : World) (hb : Below base w0 w) (hk : KO w0 w)
    (h : ∀ v' w', BOwn 5 w' base v' (acc ++ [b]) → Below base w0 w' → base ≤ w'.heap.size → KO w0 w' → wpList Tryz.prog ops Q rest (a.put o.dst v') w') :
    wpList Tryz.prog ops Q (o :: rest) a (w.alloc (.cells #[.int .u8 n] 5)) := by
  subst hn
  obtain ⟨i, hi, hz, hsz, hby⟩ := info_parts info5
  refine wpList_append_own (P := Tryz.prog) _ hgd s x 70 ho base 5 i (.int .u8 0) 1 1 Tryz.underlying70 hi hz hsz hby rfl (by decide) v acc.length (cellsL acc) hs (BOwn.alloc hown _) ⟨w.heap.size, 0, none⟩ 1 c [.int .u8 (b.toNat : Int)] hx rfl ?_ ?_ ?_ ?_ ?_ ?_
  · intro j u hj
    match j, hj with
    | 0, hj => simp at hj; subst hj; simp [Addr.add]
  · intro u hu; simp at hu; subst hu; rfl
  · unfold maxLen; omega
  · omega
  · simp; omega
  · intro v' w' h1 h2 _
    refine h v' w' ?_ ?_ ?_ ?_
    · unfold BOwn
      have e1 : cellsL (acc ++ [b]) = cellsL acc ++ [.int .u8 (b.toNat : Int)] := by simp [cellsL]
      rw [e1, List.length_append]
      exact h1
    · exact (hb.alloc hbase _).grown h2 (by simp; omega) (fun k hk => (World.ownsRow.lt (BOwn.alloc hown (.cells #[.int .u8 (b.toNat : Int)] 5)) k hk).1)
    · have := h2.size; simp at this; omega
    · exact (hk.alloc _).trans (KO.grown (BOwn.alloc hown _) h2)

/-- 'text = append(text, s...)' of a string. -/
theorem wpList_append_text {w : World} {ops : Array Oper} {rest : List Oper} {o : Oper} {a : Act} {Q : Exit → Act → World → Prop} (hgd : o.guard = none) (sl x : Operand)
    (ho : o.op = .call { callee := .builtin .append, args := #[sl, x], argTypes := #[70, 9] }) (base : Nat) (v : Value) (acc : List UInt8) (hs : a.eval sl = v) (hown : BOwn 5 w base v acc) (l : List UInt8) (hx : a.eval x = .string (bsz l))
    (hlen : acc.length + l.length ≤ 1099511627776) (hbase : base ≤ w.heap.size)
    (h : ∀ v' w', BOwn 5 w' base v' (acc ++ l) → Below base w w' → base ≤ w'.heap.size → KO w w' → wpList Tryz.prog ops Q rest (a.put o.dst v') w') : wpList Tryz.prog ops Q (o :: rest) a w := by
  obtain ⟨i, hi, hz, hsz, hby⟩ := info_parts info5
  have hsl : (bsz l).size = l.length := by simp [ByteArray.size]
  refine Lib.wpList_append_own_string (P := Tryz.prog) w hgd sl x 70 9 ho base 5 i Tryz.underlying70 Tryz.underlying9 hi hz hsz hby v acc.length (cellsL acc) hs hown (bsz l) hx (by rw [hsl]; unfold maxLen; omega) (by rw [hsl]; omega) hbase ?_
  intro v' w' h1 h2 _
  refine h v' w' ?_ ((Below.refl base w).grown h2 hbase (fun j hj => (own_ge hown hj).1)) (Nat.le_trans hbase h2.size) (KO.grown hown h2)
  unfold BOwn
  rw [hsl] at h1
  rw [List.length_append]
  have e : cellsL (acc ++ l) = cellsL acc ++ Lib.strCells (bsz l) := by simp [cellsL, Lib.strCells]
  rw [e]
  exact h1

set_option maxHeartbeats 4000000 in
set_option maxRecDepth 20000 in
theorem appendPoint_any (u base : Nat) (hu : u ≤ 1114111) (v : Value) (acc : List UInt8) (w : World) (hown : BOwn 5 w base v acc) (hacc : acc.length ≤ 1000000000) (hbase : base ≤ w.heap.size) (_h6 : 6 < base) (ht : w.cell? ⟨6, 15, none⟩ = some (.int .u8 4)) :
    Calls Tryz.prog 72 #[v, .int .i64 (u : Int)] w fun e w' => ∃ v', e = .returned v' ∧ BOwn 5 w' base v' (acc ++ pointS u) ∧ Below base w w' ∧ base ≤ w'.heap.size ∧ KO w w' := by
  have hu8 : u < 16 ^ 8 := by omega
  have hl6 := hexLow_len u 6 (by omega) (by omega)
  obtain ⟨a0, c0, rfl⟩ := bown_val hown
  go_enter Tryz.func72, Tryz.ntmps72
  go_wp2_with fail
  refine (format16 u hu8 w ht).mono ?_
  rintro e w1 ⟨rfl, hb1⟩
  go_wp2_with fail
  refine (Tryz.strings_ToUpper_ascii (bsz (hexLow u)) w1 (by simp [ByteArray.size]; omega) (fun j b hj => hexLow_ascii u b (List.mem_of_getElem? (by simpa [bsz] using hj)))).mono ?_
  rw [show (bsz (hexLow u)).data.toList = hexLow u by simp]
  rintro e w2 ⟨rfl, hb2⟩
  have hown2 := bown_after (bown_after hown hb1) hb2
  have hbw2 : Below base w w2 := (hb1.mono hbase).trans (hb2.mono (Nat.le_trans hbase hb1.size))
  have hsz2 : base ≤ w2.heap.size := Nat.le_trans hbase (Nat.le_trans hb1.size hb2.size)
  have hko2 : KO w w2 := (KO.of_below hb1).trans (KO.of_below hb2)
  have HU : Hid (pointS u = List.replicate (4 - (upHex u).length) 48 ++ upHex u) := rfl
  have hul : (upHex u).length ≤ 6 := by unfold upHex; rw [toUpperA_len]; exact hl6
  have hsz : (bsz (upHex u)).size = (upHex u).length := by simp [ByteArray.size]
  rw [show (⟨(Lib.toUpperA (hexLow u)).toArray⟩ : ByteArray) = bsz (upHex u) from rfl]
  generalize upHex u = up at HU hul hsz ⊢
  clear hown hl6 hb1 hb2
  go_wp2_with fail
  go_loopw [0, 12] (fun v i wr => ∃ (k : Nat), i = .int .i64 k ∧ k ≤ 4 - up.length ∧ BOwn 5 wr base v (acc ++ List.replicate k 48) ∧ Below base w wr ∧ base ≤ wr.heap.size ∧ Hid (KO w wr)) (fun _ i _ => 4 - up.length - (intOf i).toNat)
  case atStart => exact ⟨0, rfl, by omega, by simpa using hown2, hbw2, hsz2, hko2⟩
  case round =>
    obtain ⟨k, rfl, hk, hown, hbel, hsz3, HKO⟩ := hrel
    have hll : (acc ++ List.replicate k 48).length ≤ 1099511627776 := by simp; omega
    by_cases hlt : k + up.length < 4
    · have HR : Hid ((acc ++ List.replicate k 48) ++ [48] = acc ++ List.replicate (k + 1) 48) := by show _ = _; rw [List.append_assoc, List.replicate_succ']
      go_wp2_with (first | (at_builtin; refine wpList_append_byteK rfl _ _ rfl base _ (acc ++ List.replicate k 48) rfl hown 48 _ rfl _ rfl hll hsz3 w hbel HKO.out ?_; intro v3 w3 hown3 hbel3 hsz4 hko3))
      go_roundw
      case rel => exact ⟨k + 1, by simp, by omega, by rw [← HR.out]; exact hown3, hbel3, hsz4, hko3⟩
      case measure => simp only [intOf]; omega
    · have hk2 : k = 4 - up.length := by omega
      have HF : Hid ((acc ++ List.replicate k 48) ++ up = acc ++ pointS u) := by show _ = _; rw [HU.out, hk2, List.append_assoc]
      have hl2 : (acc ++ List.replicate k 48).length + up.length ≤ 1099511627776 := by simp; omega
      clear hk2
      go_wp2_with (first | (at_builtin; refine wpList_append_text rfl _ _ rfl base _ (acc ++ List.replicate k 48) rfl hown up rfl hl2 hsz3 ?_; intro v3 w3 hown3 hbel3 hsz4 hko3))
      go_ret
      exact ⟨v3, rfl, by rw [← HF.out]; exact hown3, hbel.trans hbel3, hsz4, HKO.out.trans hko3⟩

end Go.Proofs.YtpmckfmjegehgaaGreatDoor

namespace Go.Proofs.YtpmckfmjegehgaaGreatDoor
open Go.RowKit Go.Vf Go.Maps

/-- The two tables lie below a base. -/
structure Tb (w : World) (base : Nat) : Prop where
  h6 : 6 < base
  tz : w.cell? ⟨6, 15, none⟩ = some (.int .u8 4)
  pow : Lib.TabBelow Tryz.prog base w "internal/strconv.uint64pow10" .u64 Lib.pow10Tab
theorem Tb.below {w w' : World} {base : Nat} (h : Tb w base) (hb : Below base w w') : Tb w' base := ⟨h.h6, (hb.cell (p := ⟨6, 15, none⟩) h.h6).trans h.tz, h.pow.on hb⟩
theorem Tb.up {w : World} {base base' : Nat} (h : Tb w base) (hb : base ≤ base') : Tb w base' := ⟨Nat.lt_of_lt_of_le h.h6 hb, h.tz, fun w' hw => h.pow w' (hw.mono hb)⟩

/-- A mark's line. -/
def joinS : List Nat → List UInt8
  | [] => []
  | [u] => pointS u
  | u :: r => pointS u ++ 32 :: joinS r
def markS (u c : Nat) (us : List Nat) : List UInt8 := pointS u ++ [59] ++ Lib.itoa (c : Int) ++ [59] ++ joinS us
theorem joinS_step (us : List Nat) : ∀ (k : Nat) (hk : k < us.length), joinS (us.take (k + 1)) = joinS (us.take k) ++ (if 0 < k then [32] else []) ++ pointS us[k] := by
  have key : ∀ (l : List Nat) (x : Nat), l ≠ [] → joinS (l ++ [x]) = joinS l ++ [32] ++ pointS x := by
    intro l
    induction l with
    | nil => intro x h; exact absurd rfl h
    | cons a r ih =>
      intro x _
      cases r with
      | nil => simp [joinS]
      | cons b t =>
        have := ih x (by simp)
        simp only [List.cons_append] at this ⊢
        rw [joinS, this]
        · simp [joinS]
        · simp
  intro k hk
  rw [List.take_succ_eq_append_getElem hk]
  by_cases h0 : k = 0
  · subst h0; simp [joinS]
  · rw [key _ _ (fun e => by
      have h1 : (us.take k).length = k := by rw [List.length_take]; omega
      rw [e] at h1
      exact h0 h1.symm), if_pos (by omega)]

theorem pointS_len (u : Nat) (hu : u ≤ 1114111) : (pointS u).length ≤ 6 ∧ 4 ≤ (pointS u).length := by
  have := hexLow_len u 6 (by omega) (by omega)
  unfold pointS upHex
  rw [List.length_append, List.length_replicate, toUpperA_len]
  omega
theorem itoa_len (c : Nat) (hc : c ≤ 254) : (Lib.itoa (c : Int)).length ≤ 21 := Lib.itoa_length_le _ (by omega) (by omega)
theorem joinS_len : ∀ (us : List Nat), (∀ u ∈ us, u ≤ 1114111) → (joinS us).length ≤ 7 * us.length := by
  intro us
  induction us with
  | nil => simp [joinS]
  | cons a r ih =>
    intro h
    have h1 := pointS_len a (h a (by simp))
    have h2 := ih (fun u hu => h u (by simp [hu]))
    cases r with
    | nil => simp [joinS]; omega
    | cons b t => rw [joinS]; · simp at h2 ⊢; omega
                  · simp

theorem KO.of_others {w w' : World} (h : Lib.OthersKept 5 none w w') : KO w w' := fun j t cs ht hj => h j _ hj (by simp) (fun c fz e => by
  simp only [Obj.cells.injEq] at e
  exact ht e.2.1)

set_option maxHeartbeats 4000000 in
set_option maxRecDepth 20000 in
theorem appendMark_any (base n₀ u c : Nat) (us : List Nat) (hu : u ≤ 1114111) (hc : c ≤ 254) (hus : ∀ q ∈ us, q ≤ 1114111) (hul : us.length ≤ 65536) (v : Value) (acc : List UInt8) (a : Option Addr) (k cap : Nat) (w : World) (hown : BOwn 5 w base v acc) (hacc : acc.length ≤ 100000) (hbase : base ≤ w.heap.size) (htb : Tb w base)
    (hn₀ : n₀ ≤ base) (hin : Ints n₀ w (.slice a k cap) (us.map fun q : Nat => (q : Int))) :
    Calls Tryz.prog 58 #[v, .agg #[.int .i64 (u : Int), .int .i64 (c : Int), .slice a k cap]] w fun e w' => ∃ v', e = .returned v' ∧ BOwn 5 w' base v' (acc ++ markS u c us) ∧ Below base w w' ∧ base ≤ w'.heap.size ∧ KO w w' := by
  obtain ⟨a', c', he⟩ := hin.val
  simp only [Value.slice.injEq, List.length_map] at he
  have HK : Hid (k = us.length) := he.2.1
  have hkl : k ≤ 65536 := by rw [he.2.1]; exact hul
  clear he
  have hb0 := (Below.refl base w).alloc hbase (.cells #[.int .i64 (u : Int), .int .i64 (c : Int), .slice a k cap] 36)
  have hbn := Blk.new w 36 #[.int .i64 (u : Int), .int .i64 (c : Int), .slice a k cap]
  have hown0 : BOwn 5 (w.alloc (.cells #[.int .i64 (u : Int), .int .i64 (c : Int), .slice a k cap] 36)) base v acc := BOwn.alloc hown _
  have hko0 := (KO.refl w).alloc (.cells #[.int .i64 (u : Int), .int .i64 (c : Int), .slice a k cap] 36)
  have hsz0 : base ≤ (w.alloc (.cells #[.int .i64 (u : Int), .int .i64 (c : Int), .slice a k cap] 36)).heap.size := by simp; omega
  go_enter Tryz.func58, Tryz.ntmps58
  go_upto_region 1 with fail
  generalize w.alloc (.cells #[.int .i64 (u : Int), .int .i64 (c : Int), .slice a k cap] 36) = W at hb0 hbn hown0 hsz0 hko0 ⊢
  have e0 : W.cell? ⟨w.heap.size, 0, none⟩ = some (.int .i64 (u : Int)) := hbn.cell 0
  have htb0 := htb.below hb0
  go_wp2_with fail
  refine (appendPoint_any u base hu v acc W hown0 (by omega) hsz0 htb0.h6 htb0.tz).mono ?_
  rintro e w1 ⟨v1, rfl, hown1, hb1, hsz1, hko1⟩
  have hpl := pointS_len u hu
  have hbn1 := hko1 _ _ _ (by decide) hbn
  have e1 : w1.cell? ⟨w.heap.size, 1, none⟩ = some (.int .i64 (c : Int)) := hbn1.cell 1
  have hl1 : (acc ++ pointS u).length ≤ 1099511627776 := by simp; omega
  go_wp2_with (first | (at_builtin; refine wpList_append_byteK rfl _ _ rfl base _ (acc ++ pointS u) rfl hown1 59 _ rfl _ rfl hl1 hsz1 w1 (Below.refl _ _) (KO.refl _) ?_; intro v2 w2 hown2 hb2 hsz2 hko2; have hbn2 := hko2 _ _ _ (by decide) hbn1; have e2 : w2.cell? ⟨w.heap.size, 1, none⟩ = some (.int .i64 (c : Int)) := hbn2.cell 1))
  have htb2 := (htb0.below hb1).below hb2
  have hil := itoa_len c hc
  refine (Tryz.strconv_AppendInt_10 base _ (c : Int) (by omega) (by omega) v2 _ w2 hown2 hsz2 (by simp; omega) htb2.pow).mono ?_
  rintro e w3 ⟨v3, rfl, hown3', hb3, hok3⟩
  have hko3 := KO.of_others hok3
  have hown3 : BOwn 5 w3 base v3 (((acc ++ pointS u) ++ [59]) ++ Lib.itoa (c : Int)) := by
    generalize (acc ++ pointS u) ++ [59] = hd0 at hown3' ⊢
    unfold BOwn
    rw [List.length_append]
    have e : cellsL (hd0 ++ Lib.itoa (c : Int)) = cellsL hd0 ++ Lib.byteCells (Lib.itoa (c : Int)) := by simp [cellsL, Lib.byteCells]
    rw [e]
    exact hown3'
  have hsz3 : base ≤ w3.heap.size := Nat.le_trans hsz2 hb3.size
  have hbn3 := hko3 _ _ _ (by decide) hbn2
  have hl3 : (((acc ++ pointS u) ++ [59]) ++ Lib.itoa (c : Int)).length ≤ 1099511627776 := by simp; omega
  clear hown3' hok3
  go_wp2_with (first | (at_builtin; refine wpList_append_byteK rfl _ _ rfl base _ (((acc ++ pointS u) ++ [59]) ++ Lib.itoa (c : Int)) rfl hown3 59 _ rfl _ rfl hl3 hsz3 w3 (Below.refl _ _) (KO.refl _) ?_; intro v4 w4 hown4 hb4 hsz4 hko4; have hbn4 := hko4 _ _ _ (by decide) hbn3; have e4 : w4.cell? ⟨w.heap.size, 2, none⟩ = some (.slice a k cap) := hbn4.cell 2))
  have hbel4 : Below base w w4 := (((hb0.trans hb1).trans hb2).trans hb3).trans hb4
  have hkoo4 : KO w w4 := (((hko0.trans hko1).trans hko2).trans hko3).trans hko4
  have HM : Hid (acc ++ markS u c us = ((((acc ++ pointS u) ++ [59]) ++ Lib.itoa (c : Int)) ++ [59]) ++ joinS us) := by show _ = _; simp [markS]
  have hhl : ((((acc ++ pointS u) ++ [59]) ++ Lib.itoa (c : Int)) ++ [59]).length ≤ 200000 := by simp; omega
  generalize (((acc ++ pointS u) ++ [59]) ++ Lib.itoa (c : Int)) ++ [59] = hd at hown4 HM hhl
  clear hown0 hown1 hown2 hown3 hbn hbn1 hbn2 hbn3 e0 e1 e2 htb0 htb2 hko0 hko1 hko2 hko3 hko4 hb0 hb1 hb2 hb3 hb4
  go_loopw [0, 22] (fun v i wr => ∃ (j : Nat), i = .int .i64 j ∧ j ≤ k ∧ BOwn 5 wr base v (hd ++ joinS (us.take j)) ∧ Below base w wr ∧ base ≤ wr.heap.size ∧ Hid (KO w wr)) (fun _ i _ => k - (intOf i).toNat)
  case atStart => exact ⟨0, rfl, by omega, by simpa [joinS] using hown4, hbel4, hsz4, hkoo4⟩
  case round =>
    obtain ⟨j, rfl, hj, hown, hbel, hsz, HKO⟩ := hrel
    clear hown4 hbel4 hsz4 hkoo4
    by_cases hlt : j < k
    · have hltp : j < us.length := by rw [← HK.out]; exact hlt
      have hstep := joinS_step us j hltp
      have hq := hus _ (List.getElem_mem hltp)
      have hjl := joinS_len (us.take j) (fun x hx => hus x (List.mem_of_mem_take hx))
      have hjl2 : (us.take j).length = j := by rw [List.length_take]; omega
      obtain ⟨bp, op, hao, hnk, hblt, hcell⟩ := (hin.below hbel hn₀).cell (fun e => by have := congrArg List.length e; simp at this; rw [this] at hltp; simp at hltp)
      have hcj := hcell j (by simpa using hltp)
      rw [show (us.map fun q : Nat => (q : Int))[j]?.getD 0 = (us[j] : Int) by simp [List.getElem?_eq_getElem hltp]] at hcj
      generalize us[j] = q at hcj hq hstep
      generalize joinS (us.take j) = js at hown hstep hjl
      subst hao
      have htbr := htb.below hbel
      clear hcell hnk
      by_cases hj0 : 0 < j
      · rw [if_pos hj0] at hstep
        have HS : Hid (hd ++ joinS (us.take (j + 1)) = ((hd ++ js) ++ [32]) ++ pointS q) := by show _ = _; rw [hstep]; simp
        have hl5 : (hd ++ js).length ≤ 1099511627776 := by simp; omega
        clear hstep
        go_wp2_with (first | (at_builtin; refine wpList_append_byteK rfl _ _ rfl base _ (hd ++ js) rfl hown 32 _ rfl _ rfl hl5 hsz w hbel HKO.out ?_; intro v5 w5 hown5 hb5 hsz5 hko5))
        refine (appendPoint_any q base hq v5 _ w5 hown5 (by simp; omega) hsz5 htb.h6 (htb.below hb5).tz).mono ?_
        rintro e w6 ⟨v6, rfl, hown6, hb6, hsz6, hko6⟩
        go_wp2_with fail
        go_roundw
        case rel => exact ⟨j + 1, by simp, by omega, by rw [HS.out]; exact hown6, hb5.trans hb6, hsz6, hko5.trans hko6⟩
        case measure => simp only [intOf]; omega
      · rw [if_neg hj0] at hstep
        have HS : Hid (hd ++ joinS (us.take (j + 1)) = (hd ++ js) ++ pointS q) := by show _ = _; rw [hstep]; simp
        have hj00 : decide ((0 : Int) < (j : Int)) = false := by simp; omega
        clear hstep
        go_wp2_with fail
        refine (appendPoint_any q base hq _ _ wr hown (by simp; omega) hsz htb.h6 htbr.tz).mono ?_
        rintro e w6 ⟨v6, rfl, hown6, hb6, hsz6, hko6⟩
        go_wp2_with fail
        go_roundw
        case rel => exact ⟨j + 1, by simp, by omega, by rw [HS.out]; exact hown6, hbel.trans hb6, hsz6, HKO.out.trans hko6⟩
        case measure => simp only [intOf]; omega
    · have HF : Hid (hd ++ joinS (us.take j) = acc ++ markS u c us) := by show _ = _; rw [HM.out, List.take_of_length_le (by rw [← HK.out]; omega)]
      go_wp2_with fail
      go_ret
      exact ⟨_, rfl, by rw [← HF.out]; exact hown, hbel, hsz, HKO.out⟩

end Go.Proofs.YtpmckfmjegehgaaGreatDoor
