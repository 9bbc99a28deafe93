/- Contracts and lemmas (nothing is claimed here). -/
import Derived.Test.YtkjoomdglealmaaGreatDoorRmay
import Derived.Test.YtkjoomdglealmaaGreatDoorJ13
namespace Go.Proofs.YtkjoomdglealmaaGreatDoor
open Go.RowKit Go.Vf
theorem ta74_nil  (w : World) : (Instr.typeAssert (.nilIface) 37 112 true).run Tryz.prog w = .ok (.tuple #[.pointer none, .bool false]) w := by kernel_rfl
theorem ta74_81 (y : Bool) (w : World) : (Instr.typeAssert (.iface 128 (.agg #[.bool y])) 37 112 true).run Tryz.prog w = .ok (.tuple #[.pointer none, .bool false]) w := by kernel_rfl
theorem ta74_83 (b : Bool) (m : ByteArray) (w : World) : (Instr.typeAssert (.iface 130 (.agg #[.bool b, .string m])) 37 112 true).run Tryz.prog w = .ok (.tuple #[.pointer none, .bool false]) w := by kernel_rfl
theorem ta74_85 (k : Int) (r : ByteArray) (w : World) : (Instr.typeAssert (.iface 132 (.agg #[.int .u8 k, .string r])) 37 112 true).run Tryz.prog w = .ok (.tuple #[.pointer none, .bool false]) w := by kernel_rfl
theorem ta74_74 (a : Addr) (w : World) : (Instr.typeAssert (.iface 112 (.pointer (some a))) 37 112 true).run Tryz.prog w = .ok (.tuple #[.pointer (some a), .bool true]) w := by kernel_rfl
theorem ta81_nil  (w : World) : (Instr.typeAssert (.nilIface) 37 128 true).run Tryz.prog w = .ok (.tuple #[.agg #[.bool false], .bool false]) w := by kernel_rfl
theorem ta81_81 (y : Bool) (w : World) : (Instr.typeAssert (.iface 128 (.agg #[.bool y])) 37 128 true).run Tryz.prog w = .ok (.tuple #[.agg #[.bool y], .bool true]) w := by kernel_rfl
theorem ta81_83 (b : Bool) (m : ByteArray) (w : World) : (Instr.typeAssert (.iface 130 (.agg #[.bool b, .string m])) 37 128 true).run Tryz.prog w = .ok (.tuple #[.agg #[.bool false], .bool false]) w := by kernel_rfl
theorem ta81_85 (k : Int) (r : ByteArray) (w : World) : (Instr.typeAssert (.iface 132 (.agg #[.int .u8 k, .string r])) 37 128 true).run Tryz.prog w = .ok (.tuple #[.agg #[.bool false], .bool false]) w := by kernel_rfl
theorem ta81_74 (a : Addr) (w : World) : (Instr.typeAssert (.iface 112 (.pointer (some a))) 37 128 true).run Tryz.prog w = .ok (.tuple #[.agg #[.bool false], .bool false]) w := by kernel_rfl
theorem ta83_nil  (w : World) : (Instr.typeAssert (.nilIface) 37 130 true).run Tryz.prog w = .ok (.tuple #[.agg #[.bool false, .string ⟨#[]⟩], .bool false]) w := by kernel_rfl
theorem ta83_81 (y : Bool) (w : World) : (Instr.typeAssert (.iface 128 (.agg #[.bool y])) 37 130 true).run Tryz.prog w = .ok (.tuple #[.agg #[.bool false, .string ⟨#[]⟩], .bool false]) w := by kernel_rfl
theorem ta83_83 (b : Bool) (m : ByteArray) (w : World) : (Instr.typeAssert (.iface 130 (.agg #[.bool b, .string m])) 37 130 true).run Tryz.prog w = .ok (.tuple #[.agg #[.bool b, .string m], .bool true]) w := by kernel_rfl
theorem ta83_85 (k : Int) (r : ByteArray) (w : World) : (Instr.typeAssert (.iface 132 (.agg #[.int .u8 k, .string r])) 37 130 true).run Tryz.prog w = .ok (.tuple #[.agg #[.bool false, .string ⟨#[]⟩], .bool false]) w := by kernel_rfl
theorem ta83_74 (a : Addr) (w : World) : (Instr.typeAssert (.iface 112 (.pointer (some a))) 37 130 true).run Tryz.prog w = .ok (.tuple #[.agg #[.bool false, .string ⟨#[]⟩], .bool false]) w := by kernel_rfl
theorem ta85_nil  (w : World) : (Instr.typeAssert (.nilIface) 37 132 true).run Tryz.prog w = .ok (.tuple #[.agg #[.int .u8 0, .string ⟨#[]⟩], .bool false]) w := by kernel_rfl
theorem ta85_81 (y : Bool) (w : World) : (Instr.typeAssert (.iface 128 (.agg #[.bool y])) 37 132 true).run Tryz.prog w = .ok (.tuple #[.agg #[.int .u8 0, .string ⟨#[]⟩], .bool false]) w := by kernel_rfl
theorem ta85_83 (b : Bool) (m : ByteArray) (w : World) : (Instr.typeAssert (.iface 130 (.agg #[.bool b, .string m])) 37 132 true).run Tryz.prog w = .ok (.tuple #[.agg #[.int .u8 0, .string ⟨#[]⟩], .bool false]) w := by kernel_rfl
theorem ta85_85 (k : Int) (r : ByteArray) (w : World) : (Instr.typeAssert (.iface 132 (.agg #[.int .u8 k, .string r])) 37 132 true).run Tryz.prog w = .ok (.tuple #[.agg #[.int .u8 k, .string r], .bool true]) w := by kernel_rfl
theorem ta85_74 (a : Addr) (w : World) : (Instr.typeAssert (.iface 112 (.pointer (some a))) 37 132 true).run Tryz.prog w = .ok (.tuple #[.agg #[.int .u8 0, .string ⟨#[]⟩], .bool false]) w := by kernel_rfl
theorem ta44_nil  (w : World) : (Instr.typeAssert (.nilIface) 37 68 true).run Tryz.prog w = .ok (.tuple #[.nilIface, .bool false]) w := by kernel_rfl
theorem ta44_81 (y : Bool) (w : World) : (Instr.typeAssert (.iface 128 (.agg #[.bool y])) 37 68 true).run Tryz.prog w = .ok (.tuple #[.nilIface, .bool false]) w := run_typeAssert_lacksB Tryz.underlying68 (by kernel_rfl) (by kernel_rfl) _ _ w
theorem ta44_83 (b : Bool) (m : ByteArray) (w : World) : (Instr.typeAssert (.iface 130 (.agg #[.bool b, .string m])) 37 68 true).run Tryz.prog w = .ok (.tuple #[.nilIface, .bool false]) w := run_typeAssert_lacksB Tryz.underlying68 (by kernel_rfl) (by kernel_rfl) _ _ w
theorem ta44_85 (k : Int) (r : ByteArray) (w : World) : (Instr.typeAssert (.iface 132 (.agg #[.int .u8 k, .string r])) 37 68 true).run Tryz.prog w = .ok (.tuple #[.nilIface, .bool false]) w := run_typeAssert_lacksB Tryz.underlying68 (by kernel_rfl) (by kernel_rfl) _ _ w
theorem ta44_74 (a : Addr) (w : World) : (Instr.typeAssert (.iface 112 (.pointer (some a))) 37 68 true).run Tryz.prog w = .ok (.tuple #[.iface 112 (.pointer (some a)), .bool true]) w := run_typeAssert_hasB Tryz.underlying68 (by kernel_rfl) _ _ w
theorem ta58_nil  (w : World) : (Instr.typeAssert (.nilIface) 37 141 true).run Tryz.prog w = .ok (.tuple #[.nilIface, .bool false]) w := by kernel_rfl
theorem ta58_81 (y : Bool) (w : World) : (Instr.typeAssert (.iface 128 (.agg #[.bool y])) 37 141 true).run Tryz.prog w = .ok (.tuple #[.nilIface, .bool false]) w := run_typeAssert_lacksB Tryz.underlying141 (by kernel_rfl) (by kernel_rfl) _ _ w
theorem ta58_83 (b : Bool) (m : ByteArray) (w : World) : (Instr.typeAssert (.iface 130 (.agg #[.bool b, .string m])) 37 141 true).run Tryz.prog w = .ok (.tuple #[.nilIface, .bool false]) w := run_typeAssert_lacksB Tryz.underlying141 (by kernel_rfl) (by kernel_rfl) _ _ w
theorem ta58_85 (k : Int) (r : ByteArray) (w : World) : (Instr.typeAssert (.iface 132 (.agg #[.int .u8 k, .string r])) 37 141 true).run Tryz.prog w = .ok (.tuple #[.iface 132 (.agg #[.int .u8 k, .string r]), .bool true]) w := run_typeAssert_hasB Tryz.underlying141 (by kernel_rfl) _ _ w
theorem ta58_74 (a : Addr) (w : World) : (Instr.typeAssert (.iface 112 (.pointer (some a))) 37 141 true).run Tryz.prog w = .ok (.tuple #[.nilIface, .bool false]) w := run_typeAssert_lacksB Tryz.underlying141 (by kernel_rfl) (by kernel_rfl) _ _ w
theorem ta67_nil  (w : World) : (Instr.typeAssert (.nilIface) 37 203 true).run Tryz.prog w = .ok (.tuple #[.nilIface, .bool false]) w := by kernel_rfl
theorem ta67_81 (y : Bool) (w : World) : (Instr.typeAssert (.iface 128 (.agg #[.bool y])) 37 203 true).run Tryz.prog w = .ok (.tuple #[.nilIface, .bool false]) w := run_typeAssert_lacksB Tryz.underlying203 (by kernel_rfl) (by kernel_rfl) _ _ w
theorem ta67_83 (b : Bool) (m : ByteArray) (w : World) : (Instr.typeAssert (.iface 130 (.agg #[.bool b, .string m])) 37 203 true).run Tryz.prog w = .ok (.tuple #[.iface 130 (.agg #[.bool b, .string m]), .bool true]) w := run_typeAssert_hasB Tryz.underlying203 (by kernel_rfl) _ _ w
theorem ta67_85 (k : Int) (r : ByteArray) (w : World) : (Instr.typeAssert (.iface 132 (.agg #[.int .u8 k, .string r])) 37 203 true).run Tryz.prog w = .ok (.tuple #[.nilIface, .bool false]) w := run_typeAssert_lacksB Tryz.underlying203 (by kernel_rfl) (by kernel_rfl) _ _ w
theorem ta67_74 (a : Addr) (w : World) : (Instr.typeAssert (.iface 112 (.pointer (some a))) 37 203 true).run Tryz.prog w = .ok (.tuple #[.nilIface, .bool false]) w := run_typeAssert_lacksB Tryz.underlying203 (by kernel_rfl) (by kernel_rfl) _ _ w
end Go.Proofs.YtkjoomdglealmaaGreatDoor

namespace Go.Proofs.YtkjoomdglealmaaGreatDoor
open Go.RowKit Go.Vf

/-- The value v, in blocks from lo on, below n₀, is what p says. -/
inductive VIn (w : World) (lo n₀ : Nat) : Value → Prt → Prop where
  | null : VIn w lo n₀ .nilIface (.mk 0 false false ⟨#[]⟩ ⟨#[]⟩ [])
  | truth (y : Bool) : VIn w lo n₀ (.iface 128 (.agg #[.bool y])) (.mk 1 y false ⟨#[]⟩ ⟨#[]⟩ [])
  | num (b : Bool) (m : ByteArray) : VIn w lo n₀ (.iface 130 (.agg #[.bool b, .string m])) (.mk 2 false b m ⟨#[]⟩ [])
  | raw (k : Int) (r : ByteArray) : isRawK k = true → VIn w lo n₀ (.iface 132 (.agg #[.int .u8 k, .string r])) (.mk k false false ⟨#[]⟩ r [])
  | tup {l : List Prt} {g c : Nat} {a : Option Addr} (V : Nat → Value) : lo ≤ g → g < n₀ → Blk w g 116 #[.slice a l.length c, .int .i64 ((depL l + 1 : Nat) : Int)] →
      (∀ j, j < l.length → ∃ h off, a = some ⟨h, off, none⟩ ∧ lo ≤ h ∧ h < n₀ ∧ w.cell? ⟨h, off + j, none⟩ = some (V j)) → (∀ j (hj : j < l.length), VIn w lo n₀ (V j) l[j]) →
      VIn w lo n₀ (.iface 112 (.pointer (some ⟨g, 0, none⟩))) (.mk 7 false false ⟨#[]⟩ ⟨#[]⟩ l)

theorem cell_block {w w' : World} {h : Nat} (e : w'.heap[h]? = w.heap[h]?) (k : Nat) : w'.cell? ⟨h, k, none⟩ = w.cell? ⟨h, k, none⟩ := by
  unfold World.cell?
  simp only [e]
theorem VIn.keep {w w' : World} {lo n₀ : Nat} {v : Value} {p : Prt} (h : VIn w lo n₀ v p) (hb : ∀ b, lo ≤ b → b < n₀ → w'.heap[b]? = w.heap[b]?) : VIn w' lo n₀ v p := by
  induction h with
  | null => exact .null
  | truth y => exact .truth y
  | num b m => exact .num b m
  | raw k r hk => exact .raw k r hk
  | tup V h1 h2 h3 h4 _ ih =>
    refine .tup V h1 h2 ((hb _ h1 h2).trans h3) (fun j hj => ?_) ih
    obtain ⟨h, off, e, q1, q2, q3⟩ := h4 j hj
    exact ⟨h, off, e, q1, q2, (cell_block (hb h q1 q2) _).trans q3⟩
theorem VIn.old {w w' : World} {lo n₀ n : Nat} {v : Value} {p : Prt} (h : VIn w lo n₀ v p) (hb : Below n w w') (hn : n₀ ≤ n) : VIn w' lo n₀ v p := h.keep fun b _ h2 => hb.block b (by omega)
theorem VIn.mono {w : World} {lo lo' n₀ n : Nat} {v : Value} {p : Prt} (h : VIn w lo n₀ v p) (hn : n₀ ≤ n) (hlo : lo' ≤ lo) : VIn w lo' n v p := by
  induction h with
  | null => exact .null
  | truth y => exact .truth y
  | num b m => exact .num b m
  | raw k r hk => exact .raw k r hk
  | tup V h1 h2 h3 h4 _ ih =>
    refine .tup V (by omega) (by omega) h3 (fun j hj => ?_) ih
    obtain ⟨h, off, e, q1, q2, q3⟩ := h4 j hj
    exact ⟨h, off, e, by omega, by omega, q3⟩

theorem VIn.form {w : World} {lo n₀ : Nat} {v : Value} {p : Prt} (h : VIn w lo n₀ v p) : v = .nilIface ∨ ∃ t x, v = .iface t x := by
  cases h
  · exact .inl rfl
  all_goals exact .inr ⟨_, _, rfl⟩

theorem depth_any (v : Value) (p : Prt) (lo n₀ : Nat) (w : World) (h : VIn w lo n₀ v p) : Calls Tryz.prog 86 #[v] w fun e w' => e = .returned (.int .i64 (dep p : Nat)) ∧ w' = w := by
  have z0 := ta74_nil
  have z1 := ta74_81
  have z2 := ta74_83
  have z3 := ta74_85
  have z4 := ta74_74
  cases h with
  | null =>
    go_enter Tryz.func86, Tryz.ntmps86
    go_wp2_with fail
    go_ret
    exact ⟨rfl, rfl⟩
  | truth y =>
    go_enter Tryz.func86, Tryz.ntmps86
    go_wp2_with fail
    go_ret
    exact ⟨rfl, rfl⟩
  | num b m =>
    go_enter Tryz.func86, Tryz.ntmps86
    go_wp2_with fail
    go_ret
    exact ⟨rfl, rfl⟩
  | raw k r hk =>
    have hd : dep (.mk k false false ⟨#[]⟩ r []) = 0 := by
      rw [dep, if_neg]
      intro h7; subst h7; simp [isRawK] at hk
    rw [hd]
    clear hk hd
    go_enter Tryz.func86, Tryz.ntmps86
    go_wp2_with fail
    go_ret
    exact ⟨rfl, rfl⟩
  | @tup l g c a V h1 h2 h3 h4 h5 =>
    have c1 := h3.cell 1
    have hd : dep (.mk 7 false false ⟨#[]⟩ ⟨#[]⟩ l) = depL l + 1 := by rw [dep, if_pos rfl]
    rw [hd]
    clear h3 h4 h5 hd
    generalize depL l + 1 = D at c1 ⊢
    have c1' : w.cell? ⟨g, 1, none⟩ = some (.int .i64 (D : Int)) := c1
    clear c1
    go_enter Tryz.func86, Tryz.ntmps86
    go_wp2_with fail
    go_ret
    exact ⟨rfl, rfl⟩

set_option maxHeartbeats 1000000 in
set_option maxRecDepth 20000 in
theorem tupleOf_any (l : List Prt) (hl : l.length ≤ 281474976710656) (hd : depL l ≤ 1000) (a : Option Addr) (c lo n₀ : Nat) (V : Nat → Value) (w : World)
    (hc : ∀ j, j < l.length → ∃ h off, a = some ⟨h, off, none⟩ ∧ lo ≤ h ∧ h < n₀ ∧ w.cell? ⟨h, off + j, none⟩ = some (V j)) (hv : ∀ j (hj : j < l.length), VIn w lo n₀ (V j) l[j]) :
    Calls Tryz.prog 56 #[.slice a l.length c] w fun e w' => e = .returned (.pointer (some ⟨w.heap.size, 0, none⟩)) ∧ w' = w.alloc (.cells #[.slice a l.length c, .int .i64 ((depL l + 1 : Nat) : Int)] 116) := by
  obtain ⟨ln, hln⟩ : ∃ ln, l.length = ln := ⟨_, rfl⟩
  have HLN : Hid (l.length = ln) := hln
  rw [hln] at hl ⊢
  clear hln
  obtain ⟨D, hD⟩ : ∃ D, depL l = D := ⟨_, rfl⟩
  have HD : Hid (depL l = D) := hD
  rw [hD] at hd ⊢
  clear hD
  go_enter Tryz.func56, Tryz.ntmps56
  go_wp2_with fail
  go_loopw [3, 8] (fun x i wr => ∃ (j s : Nat), j ≤ ln ∧ i = .int .i64 j ∧ x = .int .i64 s ∧ Hid (s = depL (l.take j)) ∧ s ≤ 1000 ∧ wr = w) (fun _ i _ => ln - (intOf i).toNat)
  case atStart => exact ⟨0, 0, by omega, rfl, rfl, by show _ = _; simp [depL], by omega, rfl⟩
  case round =>
    obtain ⟨j, s, hj, rfl, rfl, HS, hs, rfl⟩ := hrel
    by_cases hlt : j < ln
    · have hlt2 : j < l.length := by rw [HLN.out]; exact hlt
      obtain ⟨h, off, rfl, _, _, c0⟩ := hc j hlt2
      have hcall := depth_any (V j) l[j] lo n₀ wr (hv j hlt2)
      have hT : Hid (depL (l.take (j + 1)) = max s (dep l[j])) := by
        show _ = _
        rw [depL_take l j hlt2, HS.out]
      have hdl : dep l[j] ≤ 1000 := by
        have := depL_mem (List.getElem_mem hlt2)
        have := HD.out
        omega
      clear HS hc hv
      generalize V j = vj at c0 hcall
      generalize dep l[j] = dj at hcall hT hdl
      by_cases hsd : s < dj
      · have HM : Hid (dj = depL (l.take (j + 1))) := by show _ = _; rw [hT.out]; omega
        clear hT
        go_wp2_with fail
        refine hcall.mono ?_
        rintro _ _ ⟨rfl, rfl⟩
        go_wp2_with fail
        go_roundw
        case rel => exact ⟨j + 1, dj, by omega, by simp, rfl, HM, hdl, trivial⟩
        case measure => simp only [intOf]; omega
      · have HM : Hid (s = depL (l.take (j + 1))) := by show _ = _; rw [hT.out]; omega
        clear hT
        go_wp2_with fail
        refine hcall.mono ?_
        rintro _ _ ⟨rfl, rfl⟩
        go_wp2_with fail
        go_roundw
        case rel => exact ⟨j + 1, s, by omega, by simp, rfl, HM, hs, trivial⟩
        case measure => simp only [intOf]; omega
    · have hsD : s = D := by
        rw [HS.out, ← HD.out, List.take_of_length_le (by rw [HLN.out]; omega)]
      have hsD' : (s : Int) + 1 = ((D + 1 : Nat) : Int) := by omega
      clear HS hc hv
      go_wp2_with fail
      go_ret
      subst hsD
      exact ⟨rfl, by simp⟩
end Go.Proofs.YtkjoomdglealmaaGreatDoor

namespace Go.Proofs.YtkjoomdglealmaaGreatDoor
open Go.RowKit Go.Vf

theorem mKindT (y : Bool) (w : World) : (method 525 128 (.agg #[.bool y]) "Kind").run Tryz.prog w = .ok (339, .agg #[.bool y]) w := by kernel_rfl
theorem mKindN (b : Bool) (m : ByteArray) (w : World) : (method 525 130 (.agg #[.bool b, .string m]) "Kind").run Tryz.prog w = .ok (341, .agg #[.bool b, .string m]) w := by kernel_rfl
theorem mKindR (k : Int) (r : ByteArray) (w : World) : (method 525 132 (.agg #[.int .u8 k, .string r]) "Kind").run Tryz.prog w = .ok (345, .agg #[.int .u8 k, .string r]) w := by kernel_rfl
theorem mKindU (a : Addr) (w : World) : (method 525 112 (.pointer (some a)) "Kind").run Tryz.prog w = .ok (336, .pointer (some a)) w := by kernel_rfl
theorem mNumN (b : Bool) (m : ByteArray) (w : World) : (method 525 130 (.agg #[.bool b, .string m]) "Num").run Tryz.prog w = .ok (342, .agg #[.bool b, .string m]) w := by kernel_rfl
theorem mBytesR (k : Int) (r : ByteArray) (w : World) : (method 525 132 (.agg #[.int .u8 k, .string r]) "Bytes").run Tryz.prog w = .ok (344, .agg #[.int .u8 k, .string r]) w := by kernel_rfl
theorem mLenU (a : Addr) (w : World) : (method 525 112 (.pointer (some a)) "Len").run Tryz.prog w = .ok (337, .pointer (some a)) w := by kernel_rfl
theorem mAtU (a : Addr) (w : World) : (method 525 112 (.pointer (some a)) "At").run Tryz.prog w = .ok (335, .pointer (some a)) w := by kernel_rfl
theorem num_results {tmps : Array Value} {w : World} {h : Nat} {a b : Value} (hb : Blk w h 27 #[a, b]) (t2 : tmps[2]?.getD undef = .pointer (some ⟨h, 0, none⟩)) :
    (results Tryz.f342 tmps).run Tryz.prog w = .ok (.agg #[a, b]) w := by
  have c0 := hb.cell 0
  have c1 := hb.cell 1
  simp at c0 c1
  simp [results, Tryz.results342, go_sem, t2, c0, c1]
theorem numNum (b : Bool) (m : ByteArray) (w : World) : Calls Tryz.prog 342 #[.agg #[.bool b, .string m]] w fun e w' => e = .returned (.agg #[.bool b, .string m]) ∧ Below w.heap.size w w' := by
  have hb1 := (Below.refl w.heap.size w).alloc (Nat.le_refl _) (.cells #[.bool b, .string m] 130)
  have hb2 := hb1.alloc hb1.size (.cells #[.bool b, .string m] 27)
  have hB := Blk.new (w.alloc (.cells #[.bool b, .string m] 130)) 27 #[.bool b, .string m]
  rw [alloc_size] at hB
  go_enter Tryz.func342, Tryz.ntmps342
  go_wp2_with fail
  exact bodyPost_ret (num_results hB (by simp)) rfl ⟨rfl, hb2⟩
theorem atTup (g : Nat) (h off n c j : Nat) (v d : Value) (hj : j < n) (_hn : n ≤ 281474976710656) (w : World) (hB : Blk w g 116 #[.slice (some ⟨h, off, none⟩) n c, d]) (hv : w.cell? ⟨h, off + j, none⟩ = some v) : Calls Tryz.prog 335 #[.pointer (some ⟨g, 0, none⟩), .int .i64 (j : Int)] w fun e w' => e = .returned v ∧ w' = w := by
  have c0 := hB.cell 0
  have t1 : decide ((j : Int) < 0) = false := by simp
  have t2 : decide ((n : Int) ≤ (j : Int)) = false := by simp; omega
  have t3 : decide (n ≤ j) = false := by simp; omega
  go_enter Tryz.func335, Tryz.ntmps335
  go_wp2_with fail
  go_ret
  exact ⟨rfl, rfl⟩
theorem bytesRaw (k : Int) (r : ByteArray) (w : World) : Calls Tryz.prog 344 #[.agg #[.int .u8 k, .string r]] w fun e w' => e = .returned (.string r) ∧ Below w.heap.size w w' := by
  go_enter Tryz.func344, Tryz.ntmps344
  go_wp2_with fail
  go_ret
  exact ⟨rfl, (Below.refl _ _).alloc (Nat.le_refl _) _⟩
theorem lenTup (g : Nat) (a : Option Addr) (n c : Nat) (d : Value) (w : World) (h : Blk w g 116 #[.slice a n c, d]) : Calls Tryz.prog 337 #[.pointer (some ⟨g, 0, none⟩)] w fun e w' => e = .returned (.int .i64 (n : Int)) ∧ w' = w := by
  have c0 := h.cell 0
  go_enter Tryz.func337, Tryz.ntmps337
  go_wp2_with fail
  go_ret
  exact ⟨rfl, rfl⟩
theorem kindTup (g : Nat) (w : World) : Calls Tryz.prog 336 #[.pointer (some ⟨g, 0, none⟩)] w fun e w' => e = .returned (.int .u8 7) ∧ w' = w := by
  go_enter Tryz.func336, Tryz.ntmps336
  go_wp2_with fail
  go_ret
  exact ⟨rfl, rfl⟩
theorem kindTruth (y : Bool) (w : World) : Calls Tryz.prog 339 #[.agg #[.bool y]] w fun e w' => e = .returned (.int .u8 1) ∧ Below w.heap.size w w' := by
  go_enter Tryz.func339, Tryz.ntmps339
  go_wp2_with fail
  go_ret
  exact ⟨rfl, (Below.refl _ _).alloc (Nat.le_refl _) _⟩
theorem kindNum (b : Bool) (m : ByteArray) (w : World) : Calls Tryz.prog 341 #[.agg #[.bool b, .string m]] w fun e w' => e = .returned (.int .u8 2) ∧ Below w.heap.size w w' := by
  go_enter Tryz.func341, Tryz.ntmps341
  go_wp2_with fail
  go_ret
  exact ⟨rfl, (Below.refl _ _).alloc (Nat.le_refl _) _⟩
theorem kindRaw (k : Int) (r : ByteArray) (w : World) : Calls Tryz.prog 345 #[.agg #[.int .u8 k, .string r]] w fun e w' => e = .returned (.int .u8 k) ∧ Below w.heap.size w w' := by
  go_enter Tryz.func345, Tryz.ntmps345
  go_wp2_with fail
  go_ret
  exact ⟨rfl, (Below.refl _ _).alloc (Nat.le_refl _) _⟩
/-- What is wrong where the kind k is wanted. -/
def wnt (k pk : Int) : Int := if 7 < k then 1 else if pk = k then 0 else 4

theorem kindOf_any (v : Value) (p : Prt) (lo n₀ : Nat) (w : World) (h : VIn w lo n₀ v p) : Calls Tryz.prog 105 #[v] w fun e w' => e = .returned (.int .u8 p.kind) ∧ Below w.heap.size w w' := by
  have m1 := mKindT
  have m2 := mKindN
  have m3 := mKindR
  have m4 := mKindU
  cases h
  case null =>
    go_enter Tryz.func105, Tryz.ntmps105
    go_wp2_with fail
    go_ret
    exact ⟨rfl, Below.refl _ _⟩
  case truth y =>
    have hk := kindTruth y w
    go_enter Tryz.func105, Tryz.ntmps105
    go_wp2_with fail
    refine hk.mono ?_
    rintro _ w2 ⟨rfl, hb⟩
    go_wp2_with fail
    go_ret
    exact ⟨rfl, hb⟩
  case num b m =>
    have hk := kindNum b m w
    go_enter Tryz.func105, Tryz.ntmps105
    go_wp2_with fail
    refine hk.mono ?_
    rintro _ w2 ⟨rfl, hb⟩
    go_wp2_with fail
    go_ret
    exact ⟨rfl, hb⟩
  case raw k r _ =>
    have hk := kindRaw k r w
    go_enter Tryz.func105, Tryz.ntmps105
    go_wp2_with fail
    refine hk.mono ?_
    rintro _ w2 ⟨rfl, hb⟩
    go_wp2_with fail
    go_ret
    exact ⟨rfl, hb⟩
  case tup =>
    rename_i l g c a V h1 h2 h3 h4 h5
    have hk := kindTup g w
    clear h3 h4 h5
    go_enter Tryz.func105, Tryz.ntmps105
    go_wp2_with fail
    refine hk.mono ?_
    rintro _ _ ⟨rfl, rfl⟩
    go_wp2_with fail
    go_ret
    exact ⟨rfl, Below.refl _ _⟩

/-- The answer of value.Want: the value, or nothing and a Fault. -/
def WantE (v : Value) (r : Int) (e : Ending) (w' : World) : Prop :=
  (r = 0 ∧ e = .returned (.tuple #[v, .nilIface])) ∨ (r ≠ 0 ∧ ∃ b, e = .returned (.tuple #[.nilIface, .iface 98 (.pointer (some ⟨b, 0, none⟩))]) ∧ Blk w' b 100 #[.int .i64 r, .int .i64 0, .slice none 0 0, .nilIface])

set_option maxHeartbeats 4000000 in
theorem want_any (v : Value) (p : Prt) (k : Int) (_hk0 : 0 ≤ k) (_hk1 : k < 256) (_hp0 : 0 ≤ p.kind) (lo n₀ : Nat) (w : World) (h : VIn w lo n₀ v p) : Calls Tryz.prog 70 #[v, .int .u8 k] w fun e w' => WantE v (wnt k p.kind) e w' ∧ Below w.heap.size w w' := by
  have hk := kindOf_any v p lo n₀ w h
  clear h
  unfold wnt
  by_cases h7 : 7 < k
  · have t : decide (7 < k) = true := decide_eq_true h7
    have hb := (Below.refl w.heap.size w).alloc (Nat.le_refl _) (.cells #[.int .i64 1, .int .i64 0, .slice none 0 0, .nilIface] 100)
    have hB := Blk.new w 100 #[.int .i64 1, .int .i64 0, .slice none 0 0, .nilIface]
    rw [if_pos h7]
    clear hk
    go_enter Tryz.func70, Tryz.ntmps70
    go_wp2_with fail
    go_ret2
    exact ⟨Or.inr ⟨by decide, _, rfl, hB⟩, hb⟩
  have t : decide (7 < k) = false := decide_eq_false h7
  rw [if_neg h7]
  generalize p.kind = K at *
  by_cases hK : K = k
  · have t2 : decide (K = k) = true := decide_eq_true hK
    have t3 : (K == k) = true := by simpa using hK
    rw [if_pos hK]
    go_enter Tryz.func70, Tryz.ntmps70
    go_wp2_with fail
    refine hk.mono ?_
    rintro _ w2 ⟨rfl, hb⟩
    go_wp2_with fail
    go_ret2
    exact ⟨Or.inl ⟨rfl, rfl⟩, hb⟩
  · have t2 : decide (K = k) = false := decide_eq_false hK
    have t3 : (K == k) = false := by simpa using hK
    rw [if_neg hK]
    go_enter Tryz.func70, Tryz.ntmps70
    go_wp2_with fail
    refine hk.mono ?_
    rintro _ w2 ⟨rfl, hb⟩
    have hb2 := hb.alloc hb.size (.cells #[.int .i64 4, .int .i64 0, .slice none 0 0, .nilIface] 100)
    have hB := Blk.new w2 100 #[.int .i64 4, .int .i64 0, .slice none 0 0, .nilIface]
    go_wp2_with fail
    go_ret2
    exact ⟨Or.inr ⟨by decide, _, rfl, hB⟩, hb2⟩


end Go.Proofs.YtkjoomdglealmaaGreatDoor

namespace Go.Proofs.YtkjoomdglealmaaGreatDoor
open Go.RowKit Go.Vf

/-- An error with no path: nothing, or a Fault. -/
def PlainPost (code at' : Int) (why : Value) (w : World) (e : Ending) (w' : World) : Prop :=
  Below w.heap.size w w' ∧ ((code = 0 ∧ e = .returned .nilIface) ∨ (code ≠ 0 ∧ ∃ v, e = .returned v ∧ FaultAt w' w.heap.size v code at' [] why))
theorem fault_new (w W : World) (hb : Below w.heap.size w W) (code at' : Int) (why : Value) : FaultAt (W.alloc (.cells #[.int .i64 code, .int .i64 at', .slice none 0 0, why] 100)) w.heap.size (.iface 98 (.pointer (some ⟨W.heap.size, 0, none⟩))) code at' [] why :=
  ⟨W.heap.size, none, 0, rfl, hb.size, Blk.new W 100 _, IOwn.nil _ _, by simp [Value.ownBlock]⟩
theorem unfitNull_any (o : Own) (a : Option Addr) (n c : Nat) (w : World) : Calls Tryz.prog 69 #[fV o a n c] w (PlainPost (if o.nulls = 0 then 121 else 0) 0 .nilIface w) := by
  have hb1 := (Below.refl w.heap.size w).alloc (Nat.le_refl _) (.cells (cellsF o a n c) 57)
  unfold fV
  by_cases h : o.nulls = 0
  · have t : (o.nulls == 0) = true := by simpa using h
    rw [if_pos h]
    have hF := fault_new w _ hb1 121 0 .nilIface
    rw [alloc_size] at hF
    have hb2 := hb1.alloc hb1.size (.cells #[.int .i64 121, .int .i64 0, .slice none 0 0, .nilIface] 100)
    simp only [cellsF] at hb1 hF hb2
    clear h
    go_enter Tryz.func69, Tryz.ntmps69
    go_wp2_with fail
    go_ret
    exact ⟨hb2, .inr ⟨by decide, _, rfl, hF⟩⟩
  · have t : (o.nulls == 0) = false := by simpa using h
    rw [if_neg h]
    simp only [cellsF] at hb1
    clear h
    go_enter Tryz.func69, Tryz.ntmps69
    go_wp2_with fail
    go_ret
    exact ⟨hb1, .inl ⟨rfl, rfl⟩⟩
theorem above_any (ba : Bool) (a : ByteArray) (bb : Bool) (b : ByteArray) (ha : a.size ≤ 17179869184) (hb : b.size ≤ 17179869184) (h1 : chk ba a.data.toList = 0) (h2 : chk bb b.data.toList = 0) (w : World) :
    Calls Tryz.prog 110 #[.agg #[.bool ba, .string a], .agg #[.bool bb, .string b]] w fun e w' => e = .returned (.bool (decide (0 < cmpN ba a.data.toList bb b.data.toList))) ∧ Below w.heap.size w w' := by
  have hcp : ∀ W, Calls Tryz.prog 146 #[.agg #[.bool ba, .string a], .agg #[.bool bb, .string b]] W fun e w' => e = compE ba a.data.toList bb b.data.toList ∧ Below W.heap.size W w' := fun W => compare_any ba a bb b ha hb W
  rw [compE_0 h1 h2] at hcp
  generalize cmpN ba a.data.toList bb b.data.toList = q at hcp ⊢
  have hb1 := ((Below.refl w.heap.size w).alloc (Nat.le_refl _) (.cells #[.bool ba, .string a] 27)).alloc (by simp) (.cells #[.bool bb, .string b] 27)
  go_enter Tryz.func110, Tryz.ntmps110
  go_wp2_with fail
  refine (hcp _).mono ?_
  rintro _ w2 ⟨rfl, hb2⟩
  have hb3 := hb1.trans (hb2.mono hb1.size)
  clear hcp hb1 hb2
  go_wp2_with fail
  go_ret
  exact ⟨rfl, hb3⟩
theorem hasMost_any (k : Int) (w : World) : Calls Tryz.prog 106 #[.int .u8 k] w fun e w' => e = .returned (.bool (k == 3 || k == 5)) ∧ w = w' := by
  cases h1 : (k == 3) with
  | true =>
    go_enter Tryz.func106, Tryz.ntmps106
    go_wp2
    go_ret
    exact ⟨rfl, rfl⟩
  | false =>
    cases h2 : (k == 5) with
    | true =>
      go_enter Tryz.func106, Tryz.ntmps106
      go_wp2
      go_ret
      exact ⟨rfl, rfl⟩
    | false =>
      go_enter Tryz.func106, Tryz.ntmps106
      go_wp2
      go_ret
      exact ⟨rfl, rfl⟩
theorem isSpelt_any (k : Int) (w : World) : Calls Tryz.prog 107 #[.int .u8 k] w fun e w' => e = .returned (.bool (k == 5 || k == 6)) ∧ w = w' := by
  cases h1 : (k == 5) with
  | true =>
    go_enter Tryz.func107, Tryz.ntmps107
    go_wp2
    go_ret
    exact ⟨rfl, rfl⟩
  | false =>
    cases h2 : (k == 6) with
    | true =>
      go_enter Tryz.func107, Tryz.ntmps107
      go_wp2
      go_ret
      exact ⟨rfl, rfl⟩
    | false =>
      go_enter Tryz.func107, Tryz.ntmps107
      go_wp2
      go_ret
      exact ⟨rfl, rfl⟩

end Go.Proofs.YtkjoomdglealmaaGreatDoor
