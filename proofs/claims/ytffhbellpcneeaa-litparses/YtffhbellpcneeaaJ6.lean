/- Type assertions and methods of values (facts of the program's tables; nothing is claimed here). · Values in memory; what value.depth does (contracts; nothing is claimed here). · What value.made and Make do (contracts; nothing is claimed here). -/
import Derived.Test.YtffhbellpcneeaaRmay
namespace Go.Proofs.Ytffhbellpcneeaa
open Go.RowKit Go.Vf
theorem ta74_nil  (w : World) : (Instr.typeAssert (.nilIface) 33 78 true).run Try.prog w = .ok (.tuple #[.pointer none, .bool false]) w := by kernel_rfl
theorem ta74_81 (y : Bool) (w : World) : (Instr.typeAssert (.iface 74 (.agg #[.bool y])) 33 78 true).run Try.prog w = .ok (.tuple #[.pointer none, .bool false]) w := by kernel_rfl
theorem ta74_83 (b : Bool) (m : ByteArray) (w : World) : (Instr.typeAssert (.iface 76 (.agg #[.bool b, .string m])) 33 78 true).run Try.prog w = .ok (.tuple #[.pointer none, .bool false]) w := by kernel_rfl
theorem ta74_85 (k : Int) (r : ByteArray) (w : World) : (Instr.typeAssert (.iface 81 (.agg #[.int .u8 k, .string r])) 33 78 true).run Try.prog w = .ok (.tuple #[.pointer none, .bool false]) w := by kernel_rfl
theorem ta74_74 (a : Addr) (w : World) : (Instr.typeAssert (.iface 78 (.pointer (some a))) 33 78 true).run Try.prog w = .ok (.tuple #[.pointer (some a), .bool true]) w := by kernel_rfl
theorem ta81_nil  (w : World) : (Instr.typeAssert (.nilIface) 33 74 true).run Try.prog w = .ok (.tuple #[.agg #[.bool false], .bool false]) w := by kernel_rfl
theorem ta81_81 (y : Bool) (w : World) : (Instr.typeAssert (.iface 74 (.agg #[.bool y])) 33 74 true).run Try.prog w = .ok (.tuple #[.agg #[.bool y], .bool true]) w := by kernel_rfl
theorem ta81_83 (b : Bool) (m : ByteArray) (w : World) : (Instr.typeAssert (.iface 76 (.agg #[.bool b, .string m])) 33 74 true).run Try.prog w = .ok (.tuple #[.agg #[.bool false], .bool false]) w := by kernel_rfl
theorem ta81_85 (k : Int) (r : ByteArray) (w : World) : (Instr.typeAssert (.iface 81 (.agg #[.int .u8 k, .string r])) 33 74 true).run Try.prog w = .ok (.tuple #[.agg #[.bool false], .bool false]) w := by kernel_rfl
theorem ta81_74 (a : Addr) (w : World) : (Instr.typeAssert (.iface 78 (.pointer (some a))) 33 74 true).run Try.prog w = .ok (.tuple #[.agg #[.bool false], .bool false]) w := by kernel_rfl
theorem ta83_nil  (w : World) : (Instr.typeAssert (.nilIface) 33 76 true).run Try.prog w = .ok (.tuple #[.agg #[.bool false, .string ⟨#[]⟩], .bool false]) w := by kernel_rfl
theorem ta83_81 (y : Bool) (w : World) : (Instr.typeAssert (.iface 74 (.agg #[.bool y])) 33 76 true).run Try.prog w = .ok (.tuple #[.agg #[.bool false, .string ⟨#[]⟩], .bool false]) w := by kernel_rfl
theorem ta83_83 (b : Bool) (m : ByteArray) (w : World) : (Instr.typeAssert (.iface 76 (.agg #[.bool b, .string m])) 33 76 true).run Try.prog w = .ok (.tuple #[.agg #[.bool b, .string m], .bool true]) w := by kernel_rfl
theorem ta83_85 (k : Int) (r : ByteArray) (w : World) : (Instr.typeAssert (.iface 81 (.agg #[.int .u8 k, .string r])) 33 76 true).run Try.prog w = .ok (.tuple #[.agg #[.bool false, .string ⟨#[]⟩], .bool false]) w := by kernel_rfl
theorem ta83_74 (a : Addr) (w : World) : (Instr.typeAssert (.iface 78 (.pointer (some a))) 33 76 true).run Try.prog w = .ok (.tuple #[.agg #[.bool false, .string ⟨#[]⟩], .bool false]) w := by kernel_rfl
theorem ta85_nil  (w : World) : (Instr.typeAssert (.nilIface) 33 81 true).run Try.prog w = .ok (.tuple #[.agg #[.int .u8 0, .string ⟨#[]⟩], .bool false]) w := by kernel_rfl
theorem ta85_81 (y : Bool) (w : World) : (Instr.typeAssert (.iface 74 (.agg #[.bool y])) 33 81 true).run Try.prog w = .ok (.tuple #[.agg #[.int .u8 0, .string ⟨#[]⟩], .bool false]) w := by kernel_rfl
theorem ta85_83 (b : Bool) (m : ByteArray) (w : World) : (Instr.typeAssert (.iface 76 (.agg #[.bool b, .string m])) 33 81 true).run Try.prog w = .ok (.tuple #[.agg #[.int .u8 0, .string ⟨#[]⟩], .bool false]) w := by kernel_rfl
theorem ta85_85 (k : Int) (r : ByteArray) (w : World) : (Instr.typeAssert (.iface 81 (.agg #[.int .u8 k, .string r])) 33 81 true).run Try.prog w = .ok (.tuple #[.agg #[.int .u8 k, .string r], .bool true]) w := by kernel_rfl
theorem ta85_74 (a : Addr) (w : World) : (Instr.typeAssert (.iface 78 (.pointer (some a))) 33 81 true).run Try.prog w = .ok (.tuple #[.agg #[.int .u8 0, .string ⟨#[]⟩], .bool false]) w := by kernel_rfl
theorem ta44_nil  (w : World) : (Instr.typeAssert (.nilIface) 33 51 true).run Try.prog w = .ok (.tuple #[.nilIface, .bool false]) w := by kernel_rfl
theorem ta44_81 (y : Bool) (w : World) : (Instr.typeAssert (.iface 74 (.agg #[.bool y])) 33 51 true).run Try.prog w = .ok (.tuple #[.nilIface, .bool false]) w := run_typeAssert_lacksB Try.underlying51 (by kernel_rfl) (by kernel_rfl) _ _ w
theorem ta44_83 (b : Bool) (m : ByteArray) (w : World) : (Instr.typeAssert (.iface 76 (.agg #[.bool b, .string m])) 33 51 true).run Try.prog w = .ok (.tuple #[.nilIface, .bool false]) w := run_typeAssert_lacksB Try.underlying51 (by kernel_rfl) (by kernel_rfl) _ _ w
theorem ta44_85 (k : Int) (r : ByteArray) (w : World) : (Instr.typeAssert (.iface 81 (.agg #[.int .u8 k, .string r])) 33 51 true).run Try.prog w = .ok (.tuple #[.nilIface, .bool false]) w := run_typeAssert_lacksB Try.underlying51 (by kernel_rfl) (by kernel_rfl) _ _ w
theorem ta44_74 (a : Addr) (w : World) : (Instr.typeAssert (.iface 78 (.pointer (some a))) 33 51 true).run Try.prog w = .ok (.tuple #[.iface 78 (.pointer (some a)), .bool true]) w := run_typeAssert_hasB Try.underlying51 (by kernel_rfl) _ _ w
theorem ta58_nil  (w : World) : (Instr.typeAssert (.nilIface) 33 88 true).run Try.prog w = .ok (.tuple #[.nilIface, .bool false]) w := by kernel_rfl
theorem ta58_81 (y : Bool) (w : World) : (Instr.typeAssert (.iface 74 (.agg #[.bool y])) 33 88 true).run Try.prog w = .ok (.tuple #[.nilIface, .bool false]) w := run_typeAssert_lacksB Try.underlying88 (by kernel_rfl) (by kernel_rfl) _ _ w
theorem ta58_83 (b : Bool) (m : ByteArray) (w : World) : (Instr.typeAssert (.iface 76 (.agg #[.bool b, .string m])) 33 88 true).run Try.prog w = .ok (.tuple #[.nilIface, .bool false]) w := run_typeAssert_lacksB Try.underlying88 (by kernel_rfl) (by kernel_rfl) _ _ w
theorem ta58_85 (k : Int) (r : ByteArray) (w : World) : (Instr.typeAssert (.iface 81 (.agg #[.int .u8 k, .string r])) 33 88 true).run Try.prog w = .ok (.tuple #[.iface 81 (.agg #[.int .u8 k, .string r]), .bool true]) w := run_typeAssert_hasB Try.underlying88 (by kernel_rfl) _ _ w
theorem ta58_74 (a : Addr) (w : World) : (Instr.typeAssert (.iface 78 (.pointer (some a))) 33 88 true).run Try.prog w = .ok (.tuple #[.nilIface, .bool false]) w := run_typeAssert_lacksB Try.underlying88 (by kernel_rfl) (by kernel_rfl) _ _ w
theorem ta67_nil  (w : World) : (Instr.typeAssert (.nilIface) 33 85 true).run Try.prog w = .ok (.tuple #[.nilIface, .bool false]) w := by kernel_rfl
theorem ta67_81 (y : Bool) (w : World) : (Instr.typeAssert (.iface 74 (.agg #[.bool y])) 33 85 true).run Try.prog w = .ok (.tuple #[.nilIface, .bool false]) w := run_typeAssert_lacksB Try.underlying85 (by kernel_rfl) (by kernel_rfl) _ _ w
theorem ta67_83 (b : Bool) (m : ByteArray) (w : World) : (Instr.typeAssert (.iface 76 (.agg #[.bool b, .string m])) 33 85 true).run Try.prog w = .ok (.tuple #[.iface 76 (.agg #[.bool b, .string m]), .bool true]) w := run_typeAssert_hasB Try.underlying85 (by kernel_rfl) _ _ w
theorem ta67_85 (k : Int) (r : ByteArray) (w : World) : (Instr.typeAssert (.iface 81 (.agg #[.int .u8 k, .string r])) 33 85 true).run Try.prog w = .ok (.tuple #[.nilIface, .bool false]) w := run_typeAssert_lacksB Try.underlying85 (by kernel_rfl) (by kernel_rfl) _ _ w
theorem ta67_74 (a : Addr) (w : World) : (Instr.typeAssert (.iface 78 (.pointer (some a))) 33 85 true).run Try.prog w = .ok (.tuple #[.nilIface, .bool false]) w := run_typeAssert_lacksB Try.underlying85 (by kernel_rfl) (by kernel_rfl) _ _ w
end Go.Proofs.Ytffhbellpcneeaa

namespace Go.Proofs.Ytffhbellpcneeaa
open Go.RowKit Go.Vf

/-- The value v, in blocks from lo on, below n₀, is what p says. -/
inductive VIn (w : World) (lo n₀ : Nat) : Value → Prt → Prop where
  | null : VIn w lo n₀ .nilIface (.mk 0 false false ⟨#[]⟩ ⟨#[]⟩ [])
  | truth (y : Bool) : VIn w lo n₀ (.iface 74 (.agg #[.bool y])) (.mk 1 y false ⟨#[]⟩ ⟨#[]⟩ [])
  | num (b : Bool) (m : ByteArray) : VIn w lo n₀ (.iface 76 (.agg #[.bool b, .string m])) (.mk 2 false b m ⟨#[]⟩ [])
  | raw (k : Int) (r : ByteArray) : isRawK k = true → VIn w lo n₀ (.iface 81 (.agg #[.int .u8 k, .string r])) (.mk k false false ⟨#[]⟩ r [])
  | tup {l : List Prt} {g c : Nat} {a : Option Addr} (V : Nat → Value) : lo ≤ g → g < n₀ → Blk w g 110 #[.slice a l.length c, .int .i64 ((depL l + 1 : Nat) : Int)] →
      (∀ j, j < l.length → ∃ h off, a = some ⟨h, off, none⟩ ∧ lo ≤ h ∧ h < n₀ ∧ w.cell? ⟨h, off + j, none⟩ = some (V j)) → (∀ j (hj : j < l.length), VIn w lo n₀ (V j) l[j]) →
      VIn w lo n₀ (.iface 78 (.pointer (some ⟨g, 0, none⟩))) (.mk 7 false false ⟨#[]⟩ ⟨#[]⟩ l)

theorem cell_block {w w' : World} {h : Nat} (e : w'.heap[h]? = w.heap[h]?) (k : Nat) : w'.cell? ⟨h, k, none⟩ = w.cell? ⟨h, k, none⟩ := by
  unfold World.cell?
  simp only [e]
theorem VIn.keep {w w' : World} {lo n₀ : Nat} {v : Value} {p : Prt} (h : VIn w lo n₀ v p) (hb : ∀ b, lo ≤ b → b < n₀ → w'.heap[b]? = w.heap[b]?) : VIn w' lo n₀ v p := by
  induction h with
  | null => exact .null
  | truth y => exact .truth y
  | num b m => exact .num b m
  | raw k r hk => exact .raw k r hk
  | tup V h1 h2 h3 h4 _ ih =>
    refine .tup V h1 h2 ((hb _ h1 h2).trans h3) (fun j hj => ?_) ih
    obtain ⟨h, off, e, q1, q2, q3⟩ := h4 j hj
    exact ⟨h, off, e, q1, q2, (cell_block (hb h q1 q2) _).trans q3⟩
theorem VIn.old {w w' : World} {lo n₀ n : Nat} {v : Value} {p : Prt} (h : VIn w lo n₀ v p) (hb : Below n w w') (hn : n₀ ≤ n) : VIn w' lo n₀ v p := h.keep fun b _ h2 => hb.block b (by omega)
theorem VIn.mono {w : World} {lo lo' n₀ n : Nat} {v : Value} {p : Prt} (h : VIn w lo n₀ v p) (hn : n₀ ≤ n) (hlo : lo' ≤ lo) : VIn w lo' n v p := by
  induction h with
  | null => exact .null
  | truth y => exact .truth y
  | num b m => exact .num b m
  | raw k r hk => exact .raw k r hk
  | tup V h1 h2 h3 h4 _ ih =>
    refine .tup V (by omega) (by omega) h3 (fun j hj => ?_) ih
    obtain ⟨h, off, e, q1, q2, q3⟩ := h4 j hj
    exact ⟨h, off, e, by omega, by omega, q3⟩

theorem VIn.form {w : World} {lo n₀ : Nat} {v : Value} {p : Prt} (h : VIn w lo n₀ v p) : v = .nilIface ∨ ∃ t x, v = .iface t x := by
  cases h
  · exact .inl rfl
  all_goals exact .inr ⟨_, _, rfl⟩

theorem depth_any (v : Value) (p : Prt) (lo n₀ : Nat) (w : World) (h : VIn w lo n₀ v p) : Calls Try.prog 34 #[v] w fun e w' => e = .returned (.int .i64 (dep p : Nat)) ∧ w' = w := by
  have z0 := ta74_nil
  have z1 := ta74_81
  have z2 := ta74_83
  have z3 := ta74_85
  have z4 := ta74_74
  cases h with
  | null =>
    go_enter Try.func34, Try.ntmps34
    go_wp2_with fail
    go_ret
    exact ⟨rfl, rfl⟩
  | truth y =>
    go_enter Try.func34, Try.ntmps34
    go_wp2_with fail
    go_ret
    exact ⟨rfl, rfl⟩
  | num b m =>
    go_enter Try.func34, Try.ntmps34
    go_wp2_with fail
    go_ret
    exact ⟨rfl, rfl⟩
  | raw k r hk =>
    have hd : dep (.mk k false false ⟨#[]⟩ r []) = 0 := by
      rw [dep, if_neg]
      intro h7; subst h7; simp [isRawK] at hk
    rw [hd]
    clear hk hd
    go_enter Try.func34, Try.ntmps34
    go_wp2_with fail
    go_ret
    exact ⟨rfl, rfl⟩
  | @tup l g c a V h1 h2 h3 h4 h5 =>
    have c1 := h3.cell 1
    have hd : dep (.mk 7 false false ⟨#[]⟩ ⟨#[]⟩ l) = depL l + 1 := by rw [dep, if_pos rfl]
    rw [hd]
    clear h3 h4 h5 hd
    generalize depL l + 1 = D at c1 ⊢
    have c1' : w.cell? ⟨g, 1, none⟩ = some (.int .i64 (D : Int)) := c1
    clear c1
    go_enter Try.func34, Try.ntmps34
    go_wp2_with fail
    go_ret
    exact ⟨rfl, rfl⟩

set_option maxHeartbeats 1000000 in
set_option maxRecDepth 20000 in
theorem tupleOf_any (l : List Prt) (hl : l.length ≤ 281474976710656) (hd : depL l ≤ 1000) (a : Option Addr) (c lo n₀ : Nat) (V : Nat → Value) (w : World)
    (hc : ∀ j, j < l.length → ∃ h off, a = some ⟨h, off, none⟩ ∧ lo ≤ h ∧ h < n₀ ∧ w.cell? ⟨h, off + j, none⟩ = some (V j)) (hv : ∀ j (hj : j < l.length), VIn w lo n₀ (V j) l[j]) :
    Calls Try.prog 39 #[.slice a l.length c] w fun e w' => e = .returned (.pointer (some ⟨w.heap.size, 0, none⟩)) ∧ w' = w.alloc (.cells #[.slice a l.length c, .int .i64 ((depL l + 1 : Nat) : Int)] 110) := by
  obtain ⟨ln, hln⟩ : ∃ ln, l.length = ln := ⟨_, rfl⟩
  have HLN : Hid (l.length = ln) := hln
  rw [hln] at hl ⊢
  clear hln
  obtain ⟨D, hD⟩ : ∃ D, depL l = D := ⟨_, rfl⟩
  have HD : Hid (depL l = D) := hD
  rw [hD] at hd ⊢
  clear hD
  go_enter Try.func39, Try.ntmps39
  go_wp2_with fail
  go_loopw [3, 8] (fun x i wr => ∃ (j s : Nat), j ≤ ln ∧ i = .int .i64 j ∧ x = .int .i64 s ∧ Hid (s = depL (l.take j)) ∧ s ≤ 1000 ∧ wr = w) (fun _ i _ => ln - (intOf i).toNat)
  case atStart => exact ⟨0, 0, by omega, rfl, rfl, by show _ = _; simp [depL], by omega, rfl⟩
  case round =>
    obtain ⟨j, s, hj, rfl, rfl, HS, hs, rfl⟩ := hrel
    by_cases hlt : j < ln
    · have hlt2 : j < l.length := by rw [HLN.out]; exact hlt
      obtain ⟨h, off, rfl, _, _, c0⟩ := hc j hlt2
      have hcall := depth_any (V j) l[j] lo n₀ wr (hv j hlt2)
      have hT : Hid (depL (l.take (j + 1)) = max s (dep l[j])) := by
        show _ = _
        rw [depL_take l j hlt2, HS.out]
      have hdl : dep l[j] ≤ 1000 := by
        have := depL_mem (List.getElem_mem hlt2)
        have := HD.out
        omega
      clear HS hc hv
      generalize V j = vj at c0 hcall
      generalize dep l[j] = dj at hcall hT hdl
      by_cases hsd : s < dj
      · have HM : Hid (dj = depL (l.take (j + 1))) := by show _ = _; rw [hT.out]; omega
        clear hT
        go_wp2_with fail
        refine hcall.mono ?_
        rintro _ _ ⟨rfl, rfl⟩
        go_wp2_with fail
        go_roundw
        case rel => exact ⟨j + 1, dj, by omega, by simp, rfl, HM, hdl, trivial⟩
        case measure => simp only [intOf]; omega
      · have HM : Hid (s = depL (l.take (j + 1))) := by show _ = _; rw [hT.out]; omega
        clear hT
        go_wp2_with fail
        refine hcall.mono ?_
        rintro _ _ ⟨rfl, rfl⟩
        go_wp2_with fail
        go_roundw
        case rel => exact ⟨j + 1, s, by omega, by simp, rfl, HM, hs, trivial⟩
        case measure => simp only [intOf]; omega
    · have hsD : s = D := by
        rw [HS.out, ← HD.out, List.take_of_length_le (by rw [HLN.out]; omega)]
      have hsD' : (s : Int) + 1 = ((D + 1 : Nat) : Int) := by omega
      clear HS hc hv
      go_wp2_with fail
      go_ret
      subst hsD
      exact ⟨rfl, by simp⟩
end Go.Proofs.Ytffhbellpcneeaa

namespace Go.Proofs.Ytffhbellpcneeaa
open Go.RowKit Go.Vf

/-- What a part that may be looks like. -/
inductive Shp : Prt → Prop where
  | null : Shp (.mk 0 false false ⟨#[]⟩ ⟨#[]⟩ [])
  | truth (y : Bool) : Shp (.mk 1 y false ⟨#[]⟩ ⟨#[]⟩ [])
  | num (b : Bool) (m : ByteArray) : Shp (.mk 2 false b m ⟨#[]⟩ [])
  | raw (k : Int) (r : ByteArray) : isRawK k = true → Shp (.mk k false false ⟨#[]⟩ r [])
  | tup (l : List Prt) : l.length ≤ 1024 → l.all may = true → Shp (.mk 7 false false ⟨#[]⟩ ⟨#[]⟩ l)
theorem empty_of {m : ByteArray} (h : m.size = 0) : m = ⟨#[]⟩ := by
  obtain ⟨⟨l⟩⟩ := m
  cases l with
  | nil => rfl
  | cons a r => simp [ByteArray.size] at h
theorem may_shape {p : Prt} (h : may p = true) : Shp p := by
  cases p with | mk k y n m r l =>
  rw [may_mk] at h
  simp only [Bool.and_eq_true, Bool.or_eq_true, Bool.not_eq_true', beq_iff_eq, bne_iff_ne, decide_eq_true_eq] at h
  obtain ⟨⟨⟨⟨h1, h2⟩, h3⟩, h4⟩, h5, h6⟩ := h
  have hm : k ≠ 2 → n = false ∧ m = ⟨#[]⟩ := fun hk => by
    rcases h2 with h2 | ⟨h2, h3⟩
    · exact absurd h2 hk
    · exact ⟨h2, empty_of h3⟩
  have hy : k ≠ 1 → y = false := fun hk => by
    rcases h1 with h1 | h1
    · exact absurd h1 hk
    · exact h1
  have hl : k ≠ 7 → l = [] := fun hk => by
    rcases h4 with h4 | h4
    · exact absurd h4 hk
    · exact List.eq_nil_of_length_eq_zero h4
  have hr : isRawK k = false → r = ⟨#[]⟩ := fun hk => by
    rcases h3 with h3 | h3
    · rw [hk] at h3; cases h3
    · exact empty_of h3
  by_cases hk : isRawK k = true
  · have h7 : k ≠ 7 := by rintro rfl; simp [isRawK] at hk
    have h2' : k ≠ 2 := by rintro rfl; simp [isRawK] at hk
    have h1' : k ≠ 1 := by rintro rfl; simp [isRawK] at hk
    obtain ⟨rfl, rfl⟩ := hm h2'
    obtain rfl := hy h1'
    obtain rfl := hl h7
    exact .raw k r hk
  · have hk' : isRawK k = false := by simpa using hk
    obtain rfl := hr hk'
    rcases h5 with ((((h5 | h5) | h5) | h5) | h5) | h5
    · subst h5
      obtain ⟨rfl, rfl⟩ := hm (by decide)
      obtain rfl := hy (by decide)
      obtain rfl := hl (by decide)
      exact .null
    · subst h5
      obtain ⟨rfl, rfl⟩ := hm (by decide)
      obtain rfl := hl (by decide)
      exact .truth y
    · obtain ⟨h5, _⟩ := h5
      subst h5
      obtain rfl := hy (by decide)
      obtain rfl := hl (by decide)
      exact .num n m
    · obtain ⟨h5, _⟩ := h5
      exfalso
      rcases h5 with (h5 | h5) | h5 <;> (subst h5; simp [isRawK] at hk')
    · obtain ⟨h5, _⟩ := h5
      subst h5; simp [isRawK] at hk'
    · obtain ⟨h5, h8⟩ := h5
      subst h5
      obtain ⟨rfl, rfl⟩ := hm (by decide)
      obtain rfl := hy (by decide)
      exact .tup l h8 (h6.resolve_left (by simp))

theorem info31 : (Try.prog.info? 33).map (fun i => (i.zero, i.size, i.bytes)) = some (some .nilIface, 1, 16) := by kernel_rfl
theorem made_at (n j : Nat) (h : j < n) : (madeCells #[.nilIface] n)[j]? = some .nilIface := by simp [madeCells, h, Nat.mod_one]
theorem made_size (z : Array Value) (n : Nat) : (madeCells z n).size = n := size_madeCells z n

/-- Cells of a block whose first j are the values of these parts. -/
structure Sofar (w : World) (h0 j : Nat) (cs : Array Value) (l : List Prt) (ln : Nat) : Prop where
  blk : Blk w h0 33 cs
  size : cs.size = ln
  vals : ∀ i (hi : i < l.length) (hc : i < cs.size), i < j → VIn w (h0 + 1) w.heap.size cs[i] l[i]

set_option maxHeartbeats 2000000 in
set_option maxRecDepth 20000 in
theorem made_any : ∀ (p : Prt), Fits p → may p = true → dep p ≤ 1000 → ∀ (a : Option Addr) (c lo n₀ : Nat) (w : World), n₀ ≤ w.heap.size → PIn w lo n₀ p a →
    Calls Try.prog 25 #[pV p a c] w fun e w' => ∃ v, e = .returned v ∧ VIn w' w.heap.size w'.heap.size v p ∧ Below w.heap.size w w' := by
  intro p
  induction p using Prt.ind with
  | h k y n m r l ih =>
    intro hf hmay hdep a c lo n₀ w hn₀ hin
    have hsh := may_shape hmay
    generalize hp : Prt.mk k y n m r l = p at hsh hmay hf hin hdep ⊢
    cases hsh with
    | null =>
      clear ih hf hin hp hmay
      have hb1 := (Below.refl w.heap.size w).alloc (Nat.le_refl _) (.cells #[.int .u8 0, .bool false, .bool false, .string ⟨#[]⟩, .string ⟨#[]⟩, .slice a 0 c] 27)
      unfold pV
      simp only [Prt.kind, Prt.yes, Prt.neg, Prt.mag, Prt.raw, Prt.items, List.length_nil]
      go_enter Try.func25, Try.ntmps25
      go_wp2_with fail
      go_ret
      exact ⟨_, rfl, .null, hb1⟩
    | truth y =>
      clear ih hf hin hp hmay
      have hb1 := (Below.refl w.heap.size w).alloc (Nat.le_refl _) (.cells #[.int .u8 1, .bool y, .bool false, .string ⟨#[]⟩, .string ⟨#[]⟩, .slice a 0 c] 27)
      unfold pV
      simp only [Prt.kind, Prt.yes, Prt.neg, Prt.mag, Prt.raw, Prt.items, List.length_nil]
      go_enter Try.func25, Try.ntmps25
      go_wp2_with fail
      go_ret
      exact ⟨_, rfl, .truth y, hb1⟩
    | num b m =>
      clear ih hf hin hp hmay
      have hb1 := (Below.refl w.heap.size w).alloc (Nat.le_refl _) (.cells #[.int .u8 2, .bool false, .bool b, .string m, .string ⟨#[]⟩, .slice a 0 c] 27)
      unfold pV
      simp only [Prt.kind, Prt.yes, Prt.neg, Prt.mag, Prt.raw, Prt.items, List.length_nil]
      go_enter Try.func25, Try.ntmps25
      go_wp2_with fail
      go_ret
      exact ⟨_, rfl, .num b m, hb1⟩
    | raw k r hk =>
      clear ih hf hin hp hmay
      have hb1 := (Below.refl w.heap.size w).alloc (Nat.le_refl _) (.cells #[.int .u8 k, .bool false, .bool false, .string ⟨#[]⟩, .string r, .slice a 0 c] 27)
      have t0 : (k == 0) = false := beq_eq_false_iff_ne.2 (by rintro rfl; simp [isRawK] at hk)
      have t1 : (k == 1) = false := beq_eq_false_iff_ne.2 (by rintro rfl; simp [isRawK] at hk)
      have t2 : (k == 2) = false := beq_eq_false_iff_ne.2 (by rintro rfl; simp [isRawK] at hk)
      have t7 : (k == 7) = false := beq_eq_false_iff_ne.2 (by rintro rfl; simp [isRawK] at hk)
      unfold pV
      simp only [Prt.kind, Prt.yes, Prt.neg, Prt.mag, Prt.raw, Prt.items, List.length_nil]
      have HK : Hid (isRawK k = true) := hk
      clear hk
      go_enter Try.func25, Try.ntmps25
      go_wp2_with fail
      go_ret
      exact ⟨_, rfl, .raw k r HK.out, hb1⟩
    | tup l' hlen hall =>
      injection hp with e1 e2 e3 e4 e5 e6
      subst e6
      clear e1 e2 e3 e4 e5
      have hd : dep (.mk 7 false false ⟨#[]⟩ ⟨#[]⟩ l) = depL l + 1 := by rw [dep, if_pos rfl]
      rw [hd] at hdep
      obtain ⟨ln, hln⟩ : ∃ ln, l.length = ln := ⟨_, rfl⟩
      have HLN : Hid (l.length = ln) := hln
      unfold pV
      simp only [Prt.kind, Prt.yes, Prt.neg, Prt.mag, Prt.raw, Prt.items]
      rw [hln] at hlen ⊢
      clear hln hd
      have hb1 := (Below.refl w.heap.size w).alloc (Nat.le_refl _) (.cells #[.int .u8 7, .bool false, .bool false, .string ⟨#[]⟩, .string ⟨#[]⟩, .slice a ln c] 27)
      have hb0 := Blk.new w 27 #[.int .u8 7, .bool false, .bool false, .string ⟨#[]⟩, .string ⟨#[]⟩, .slice a ln c]
      have hs1 := alloc_size w (.cells #[.int .u8 7, .bool false, .bool false, .string ⟨#[]⟩, .string ⟨#[]⟩, .slice a ln c] 27)
      obtain ⟨c0, c1, c2, c3, c4, c5⟩ := hb0.c6
      have hmk : ∀ w : World, (Instr.makeSlice 77 (.int .i64 (ln : Int)) (.int .i64 (ln : Int))).run Try.prog w = .ok (.slice (some ⟨w.heap.size, 0, none⟩) ln ln) (w.alloc (.cells (madeCells #[.nilIface] ln) 33)) := fun w =>
        run_make_row' (P := Try.prog) 77 33 .nilIface 16 Try.underlying77 info31 rfl .i64 .i64 ln (by omega) (by omega) w
      go_enter Try.func25, Try.ntmps25
      go_upto_region 10 with fail
      have hb2 := hb1.alloc hb1.size (.cells (madeCells #[.nilIface] ln) 33)
      have hB := Blk.new (w.alloc (.cells #[.int .u8 7, .bool false, .bool false, .string ⟨#[]⟩, .string ⟨#[]⟩, .slice a ln c] 27)) 33 (madeCells #[.nilIface] ln)
      have hs2 := alloc_size (w.alloc (.cells #[.int .u8 7, .bool false, .bool false, .string ⟨#[]⟩, .string ⟨#[]⟩, .slice a ln c] 27)) (.cells (madeCells #[.nilIface] ln) 33)
      have hb5 := (Below.refl _ (w.alloc (.cells #[.int .u8 7, .bool false, .bool false, .string ⟨#[]⟩, .string ⟨#[]⟩, .slice a ln c] 27))).alloc (Nat.le_refl _) (.cells (madeCells #[.nilIface] ln) 33)
      have c5' := (hb0.old hb5).cell 5
      rw [hs1] at hB hs2
      generalize (w.alloc (.cells #[.int .u8 7, .bool false, .bool false, .string ⟨#[]⟩, .string ⟨#[]⟩, .slice a ln c] 27)).alloc (.cells (madeCells #[.nilIface] ln) 33) = w2 at hb2 hB hs2 c5' ⊢
      have c6 : w2.cell? ⟨w.heap.size, 5, none⟩ = some (.slice a ln c) := c5'
      clear c5' c0 c1 c2 c3 c4 c5 hb5 hb1 hb0 hs1
      go_wp2_with fail
      have hS0 : Sofar w2 (w.heap.size + 1) 0 (madeCells #[.nilIface] ln) l ln := ⟨hB, made_size _ _, fun i _ _ h => by omega⟩
      go_loopw [31] (fun i wr => ∃ (j : Nat) (cs : Array Value), j ≤ ln ∧ i = .int .i64 j ∧ Sofar wr (w.heap.size + 1) j cs l ln ∧ Below w.heap.size w wr ∧ w.heap.size + 2 ≤ wr.heap.size) (fun i _ => ln - (intOf i).toNat)
      case atStart => exact ⟨0, _, by omega, rfl, hS0, hb2, by omega⟩
      case round =>
        clear hS0 hB c6
        obtain ⟨j, cs, hj, rfl, hS, hbel, hgt⟩ := hrel
        by_cases hlt : j < ln
        · have hlt2 : j < l.length := by rw [HLN.out]; exact hlt
          obtain ⟨bb, off, aj, cj, ha, _, _, hrow, hinj⟩ := (hin.keep hbel hn₀).at hlt2
          simp only [Prt.items] at ha hrow hinj
          subst ha
          obtain ⟨r0, r1, r2, r3, r4, r5⟩ := hrow
          have hfj := hf.mem (p := .mk 7 false false ⟨#[]⟩ ⟨#[]⟩ l) (List.getElem_mem hlt2)
          have hmj : may l[j] = true := List.all_eq_true.1 hall _ (List.getElem_mem hlt2)
          have hdj : dep l[j] ≤ 1000 := by have := depL_mem (List.getElem_mem hlt2); omega
          have ihj := ih _ (List.getElem_mem hlt2) hfj hmj hdj
          clear hfj hmj hdj
          obtain ⟨x, hx⟩ : ∃ x, l[j] = x := ⟨_, rfl⟩
          have HX : Hid (l[j] = x) := hx
          rw [hx] at r0 r1 r2 r3 r4 r5 hinj ihj
          clear hx
          have hsz := hbel.size
          have hby := (Below.refl wr.heap.size wr).alloc (Nat.le_refl _) (.cells #[.int .u8 x.kind, .bool x.yes, .bool x.neg, .string x.mag, .string x.raw, .slice aj x.items.length cj] 27)
          have hbz := alloc_size wr (.cells #[.int .u8 x.kind, .bool x.yes, .bool x.neg, .string x.mag, .string x.raw, .slice aj x.items.length cj] 27)
          have hcall := ihj aj cj lo n₀ _ (Nat.le_trans (by omega) hby.size) (hinj.keep hby (by omega))
          unfold pV at hcall
          have hB2 := hS.blk.below hby hS.blk.lt
          clear ihj hinj ih hin hf hall hmay
          go_wp2_with fail
          refine hcall.mono ?_
          rintro _ w3 ⟨v, rfl, hv, hb3⟩
          have hB3 := hB2.old hb3
          have hcs := hS.size
          have s0 : w3.cell? ⟨w.heap.size + 1, j, none⟩ = some (cs[j]'(by omega)) := by
            rw [hB3.cell]; simp
          have s1 := hB3.frozen j
          have hs3 := hb3.size
          rw [hbz] at hs3 hb3 hv
          have hB4 := hB3.set j v
          have hbw : Below w.heap.size w (w3.setCell ⟨w.heap.size + 1, j, none⟩ v) := (hbel.trans ((hby.mono hsz).trans (hb3.mono (by omega)))).setCell (p := ⟨w.heap.size + 1, j, none⟩) (by show _ ≤ w.heap.size + 1; omega) v
          have hkeep : ∀ b, w.heap.size + 2 ≤ b → (w3.setCell ⟨w.heap.size + 1, j, none⟩ v).heap[b]? = w3.heap[b]? := fun b hb => Below.heap_setCell w3 ⟨w.heap.size + 1, j, none⟩ v b (by show b ≠ w.heap.size + 1; omega)
          have hsz4 : (w3.setCell ⟨w.heap.size + 1, j, none⟩ v).heap.size = w3.heap.size := by simp [World.setCell]
          have hS4 : Sofar (w3.setCell ⟨w.heap.size + 1, j, none⟩ v) (w.heap.size + 1) (j + 1) (cs.setIfInBounds j v) l ln := by
            refine ⟨hB4, by simp [hcs], fun i hi hc hij => ?_⟩
            rw [hsz4]
            by_cases e : i = j
            · subst e
              rw [Array.getElem_setIfInBounds_self]
              have hx := HX.out
              rw [hx]
              exact (hv.keep (fun b h1 h2 => hkeep b (by omega))).mono (Nat.le_refl _) (by omega)
            · rw [show (cs.setIfInBounds j v)[i]'hc = cs[i]'(by simpa using hc) by rw [Array.getElem_setIfInBounds (by simpa using hc)]; rw [if_neg (Ne.symm e)]]
              have h0 := hS.vals i hi (by simpa using hc) (by omega)
              have h1 := h0.old (hby.trans (hb3.mono (by omega))) (Nat.le_refl _)
              exact (h1.keep (fun b q1 q2 => hkeep b (by omega))).mono (by omega) (Nat.le_refl _)
          have hform := hv.form
          clear hS hv hB4 hB3 hB2 hkeep hcall
          rcases hform with rfl | ⟨tv, xv, rfl⟩
          · go_wp2_with fail
            go_roundw
            case rel => exact ⟨j + 1, _, by omega, by simp, hS4, hbw, by omega⟩
            case measure => simp only [intOf]; omega
          · go_wp2_with fail
            go_roundw
            case rel => exact ⟨j + 1, _, by omega, by simp, hS4, hbw, by omega⟩
            case measure => simp only [intOf]; omega
        · have hjl : j = ln := by omega
          have hcs := hS.size
          have hBl := hS.blk
          have htup := tupleOf_any l (by rw [HLN.out]; omega) (by omega) (some ⟨w.heap.size + 1, 0, none⟩) ln (w.heap.size + 1) wr.heap.size (fun i => cs[i]?.getD .nilIface) wr
            (fun i hi => ⟨w.heap.size + 1, 0, rfl, Nat.le_refl _, by omega, by
              rw [hBl.cell, Nat.zero_add]
              have : i < cs.size := by rw [hcs, ← HLN.out]; exact hi
              simp [this]⟩)
            (fun i hi => by
              have hc : i < cs.size := by rw [hcs, ← HLN.out]; exact hi
              have := hS.vals i hi hc (by rw [hjl, ← HLN.out]; exact hi)
              simp only [Array.getElem?_eq_getElem hc, Option.getD_some]
              exact this.mono (Nat.le_refl _) (by omega))
          rw [HLN.out] at htup
          have hfin : ∀ w5, w5 = wr.alloc (.cells #[.slice (some ⟨w.heap.size + 1, 0, none⟩) ln ln, .int .i64 ((depL l + 1 : Nat) : Int)] 110) → VIn w5 w.heap.size w5.heap.size (.iface 78 (.pointer (some ⟨wr.heap.size, 0, none⟩))) (.mk 7 false false ⟨#[]⟩ ⟨#[]⟩ l) ∧ Below w.heap.size w w5 := by
            rintro _ rfl
            have q1 := (Below.refl wr.heap.size wr).alloc (Nat.le_refl _) (.cells #[.slice (some ⟨w.heap.size + 1, 0, none⟩) ln ln, .int .i64 ((depL l + 1 : Nat) : Int)] 110)
            have q2 := alloc_size wr (.cells #[.slice (some ⟨w.heap.size + 1, 0, none⟩) ln ln, .int .i64 ((depL l + 1 : Nat) : Int)] 110)
            have q3 := Blk.new wr 110 #[.slice (some ⟨w.heap.size + 1, 0, none⟩) ln ln, .int .i64 ((depL l + 1 : Nat) : Int)]
            refine ⟨?_, hbel.alloc hbel.size _⟩
            refine .tup (fun i => cs[i]?.getD .nilIface) (c := ln) (a := some ⟨w.heap.size + 1, 0, none⟩) (by have := hbel.size; omega) (by omega) (by rw [HLN.out]; exact q3) (fun i hi => ⟨w.heap.size + 1, 0, rfl, by omega, by omega, ?_⟩) (fun i hi => ?_)
            · rw [cell_block (q1.block _ (by omega)), hBl.cell, Nat.zero_add]
              have : i < cs.size := by rw [hcs, ← HLN.out]; exact hi
              simp [this]
            · have hc : i < cs.size := by rw [hcs, ← HLN.out]; exact hi
              have := hS.vals i hi hc (by rw [hjl, ← HLN.out]; exact hi)
              simp only [Array.getElem?_eq_getElem hc, Option.getD_some]
              exact (this.old q1 (Nat.le_refl _)).mono (by omega) (by omega)
          clear hS ih hin hf hall hmay hjl hBl
          go_wp2_with fail
          refine htup.mono ?_
          rintro _ w5 ⟨rfl, h5⟩
          obtain ⟨f1, f2⟩ := hfin w5 h5
          clear hfin h5
          go_wp2_with fail
          go_ret
          exact ⟨_, rfl, f1, f2⟩

theorem make_any (p : Prt) (hf : Fits p) (a : Option Addr) (c lo n₀ : Nat) (w : World) (hn₀ : n₀ ≤ w.heap.size) (hin : PIn w lo n₀ p a) :
    Calls Try.prog 10 #[pV p a c] w fun e w' => Below w.heap.size w w' ∧
      ((deeper 16 p = true ∧ e = .returned (.tuple #[.nilIface, .int .i64 91])) ∨ (deeper 16 p = false ∧ may p = false ∧ e = .returned (.tuple #[.nilIface, .int .i64 90])) ∨
        (deeper 16 p = false ∧ may p = true ∧ ∃ v, e = .returned (.tuple #[v, .int .i64 0]) ∧ VIn w' w.heap.size w'.heap.size v p)) := by
  have hb0 := Blk.new w 27 #[.int .u8 p.kind, .bool p.yes, .bool p.neg, .string p.mag, .string p.raw, .slice a p.items.length c]
  have hb1 := (Below.refl w.heap.size w).alloc (Nat.le_refl _) (.cells #[.int .u8 p.kind, .bool p.yes, .bool p.neg, .string p.mag, .string p.raw, .slice a p.items.length c] 27)
  have hc := deeper_any 16 (by omega) p hf a c lo n₀ _ (Nat.le_trans hn₀ hb1.size) (hin.keep hb1 hn₀)
  have hm := fun w' (h : n₀ ≤ w'.heap.size) hi => mayBe_any p hf a c lo n₀ w' h hi
  have hmd := fun h1 h2 w' (h : n₀ ≤ w'.heap.size) hi => made_any p hf h1 h2 a c lo n₀ w' h hi
  have hin1 := hin.keep hb1 hn₀
  have hsz := hb1.size
  have hdd := deeper_dep 16 p
  unfold pV at hc hm hmd ⊢
  clear hin hf
  cases hd : deeper 16 p with
  | true =>
    rw [hd] at hc
    clear hd hm hin1 hmd hdd
    go_enter Try.func10, Try.ntmps10
    go_wp2_with fail
    refine hc.mono ?_
    rintro _ w2 ⟨rfl, hb3⟩
    go_wp2_with fail
    go_ret2
    exact ⟨hb1.trans (hb3.mono hb1.size), .inl ⟨trivial, rfl⟩⟩
  | false =>
    rw [hd] at hc hdd
    have hdp : dep p ≤ 16 := by
      have := of_decide_eq_false hdd.symm
      omega
    clear hd hdd
    cases hy : may p with
    | true =>
      rw [hy] at hm
      have hmd2 := hmd hy (by omega)
      clear hy hmd
      go_enter Try.func10, Try.ntmps10
      go_wp2_with fail
      refine hc.mono ?_
      rintro _ w2 ⟨rfl, hb3⟩
      have h3 := hm w2 (by have := hb3.size; omega) (hin1.keep hb3 (by omega))
      obtain ⟨c0, c1, c2, c3, c4, c5⟩ := (hb0.old hb3).c6
      clear hm
      go_wp2_with fail
      refine h3.mono ?_
      rintro _ w3 ⟨rfl, hb4⟩
      have h5 := hmd2 w3 (by have := hb3.size; have := hb4.size; omega) ((hin1.keep hb3 (by omega)).keep hb4 (by have := hb3.size; omega))
      obtain ⟨c0, c1, c2, c3, c4, c5⟩ := ((hb0.old hb3).old hb4).c6
      clear hmd2 hin1
      go_wp2_with fail
      refine h5.mono ?_
      rintro _ w4 ⟨v, rfl, hv, hb5⟩
      go_wp2_with fail
      go_ret2
      have e3 := hb3.size
      have e4 := hb4.size
      exact ⟨hb1.trans ((hb3.mono hb1.size).trans ((hb4.mono (by omega)).trans (hb5.mono (by omega)))), .inr (.inr ⟨trivial, trivial, v, rfl, hv.mono (Nat.le_refl _) (by omega)⟩)⟩
    | false =>
      rw [hy] at hm
      clear hy hmd
      go_enter Try.func10, Try.ntmps10
      go_wp2_with fail
      refine hc.mono ?_
      rintro _ w2 ⟨rfl, hb3⟩
      have h3 := hm w2 (by have := hb3.size; omega) (hin1.keep hb3 (by omega))
      obtain ⟨c0, c1, c2, c3, c4, c5⟩ := (hb0.old hb3).c6
      clear hm hin1
      go_wp2_with fail
      refine h3.mono ?_
      rintro _ w3 ⟨rfl, hb4⟩
      go_wp2_with fail
      go_ret2
      have e3 := hb3.size
      exact ⟨hb1.trans ((hb3.mono hb1.size).trans (hb4.mono (by omega))), .inr (.inl ⟨trivial, trivial, rfl⟩)⟩
end Go.Proofs.Ytffhbellpcneeaa
