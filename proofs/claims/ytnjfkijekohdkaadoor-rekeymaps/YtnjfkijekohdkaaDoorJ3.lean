/- Contracts and lemmas (nothing is claimed here). -/
import Derived.Test.YtnjfkijekohdkaaDoorKAs
import Derived.WalkKit
import Derived.LaidEql
import Derived.Stop.Asserts
import Derived.RowKitTokens
import Derived.Deep.QuietTactic
import Derived.BigQuiet
namespace Go.Proofs.YtnjfkijekohdkaaDoor
open Go.RowKit Go.Extern.Stop Go.Stop Go.Extern Go.Vf

theorem rl_valueOf70 (t : Addr) (w : World) : (ReflectliteValue.unpack (.iface 72 (.pointer (some t)))).run Tryd.prog w = .ok (valOf 72 ⟨w.heap.size, 0, none⟩ 150) (w.alloc (.cells #[.pointer (some t)] 72)) := by kernel_rfl
theorem rl_valueOf45 (e : Addr) (w : World) : (ReflectliteValue.unpack (.iface 67 (.pointer (some e)))).run Tryd.prog w = .ok (valOf 67 ⟨w.heap.size, 0, none⟩ 150) (w.alloc (.cells #[.pointer (some e)] 67)) := by kernel_rfl
theorem rl_type70 (a : Addr) (w : World) : (ReflectliteValue.methodAny (ReflectliteValue.valueError "reflectlite.Value.Type" 0) (fun t _ _ _ => ReflectliteType.toType t) #[valOf 72 a 150]).run Tryd.prog w = .ok (.iface 122 (.agg #[hnd 72])) w := by kernel_rfl
theorem rl_kind70 (w : World) : ((ReflectliteType.abiMethod fun t => (fun a : Nat => Value.int IntKind.u8 (a : Int)) <$> Rtype.kind t) #[hnd 72]).run Tryd.prog w = .ok (.int .u8 22) w := by kernel_rfl
theorem rl_kind45 (w : World) : ((ReflectliteType.abiMethod fun t => (fun a : Nat => Value.int IntKind.u8 (a : Int)) <$> Rtype.kind t) #[hnd 67]).run Tryd.prog w = .ok (.int .u8 22) w := by kernel_rfl
theorem rl_elem70 (w : World) : (ReflectliteType.method ReflectliteType.elem #[.agg #[hnd 72]]).run Tryd.prog w = .ok (.iface 122 (.agg #[hnd 67])) w := by kernel_rfl
theorem rl_impl45 (w : World) : (ReflectliteType.relation "Implements" ReflectliteType.implements_ #[.agg #[hnd 67], .iface 122 (.agg #[hnd 44])]).run Tryd.prog w = .ok (.bool true) w := by kernel_rfl
theorem rl_typeOf45 (v : Value) (w : World) : (ReflectliteType.typeOf #[.iface 67 v]).run Tryd.prog w = .ok (.iface 122 (.agg #[hnd 67])) w := by kernel_rfl
theorem rl_asgn45 (w : World) : (ReflectliteType.relation "AssignableTo" ReflectliteType.assignableTo #[.agg #[hnd 67], .iface 122 (.agg #[hnd 67])]).run Tryd.prog w = .ok (.bool true) w := by kernel_rfl
theorem rl_parts70 (a : Addr) (w : World) : (ReflectliteValue.parts (valOf 72 a 150)).run Tryd.prog w = .ok (some (72, a, 150)) w := by kernel_rfl
theorem rl_parts45 (a : Addr) (w : World) : (ReflectliteValue.parts (valOf 67 a 150)).run Tryd.prog w = .ok (some (67, a, 150)) w := by kernel_rfl
theorem rl_parts45s (a : Addr) (w : World) : (ReflectliteValue.parts (valOf 67 a 406)).run Tryd.prog w = .ok (some (67, a, 406)) w := by kernel_rfl
theorem rl_elemOf70 (w : World) : (Rtype.elem? 72).run Tryd.prog w = .ok (some 67) w := by kernel_rfl
theorem rl_mk45 (p : Addr) (w : World) : (ReflectliteValue.mk 67 p ReflectliteValue.flagAddr).run Tryd.prog w = .ok (valOf 67 p 406) w := by kernel_rfl
theorem rl_direct45 (w : World) : (Rtype.directlyAssignable 67 67).run Tryd.prog w = .ok true w := by kernel_rfl

theorem rl_isNil70 (a p : Addr) (W : World) (ha : W.cell? a = some (.pointer (some p))) :
    (ReflectliteValue.method (ReflectliteValue.valueError "reflectlite.Value.IsNil" 0) ReflectliteValue.isNil #[valOf 72 a 150]).run Tryd.prog W = .ok (.bool false) W := by
  refine (run_then (rl_parts70 a W)).trans ?_
  simp [ReflectliteValue.isNil, loadVar, isAgg, underlying, Tryd.underlying72, ha, Result.andThen]

theorem rl_elemV70 (a p : Addr) (W : World) (ha : W.cell? a = some (.pointer (some p))) :
    (ReflectliteValue.method (ReflectliteValue.valueError "reflectlite.Value.Elem" 0) ReflectliteValue.elem #[valOf 72 a 150]).run Tryd.prog W = .ok (valOf 67 p 406) W := by
  refine (run_then (rl_parts70 a W)).trans ?_
  simp [ReflectliteValue.elem, loadVar, isAgg, underlying, Tryd.underlying72, ha, Result.andThen, rl_elemOf70, rl_mk45]

theorem rl_set45 (ta b e : Addr) (old : Value) (W : World) (hb : W.cell? b = some (.pointer (some e))) (ht : W.cell? ta = some old) (hf : W.frozen? ta = false) :
    (ReflectliteValue.set #[valOf 67 ta 406, valOf 67 b 150]).run Tryd.prog W = .ok (.tuple #[]) (W.setCell ta (.pointer (some e))) := by
  refine (run_then (rl_parts45s ta W)).trans ?_
  refine (run_then (rl_parts45 b W)).trans ?_
  simp [ReflectliteValue.flagAddr, loadVar, isAgg, underlying, Tryd.underlying67, hb, Result.andThen, rl_direct45, storeVar, Value.cells, storeCells, Addr.add]
  rw [run_store Tryd.prog W ta _ _ (by rfl)]
  simp [ht, hf]

/-- errors.As of no error. -/
theorem as_none (t : Value) (w : World) : Calls Tryd.prog 32 #[.nilIface, t] w fun e w' => e = .returned (.bool false) ∧ w' = w := by
  go_enter Tryd.func32, Tryd.ntmps32
  go_wp2
  go_ret
  exact ⟨rfl, rfl⟩

/-- The world that errors.As leaves behind, but for the target. -/
def asWF (w : World) (t e : Addr) : World :=
  (((w.alloc (.cells #[.pointer (some t)] 72)).alloc (.cells #[hnd 72, .pointer (some ⟨w.heap.size, 0, none⟩), .int .u64 150] 95)).alloc (.cells #[hnd 72, .pointer (some ⟨w.heap.size, 0, none⟩), .int .u64 150] 95)).alloc (.cells #[.pointer (some e)] 67)
set_option maxHeartbeats 4000000 in
/-- errors.As of a Fault: the target holds it. -/
theorem as_fault (e t : Addr) (old : Value) (w : World) (hg : w.cell? ⟨0, 0, none⟩ = some (.iface 122 (.agg #[hnd 44]))) (ht0 : w.cell? t = some old) (hf0 : w.frozen? t = false) :
    Calls Tryd.prog 32 #[.iface 67 (.pointer (some e)), .iface 72 (.pointer (some t))] w fun ev w' => ev = .returned (.bool true) ∧ w' = (asWF w t e).setCell t (.pointer (some e)) := by
  have c37 := @run_callFunc_extern Tryd.prog 46 _ (fun args => ReflectliteValue.unpack (args.getD 0 (.tuple #[]))) Tryd.func46 (by kernel_rfl) (by kernel_rfl) (by kernel_rfl) (by kernel_rfl)
  have c38 := @run_callFunc_extern Tryd.prog 47 _ (ReflectliteValue.methodAny (ReflectliteValue.valueError "reflectlite.Value.Type" 0) (fun t _ _ _ => ReflectliteType.toType t)) Tryd.func47 (by kernel_rfl) (by kernel_rfl) (by kernel_rfl) (by kernel_rfl)
  have c39 := @run_callFunc_extern Tryd.prog 48 _ (ReflectliteValue.method (ReflectliteValue.valueError "reflectlite.Value.IsNil" 0) ReflectliteValue.isNil) Tryd.func48 (by kernel_rfl) (by kernel_rfl) (by kernel_rfl) (by kernel_rfl)
  have c63 := @run_callFunc_extern Tryd.prog 76 _ (ReflectliteType.abiMethod fun t => do pure (.int .u8 (← Rtype.kind t))) Tryd.func76 (by kernel_rfl) (by kernel_rfl) (by kernel_rfl) (by kernel_rfl)
  have c90 := @run_callFunc_extern Tryd.prog 102 _ (ReflectliteType.method ReflectliteType.elem) Tryd.func102 (by kernel_rfl) (by kernel_rfl) (by kernel_rfl) (by kernel_rfl)
  have c91 := @run_callFunc_extern Tryd.prog 103 _ (ReflectliteType.relation "Implements" ReflectliteType.implements_) Tryd.func103 (by kernel_rfl) (by kernel_rfl) (by kernel_rfl) (by kernel_rfl)
  have c41 := @run_callFunc_extern Tryd.prog 50 _ ReflectliteType.typeOf Tryd.func50 (by kernel_rfl) (by kernel_rfl) (by kernel_rfl) (by kernel_rfl)
  have c88 := @run_callFunc_extern Tryd.prog 100 _ (ReflectliteType.relation "AssignableTo" ReflectliteType.assignableTo) Tryd.func100 (by kernel_rfl) (by kernel_rfl) (by kernel_rfl) (by kernel_rfl)
  have c47 := @run_callFunc_extern Tryd.prog 59 _ (ReflectliteValue.method (ReflectliteValue.valueError "reflectlite.Value.Elem" 0) ReflectliteValue.elem) Tryd.func59 (by kernel_rfl) (by kernel_rfl) (by kernel_rfl) (by kernel_rfl)
  have c48 := @run_callFunc_extern Tryd.prog 60 _ ReflectliteValue.set Tryd.func60 (by kernel_rfl) (by kernel_rfl) (by kernel_rfl) (by kernel_rfl)
  have f1 := rl_typeOf45
  have f2 := rl_mAsgn
  have f3 := rl_asgn45
  have f4 := rl_valueOf45
  have f5 := rl_valueOf70
  have f6 := rl_type70
  have f7 := rl_mKind
  have f8 := rl_mElem
  have f9 := rl_mImpl
  have g1 := rl_kind70
  have g2 := rl_kind45
  have g3 := rl_elem70
  have g4 := rl_impl45
  have hlt : 0 < w.heap.size := by
    rcases Nat.eq_zero_or_pos w.heap.size with h0 | h
    · simp [World.cell?, h0] at hg
    · exact h
  have htl : t.block < w.heap.size := by
    rcases Nat.lt_or_ge t.block w.heap.size with h | h
    · exact h
    · simp [World.cell?, Array.getElem?_eq_none h] at ht0
  have n1 := rl_isNil70 ⟨w.heap.size, 0, none⟩ t ((w.alloc (.cells #[.pointer (some t)] 72)).alloc (.cells #[hnd 72, .pointer (some ⟨w.heap.size, 0, none⟩), .int .u64 150] 95)) (by simp)
  have hg2 : ((w.alloc (.cells #[.pointer (some t)] 72)).alloc (.cells #[hnd 72, .pointer (some ⟨w.heap.size, 0, none⟩), .int .u64 150] 95)).cell? ⟨0, 0, none⟩ = some (.iface 122 (.agg #[hnd 44])) := by
    rw [World.cell?_alloc_lt _ _ ⟨0, 0, none⟩ (by simp), World.cell?_alloc_lt _ _ ⟨0, 0, none⟩ hlt]; exact hg
  have n2 := rl_elemV70 ⟨w.heap.size, 0, none⟩ t (((w.alloc (.cells #[.pointer (some t)] 72)).alloc (.cells #[hnd 72, .pointer (some ⟨w.heap.size, 0, none⟩), .int .u64 150] 95)).alloc (.cells #[hnd 72, .pointer (some ⟨w.heap.size, 0, none⟩), .int .u64 150] 95)) (by rw [World.cell?_alloc_lt _ _ ⟨w.heap.size, 0, none⟩ (by simp; omega)]; simp)
  have n3 := rl_set45 t ⟨w.heap.size + 1 + 1 + 1, 0, none⟩ e old (asWF w t e)
    (by unfold asWF; rw [World.cell?_alloc_at _ _ _ _ (by simp)]; rfl)
    (by unfold asWF; rw [World.cell?_alloc_lt _ _ t (by simp; omega), World.cell?_alloc_lt _ _ t (by simp; omega), World.cell?_alloc_lt _ _ t (by simp; omega), World.cell?_alloc_lt _ _ t htl]; exact ht0)
    (by unfold asWF; rw [World.frozen?_alloc_old _ _ t (by simp; omega), World.frozen?_alloc_old _ _ t (by simp; omega), World.frozen?_alloc_old _ _ t (by simp; omega), World.frozen?_alloc_old _ _ t (Nat.ne_of_lt htl)]; exact hf0)
  unfold asWF at n3
  unfold hnd valOf at *
  go_enter Tryd.func32, Tryd.ntmps32
  go_wp2
  refine wp_loop_rounds 1 ?_
  rw [rounds_succ]
  go_wp2
  go_ret
  exact ⟨rfl, rfl⟩
end Go.Proofs.YtnjfkijekohdkaaDoor

namespace Go.Proofs.YtnjfkijekohdkaaDoor
open Go.RowKit Go.Extern.Stop Go.Stop Go.Extern Go.Vf

theorem rl_typeOf30 (v : Value) (w : World) : (ReflectliteType.typeOf #[.iface 33 v]).run Tryd.prog w = .ok (.iface 122 (.agg #[hnd 33])) w := by kernel_rfl
theorem rl_mComp (h : Value) (w : World) : (Go.method 271 122 (.agg #[h]) "Comparable").run Tryd.prog w = .ok (101, .agg #[h]) w := by kernel_rfl
theorem rl_mIs (v : Value) (w : World) : (Go.method 271 67 v "Is").run Tryd.prog w = .ok (82, v) w := by kernel_rfl
theorem ta_is (v : Value) (w : World) : (Instr.typeAssert (.iface 67 v) 44 134 true).run Tryd.prog w = .ok (.tuple #[.iface 67 v, .bool true]) w := run_typeAssert_hasB Tryd.underlying134 (by kernel_rfl) v 44 w
theorem ne_types (v x : Value) (w : World) : (binOp .eql 44 (.iface 67 v) (.iface 33 x)).run Tryd.prog w = .ok (.bool false) w := run_eql_iface_types 67 33 v x Tryd.underlying44 (by decide) w
theorem info30 : (Tryd.prog.info? 33).map (fun i => i.comparable) = some true := by kernel_rfl
theorem eq_code (c : Int) (w : World) : (binOp .eql 44 (.iface 33 (.int .i64 c)) (.iface 33 (.int .i64 c))).run Tryd.prog w = .ok (.bool true) w := by
  obtain ⟨i, hi, hc⟩ : ∃ i, Tryd.prog.info? 33 = some i ∧ i.comparable = true := by simpa using info30
  have h : ∀ d, (Op.equalIn (d + 1 + 1) 44 (.iface 33 (.int .i64 c)) (.iface 33 (.int .i64 c))).run Tryd.prog w = .ok true w := fun d => by
    simp [Op.equalIn, run_underlying Tryd.underlying44, run_underlying Tryd.underlying33, typeInfo, hi, hc]
  simp only [binOp]
  simp [Op.equal, Op.maxDepth, h 9998]

/-- (*api.Fault).Is at its own code. -/
theorem faultIs_hit (e : Addr) (c : Int) (w : World) (hc : w.cell? e = some (.int .i64 c)) : Calls Tryd.prog 82 #[.pointer (some e), .iface 33 (.int .i64 c)] w fun ev w' => ev = .returned (.bool true) ∧ w' = w := by
  have q := eq_code c
  go_enter Tryd.func82, Tryd.ntmps82
  go_wp2
  go_ret
  exact ⟨rfl, rfl⟩
theorem rl_comp30 (w : World) : (ReflectliteType.method (fun t => do Rtype.noPackHeld "Comparable" t; (fun a => Value.bool a.comparable) <$> typeInfo t) #[.agg #[hnd 33]]).run Tryd.prog w = .ok (.bool true) w := by kernel_rfl

set_option maxRecDepth 20000 in
set_option maxHeartbeats 4000000 in
/-- errors.Is of a Fault at its own code. -/
theorem is_fault (e : Addr) (c : Int) (w : World) (hc : w.cell? e = some (.int .i64 c)) : Calls Tryd.prog 34 #[.iface 67 (.pointer (some e)), .iface 33 (.int .i64 c)] w fun ev w' => ev = .returned (.bool true) ∧ w' = w := by
  have c41 := @run_callFunc_extern Tryd.prog 50 _ ReflectliteType.typeOf Tryd.func50 (by kernel_rfl) (by kernel_rfl) (by kernel_rfl) (by kernel_rfl)
  have c89 := @run_callFunc_extern Tryd.prog 101 _ (ReflectliteType.method (fun t => do Rtype.noPackHeld "Comparable" t; pure (.bool (← typeInfo t).comparable))) Tryd.func101 (by kernel_rfl) (by kernel_rfl) (by kernel_rfl) (by kernel_rfl)
  have f1 := rl_typeOf30
  have f2 := rl_mComp
  have f3 := rl_comp30
  have f4 := rl_mIs
  have f5 := ta_is
  have f6 := ne_types
  have f7 := eq_code c w
  unfold hnd at *
  go_enter Tryd.func34, Tryd.ntmps34
  go_wp2
  refine wp_loop_rounds 1 ?_
  rw [rounds_succ]
  go_wp2
  go_ret
  exact ⟨rfl, rfl⟩

set_option maxRecDepth 20000 in
set_option maxHeartbeats 4000000 in
/-- errors.Is of an Errno at itself. -/
theorem is_errno (c : Int) (w : World) : Calls Tryd.prog 34 #[.iface 33 (.int .i64 c), .iface 33 (.int .i64 c)] w fun ev w' => ev = .returned (.bool true) ∧ w' = w := by
  have c41 := @run_callFunc_extern Tryd.prog 50 _ ReflectliteType.typeOf Tryd.func50 (by kernel_rfl) (by kernel_rfl) (by kernel_rfl) (by kernel_rfl)
  have c89 := @run_callFunc_extern Tryd.prog 101 _ (ReflectliteType.method (fun t => do Rtype.noPackHeld "Comparable" t; pure (.bool (← typeInfo t).comparable))) Tryd.func101 (by kernel_rfl) (by kernel_rfl) (by kernel_rfl) (by kernel_rfl)
  have f1 := rl_typeOf30
  have f2 := rl_mComp
  have f3 := rl_comp30
  have f7 := eq_code c w
  unfold hnd at *
  go_enter Tryd.func34, Tryd.ntmps34
  go_wp2
  refine wp_loop_rounds 1 ?_
  rw [rounds_succ]
  go_wp2
  go_ret
  exact ⟨rfl, rfl⟩
end Go.Proofs.YtnjfkijekohdkaaDoor

namespace Go.Proofs.YtnjfkijekohdkaaDoor
open Go.RowKit Go.Extern.Stop Go.Stop Go.Extern Go.Vf

theorem sameInts_none (w : World) : Calls Tryd.prog 33 #[.slice none 0 0, .slice none 0 0] w fun e w' => e = .returned (.bool true) ∧ w' = w := by
  go_enter Tryd.func33, Tryd.ntmps33
  go_wp2
  refine wp_loop_rounds 1 ?_
  rw [rounds_succ]
  go_wp2
  go_ret
  exact ⟨rfl, rfl⟩

/-- No error, and none asked. -/
theorem keepIs_none (w : World) : Calls Tryd.prog 13 #[.nilIface, .agg #[.int .i64 0, .int .i64 0, .slice none 0 0]] w fun e w' => e = .returned (.bool true) ∧ Below w.heap.size w w' := by
  have hB := (Below.refl w.heap.size w).alloc (Nat.le_refl _) (.cells #[.int .i64 0, .int .i64 0, .slice none 0 0] 40)
  go_enter Tryd.func13, Tryd.ntmps13
  go_wp2
  go_ret
  exact ⟨rfl, hB⟩

theorem cell_keep {w w' : World} (h : Below w.heap.size w w') {a : Addr} {v : Value} (hc : w.cell? a = some v) : w'.cell? a = some v := by
  have hl : a.block < w.heap.size := by
    rcases Nat.lt_or_ge a.block w.heap.size with h | h
    · exact h
    · simp [World.cell?, Array.getElem?_eq_none h] at hc
  exact (h.cell hl).trans hc

theorem as_fault_b (e t : Addr) (old : Value) (w : World) (hg : w.cell? ⟨0, 0, none⟩ = some (.iface 122 (.agg #[hnd 44]))) (ht0 : w.cell? t = some old) (hf0 : w.frozen? t = false) :
    Calls Tryd.prog 32 #[.iface 67 (.pointer (some e)), .iface 72 (.pointer (some t))] w fun ev w' => ev = .returned (.bool true) ∧ w'.cell? t = some (.pointer (some e)) ∧ Below t.block w w' := by
  have htl : t.block < w.heap.size := by
    rcases Nat.lt_or_ge t.block w.heap.size with h | h
    · exact h
    · simp [World.cell?, Array.getElem?_eq_none h] at ht0
  refine (as_fault e t old w hg ht0 hf0).mono ?_
  rintro _ _ ⟨rfl, rfl⟩
  have hB : Below w.heap.size w (asWF w t e) := by
    have b1 := (Below.refl w.heap.size w).alloc (Nat.le_refl _) (.cells #[.pointer (some t)] 72)
    have b2 := b1.alloc b1.size (.cells #[hnd 72, .pointer (some ⟨w.heap.size, 0, none⟩), .int .u64 150] 95)
    have b3 := b2.alloc b2.size (.cells #[hnd 72, .pointer (some ⟨w.heap.size, 0, none⟩), .int .u64 150] 95)
    exact b3.alloc b3.size _
  refine ⟨rfl, World.cell?_setCell_same' _ _ _ (by rw [cell_keep hB ht0]; rfl), ?_⟩
  exact (hB.mono (Nat.le_of_lt htl)).setCell (Nat.le_refl _) _

set_option maxRecDepth 20000 in
set_option maxHeartbeats 4000000 in
/-- A Fault that says what is asked. -/
theorem keepIs_fault (b : Nat) (c m : Int) (w : World) (hne : c ≠ 0) (hg : w.cell? ⟨0, 0, none⟩ = some (.iface 122 (.agg #[hnd 44]))) (h0 : w.cell? ⟨b, 0, none⟩ = some (.int .i64 c)) (h1 : w.cell? ⟨b, 1, none⟩ = some (.int .i64 m)) (h2 : w.cell? ⟨b, 2, none⟩ = some (.slice none 0 0)) :
    Calls Tryd.prog 13 #[.iface 67 (.pointer (some ⟨b, 0, none⟩)), .agg #[.int .i64 c, .int .i64 m, .slice none 0 0]] w fun ev w' => ev = .returned (.bool true) ∧ Below w.heap.size w w' := by
  have d0 : decide (c = 0) = false := by simpa using hne
  have d1 : (c == 0) = false := by simpa using hne
  have bB1 := (Below.refl w.heap.size w).alloc (Nat.le_refl _) (.cells #[.int .i64 c, .int .i64 m, .slice none 0 0] 40)
  have bB2 := bB1.alloc bB1.size (.cells #[.pointer none] 67)
  have s1 := alloc_size w (.cells #[.int .i64 c, .int .i64 m, .slice none 0 0] 40)
  have k1 := Blk.new w 40 #[.int .i64 c, .int .i64 m, .slice none 0 0]
  have bB3 := (Below.refl _ (w.alloc (.cells #[.int .i64 c, .int .i64 m, .slice none 0 0] 40))).alloc (Nat.le_refl _) (.cells #[.pointer none] 67)
  have k2 := k1.old bB3
  have k3 := Blk.new (w.alloc (.cells #[.int .i64 c, .int .i64 m, .slice none 0 0] 40)) 67 #[.pointer none]
  rw [s1] at k3
  clear bB3 k1
  go_enter Tryd.func13, Tryd.ntmps13
  go_wp2_with fail
  generalize (w.alloc (.cells #[.int .i64 c, .int .i64 m, .slice none 0 0] 40)).alloc (.cells #[.pointer none] 67) = w2 at *
  have g2 := cell_keep bB2 hg
  have e0 := cell_keep bB2 h0
  have e1 := cell_keep bB2 h1
  have e2 := cell_keep bB2 h2
  refine (as_fault_b ⟨b, 0, none⟩ ⟨w.heap.size + 1, 0, none⟩ (.pointer none) w2 g2 ?_ ?_).mono ?_
  · exact k3.cell 0
  · exact k3.frozen 0
  rintro _ w3 ⟨rfl, ht, hB3⟩
  have hbl : b < w.heap.size := by
    rcases Nat.lt_or_ge b w.heap.size with h | h
    · exact h
    · simp [World.cell?, Array.getElem?_eq_none h] at h0
  have k4 := k2.below hB3 (Nat.lt_succ_self _)
  have a0 : w3.cell? ⟨b, 0, none⟩ = some (.int .i64 c) := (hB3.cell (by show b < w.heap.size + 1; omega)).trans e0
  have a1 : w3.cell? ⟨b, 1, none⟩ = some (.int .i64 m) := (hB3.cell (by show b < w.heap.size + 1; omega)).trans e1
  have a2 : w3.cell? ⟨b, 2, none⟩ = some (.slice none 0 0) := (hB3.cell (by show b < w.heap.size + 1; omega)).trans e2
  have x0 : w3.cell? ⟨w.heap.size, 0, none⟩ = some (.int .i64 c) := k4.cell 0
  have x1 : w3.cell? ⟨w.heap.size, 1, none⟩ = some (.int .i64 m) := k4.cell 1
  have x2 : w3.cell? ⟨w.heap.size, 2, none⟩ = some (.slice none 0 0) := k4.cell 2
  have bB4 : Below w.heap.size w w3 := bB2.trans (hB3.mono (Nat.le_succ _))
  clear k2 k3 k4 g2 e0 e1 e2 h0 h1 h2 hg s1 bB1 bB2 hB3
  go_wp2_with fail
  go_quiet (first | (go_at_call 33; exact Calls.quiet_of_same (sameInts_none _)) | (go_at_call 34; exact Calls.quiet_of_same (is_fault _ c _ (by simpa using a0))))
  go_wp2
  go_ret
  exact ⟨rfl, ⟨bB4.os, bB4.tape, bB4.output, bB4.size, bB4.block⟩⟩
set_option maxRecDepth 20000 in
set_option maxHeartbeats 4000000 in
/-- Why at a Fault that comes of a number. -/
theorem why_fault (b : Nat) (k : Int) (w : World) (hg : w.cell? ⟨0, 0, none⟩ = some (.iface 122 (.agg #[hnd 44]))) (h3 : w.cell? ⟨b, 3, none⟩ = some (.iface 33 (.int .i64 k))) :
    Calls Tryd.prog 15 #[.iface 67 (.pointer (some ⟨b, 0, none⟩)), .int .i64 k] w fun ev w' => ev = .returned (.bool true) ∧ Below w.heap.size w w' := by
  have bB2 := (Below.refl w.heap.size w).alloc (Nat.le_refl _) (.cells #[.pointer none] 67)
  have k3 := Blk.new w 67 #[.pointer none]
  go_enter Tryd.func15, Tryd.ntmps15
  go_wp2_with fail
  generalize w.alloc (.cells #[.pointer none] 67) = w2 at *
  have g2 := cell_keep bB2 hg
  have e3 := cell_keep bB2 h3
  have hbl : b < w.heap.size := World.block_lt_of_cell? w _ h3
  refine (as_fault_b ⟨b, 0, none⟩ ⟨w.heap.size, 0, none⟩ (.pointer none) w2 g2 ?_ ?_).mono ?_
  · exact k3.cell 0
  · exact k3.frozen 0
  rintro _ w3 ⟨rfl, ht, hB3⟩
  have a3 : w3.cell? ⟨b, 3, none⟩ = some (.iface 33 (.int .i64 k)) := (hB3.cell (show b < w.heap.size from hbl)).trans e3
  have HW3 : Hid (Below w.heap.size w w3) := bB2.trans hB3
  have hi := is_errno k w3
  clear k3 bB2 hB3 e3 g2 hg h3
  go_wp2_with fail
  refine hi.mono ?_
  rintro _ _ ⟨rfl, rfl⟩
  clear hi
  go_wp2_with fail
  go_ret
  exact ⟨rfl, HW3⟩
end Go.Proofs.YtnjfkijekohdkaaDoor
