/- Contracts and lemmas (nothing is claimed here). -/
import Derived.Test.YtcbjnifoojjipaaGreatDoorJ1
import Derived.WalkKit
import Derived.LaidEql
import Derived.Stop.Asserts
import Derived.RowKitTokens
namespace Go.Proofs.YtcbjnifoojjipaaGreatDoor
open Go.RowKit Go.Extern.Stop Go.Stop Go.Extern Go.Vf
abbrev hnd (t : Nat) : Value := .pointer (some ⟨5, t, none⟩)
abbrev valOf (t : Nat) (a : Addr) (f : Int) : Value := .agg #[hnd t, .pointer (some a), .int .u64 f]
theorem rl_valueOf70 (t : Addr) (w : World) : (ReflectliteValue.unpack (.iface 77 (.pointer (some t)))).run Tryz.prog w = .ok (valOf 77 ⟨w.heap.size, 0, none⟩ 150) (w.alloc (.cells #[.pointer (some t)] 77)) := by kernel_rfl
theorem rl_valueOf45 (e : Addr) (w : World) : (ReflectliteValue.unpack (.iface 71 (.pointer (some e)))).run Tryz.prog w = .ok (valOf 71 ⟨w.heap.size, 0, none⟩ 150) (w.alloc (.cells #[.pointer (some e)] 71)) := by kernel_rfl
theorem rl_type70 (a : Addr) (w : World) : (ReflectliteValue.methodAny (ReflectliteValue.valueError "reflectlite.Value.Type" 0) (fun t _ _ _ => ReflectliteType.toType t) #[valOf 77 a 150]).run Tryz.prog w = .ok (.iface 148 (.agg #[hnd 77])) w := by kernel_rfl
theorem rl_kind70 (w : World) : ((ReflectliteType.abiMethod fun t => (fun a : Nat => Value.int IntKind.u8 (a : Int)) <$> Rtype.kind t) #[hnd 77]).run Tryz.prog w = .ok (.int .u8 22) w := by kernel_rfl
theorem rl_kind45 (w : World) : ((ReflectliteType.abiMethod fun t => (fun a : Nat => Value.int IntKind.u8 (a : Int)) <$> Rtype.kind t) #[hnd 71]).run Tryz.prog w = .ok (.int .u8 22) w := by kernel_rfl
theorem rl_mKind (h : Value) (w : World) : (Go.method 359 148 (.agg #[h]) "Kind").run Tryz.prog w = .ok (197, h) w := by kernel_rfl
theorem rl_mElem (h : Value) (w : World) : (Go.method 359 148 (.agg #[h]) "Elem").run Tryz.prog w = .ok (210, .agg #[h]) w := by kernel_rfl
theorem rl_mImpl (h : Value) (w : World) : (Go.method 359 148 (.agg #[h]) "Implements").run Tryz.prog w = .ok (211, .agg #[h]) w := by kernel_rfl
theorem rl_mAsgn (h : Value) (w : World) : (Go.method 359 148 (.agg #[h]) "AssignableTo").run Tryz.prog w = .ok (208, .agg #[h]) w := by kernel_rfl
theorem rl_elem70 (w : World) : (ReflectliteType.method ReflectliteType.elem #[.agg #[hnd 77]]).run Tryz.prog w = .ok (.iface 148 (.agg #[hnd 71])) w := by kernel_rfl
theorem rl_impl45 (w : World) : (ReflectliteType.relation "Implements" ReflectliteType.implements_ #[.agg #[hnd 71], .iface 148 (.agg #[hnd 34])]).run Tryz.prog w = .ok (.bool true) w := by kernel_rfl
theorem rl_typeOf45 (v : Value) (w : World) : (ReflectliteType.typeOf #[.iface 71 v]).run Tryz.prog w = .ok (.iface 148 (.agg #[hnd 71])) w := by kernel_rfl
theorem rl_asgn45 (w : World) : (ReflectliteType.relation "AssignableTo" ReflectliteType.assignableTo #[.agg #[hnd 71], .iface 148 (.agg #[hnd 71])]).run Tryz.prog w = .ok (.bool true) w := by kernel_rfl
theorem rl_parts70 (a : Addr) (w : World) : (ReflectliteValue.parts (valOf 77 a 150)).run Tryz.prog w = .ok (some (77, a, 150)) w := by kernel_rfl
theorem rl_parts45 (a : Addr) (w : World) : (ReflectliteValue.parts (valOf 71 a 150)).run Tryz.prog w = .ok (some (71, a, 150)) w := by kernel_rfl
theorem rl_parts45s (a : Addr) (w : World) : (ReflectliteValue.parts (valOf 71 a 406)).run Tryz.prog w = .ok (some (71, a, 406)) w := by kernel_rfl
theorem rl_elemOf70 (w : World) : (Rtype.elem? 77).run Tryz.prog w = .ok (some 71) w := by kernel_rfl
theorem rl_mk45 (p : Addr) (w : World) : (ReflectliteValue.mk 71 p ReflectliteValue.flagAddr).run Tryz.prog w = .ok (valOf 71 p 406) w := by kernel_rfl
theorem rl_direct45 (w : World) : (Rtype.directlyAssignable 71 71).run Tryz.prog w = .ok true w := by kernel_rfl
theorem run_then {α β : Type} {m : Sem α} {g : α → Sem β} {P : Program} {w w₁ : World} {a : α} (h : m.run P w = .ok a w₁) : (m >>= g).run P w = (g a).run P w₁ := by
  rw [Sem.run_bind, h]; rfl
theorem rl_isNil70 (a p : Addr) (W : World) (ha : W.cell? a = some (.pointer (some p))) :
    (ReflectliteValue.method (ReflectliteValue.valueError "reflectlite.Value.IsNil" 0) ReflectliteValue.isNil #[valOf 77 a 150]).run Tryz.prog W = .ok (.bool false) W := by
  refine (run_then (rl_parts70 a W)).trans ?_
  simp [ReflectliteValue.isNil, loadVar, isAgg, underlying, Tryz.underlying77, ha, Result.andThen]
theorem rl_elemV70 (a p : Addr) (W : World) (ha : W.cell? a = some (.pointer (some p))) :
    (ReflectliteValue.method (ReflectliteValue.valueError "reflectlite.Value.Elem" 0) ReflectliteValue.elem #[valOf 77 a 150]).run Tryz.prog W = .ok (valOf 71 p 406) W := by
  refine (run_then (rl_parts70 a W)).trans ?_
  simp [ReflectliteValue.elem, loadVar, isAgg, underlying, Tryz.underlying77, ha, Result.andThen, rl_elemOf70, rl_mk45]
theorem rl_set45 (ta b e : Addr) (old : Value) (W : World) (hb : W.cell? b = some (.pointer (some e))) (ht : W.cell? ta = some old) (hf : W.frozen? ta = false) :
    (ReflectliteValue.set #[valOf 71 ta 406, valOf 71 b 150]).run Tryz.prog W = .ok (.tuple #[]) (W.setCell ta (.pointer (some e))) := by
  refine (run_then (rl_parts45s ta W)).trans ?_
  refine (run_then (rl_parts45 b W)).trans ?_
  simp [ReflectliteValue.flagAddr, loadVar, isAgg, underlying, Tryz.underlying71, hb, Result.andThen, rl_direct45, storeVar, Value.cells, storeCells, Addr.add]
  rw [run_store Tryz.prog W ta _ _ (by rfl)]
  simp [ht, hf]
theorem as_none (t : Value) (w : World) : Calls Tryz.prog 32 #[.nilIface, t] w fun e w' => e = .returned (.bool false) ∧ w' = w := by
  go_enter Tryz.func32, Tryz.ntmps32
  go_wp2
  go_ret
  exact ⟨rfl, rfl⟩
def asW (w : World) (t e : Addr) : World :=
  (((w.alloc (.cells #[.pointer (some t)] 77)).alloc (.cells #[hnd 77, .pointer (some ⟨w.heap.size, 0, none⟩), .int .u64 150] 115)).alloc (.cells #[hnd 77, .pointer (some ⟨w.heap.size, 0, none⟩), .int .u64 150] 115)).alloc (.cells #[.pointer (some e)] 71)
set_option maxHeartbeats 4000000 in
theorem as_fault (e t : Addr) (old : Value) (w : World) (hg : w.cell? ⟨0, 0, none⟩ = some (.iface 148 (.agg #[hnd 34]))) (ht0 : w.cell? t = some old) (hf0 : w.frozen? t = false) :
    Calls Tryz.prog 32 #[.iface 71 (.pointer (some e)), .iface 77 (.pointer (some t))] w fun ev w' => ev = .returned (.bool true) ∧ w' = (asW w t e).setCell t (.pointer (some e)) := by
  have c37 := @run_callFunc_extern Tryz.prog 59 _ (fun args => ReflectliteValue.unpack (args.getD 0 (.tuple #[]))) Tryz.func59 (by kernel_rfl) (by kernel_rfl) (by kernel_rfl) (by kernel_rfl)
  have c38 := @run_callFunc_extern Tryz.prog 60 _ (ReflectliteValue.methodAny (ReflectliteValue.valueError "reflectlite.Value.Type" 0) (fun t _ _ _ => ReflectliteType.toType t)) Tryz.func60 (by kernel_rfl) (by kernel_rfl) (by kernel_rfl) (by kernel_rfl)
  have c39 := @run_callFunc_extern Tryz.prog 61 _ (ReflectliteValue.method (ReflectliteValue.valueError "reflectlite.Value.IsNil" 0) ReflectliteValue.isNil) Tryz.func61 (by kernel_rfl) (by kernel_rfl) (by kernel_rfl) (by kernel_rfl)
  have c63 := @run_callFunc_extern Tryz.prog 197 _ (ReflectliteType.abiMethod fun t => do pure (.int .u8 (← Rtype.kind t))) Tryz.func197 (by kernel_rfl) (by kernel_rfl) (by kernel_rfl) (by kernel_rfl)
  have c90 := @run_callFunc_extern Tryz.prog 210 _ (ReflectliteType.method ReflectliteType.elem) Tryz.func210 (by kernel_rfl) (by kernel_rfl) (by kernel_rfl) (by kernel_rfl)
  have c91 := @run_callFunc_extern Tryz.prog 211 _ (ReflectliteType.relation "Implements" ReflectliteType.implements_) Tryz.func211 (by kernel_rfl) (by kernel_rfl) (by kernel_rfl) (by kernel_rfl)
  have c41 := @run_callFunc_extern Tryz.prog 63 _ ReflectliteType.typeOf Tryz.func63 (by kernel_rfl) (by kernel_rfl) (by kernel_rfl) (by kernel_rfl)
  have c88 := @run_callFunc_extern Tryz.prog 208 _ (ReflectliteType.relation "AssignableTo" ReflectliteType.assignableTo) Tryz.func208 (by kernel_rfl) (by kernel_rfl) (by kernel_rfl) (by kernel_rfl)
  have c47 := @run_callFunc_extern Tryz.prog 87 _ (ReflectliteValue.method (ReflectliteValue.valueError "reflectlite.Value.Elem" 0) ReflectliteValue.elem) Tryz.func87 (by kernel_rfl) (by kernel_rfl) (by kernel_rfl) (by kernel_rfl)
  have c48 := @run_callFunc_extern Tryz.prog 88 _ ReflectliteValue.set Tryz.func88 (by kernel_rfl) (by kernel_rfl) (by kernel_rfl) (by kernel_rfl)
  have f1 := rl_typeOf45
  have f2 := rl_mAsgn
  have f3 := rl_asgn45
  have f4 := rl_valueOf45
  have f5 := rl_valueOf70
  have f6 := rl_type70
  have f7 := rl_mKind
  have f8 := rl_mElem
  have f9 := rl_mImpl
  have g1 := rl_kind70
  have g2 := rl_kind45
  have g3 := rl_elem70
  have g4 := rl_impl45
  have hlt : 0 < w.heap.size := by
    rcases Nat.eq_zero_or_pos w.heap.size with h0 | h
    · simp [World.cell?, h0] at hg
    · exact h
  have htl : t.block < w.heap.size := by
    rcases Nat.lt_or_ge t.block w.heap.size with h | h
    · exact h
    · simp [World.cell?, Array.getElem?_eq_none h] at ht0
  have n1 := rl_isNil70 ⟨w.heap.size, 0, none⟩ t ((w.alloc (.cells #[.pointer (some t)] 77)).alloc (.cells #[hnd 77, .pointer (some ⟨w.heap.size, 0, none⟩), .int .u64 150] 115)) (by simp)
  have hg2 : ((w.alloc (.cells #[.pointer (some t)] 77)).alloc (.cells #[hnd 77, .pointer (some ⟨w.heap.size, 0, none⟩), .int .u64 150] 115)).cell? ⟨0, 0, none⟩ = some (.iface 148 (.agg #[hnd 34])) := by
    rw [World.cell?_alloc_lt _ _ ⟨0, 0, none⟩ (by simp), World.cell?_alloc_lt _ _ ⟨0, 0, none⟩ hlt]; exact hg
  have n2 := rl_elemV70 ⟨w.heap.size, 0, none⟩ t (((w.alloc (.cells #[.pointer (some t)] 77)).alloc (.cells #[hnd 77, .pointer (some ⟨w.heap.size, 0, none⟩), .int .u64 150] 115)).alloc (.cells #[hnd 77, .pointer (some ⟨w.heap.size, 0, none⟩), .int .u64 150] 115)) (by rw [World.cell?_alloc_lt _ _ ⟨w.heap.size, 0, none⟩ (by simp; omega)]; simp)
  have n3 := rl_set45 t ⟨w.heap.size + 1 + 1 + 1, 0, none⟩ e old (asW w t e)
    (by unfold asW; rw [World.cell?_alloc_at _ _ _ _ (by simp)]; rfl)
    (by unfold asW; rw [World.cell?_alloc_lt _ _ t (by simp; omega), World.cell?_alloc_lt _ _ t (by simp; omega), World.cell?_alloc_lt _ _ t (by simp; omega), World.cell?_alloc_lt _ _ t htl]; exact ht0)
    (by unfold asW; rw [World.frozen?_alloc_old _ _ t (by simp; omega), World.frozen?_alloc_old _ _ t (by simp; omega), World.frozen?_alloc_old _ _ t (by simp; omega), World.frozen?_alloc_old _ _ t (Nat.ne_of_lt htl)]; exact hf0)
  unfold asW at n3
  unfold hnd valOf at *
  go_enter Tryz.func32, Tryz.ntmps32
  go_wp2
  refine wp_loop_rounds 1 ?_
  rw [rounds_succ]
  go_wp2
  go_ret
  exact ⟨rfl, rfl⟩
theorem rl_typeOf30 (v : Value) (w : World) : (ReflectliteType.typeOf #[.iface 28 v]).run Tryz.prog w = .ok (.iface 148 (.agg #[hnd 28])) w := by kernel_rfl
theorem rl_mComp (h : Value) (w : World) : (Go.method 359 148 (.agg #[h]) "Comparable").run Tryz.prog w = .ok (209, .agg #[h]) w := by kernel_rfl
theorem rl_mIs (v : Value) (w : World) : (Go.method 359 71 v "Is").run Tryz.prog w = .ok (202, v) w := by kernel_rfl
theorem ta_is (v : Value) (w : World) : (Instr.typeAssert (.iface 71 v) 34 160 true).run Tryz.prog w = .ok (.tuple #[.iface 71 v, .bool true]) w := run_typeAssert_hasB Tryz.underlying160 (by kernel_rfl) v 34 w
theorem ne_types (v x : Value) (w : World) : (binOp .eql 34 (.iface 71 v) (.iface 28 x)).run Tryz.prog w = .ok (.bool false) w := run_eql_iface_types 71 28 v x Tryz.underlying34 (by decide) w
theorem info30 : (Tryz.prog.info? 28).map (fun i => i.comparable) = some true := by kernel_rfl
theorem eq_code (c : Int) (w : World) : (binOp .eql 34 (.iface 28 (.int .i64 c)) (.iface 28 (.int .i64 c))).run Tryz.prog w = .ok (.bool true) w := by
  obtain ⟨i, hi, hc⟩ : ∃ i, Tryz.prog.info? 28 = some i ∧ i.comparable = true := by simpa using info30
  have h : ∀ d, (Op.equalIn (d + 1 + 1) 34 (.iface 28 (.int .i64 c)) (.iface 28 (.int .i64 c))).run Tryz.prog w = .ok true w := fun d => by
    simp [Op.equalIn, run_underlying Tryz.underlying34, run_underlying Tryz.underlying28, typeInfo, hi, hc]
  simp only [binOp]
  simp [Op.equal, Op.maxDepth, h 9998]
theorem faultIs_hit (e : Addr) (c : Int) (w : World) (hc : w.cell? e = some (.int .i64 c)) : Calls Tryz.prog 202 #[.pointer (some e), .iface 28 (.int .i64 c)] w fun ev w' => ev = .returned (.bool true) ∧ w' = w := by
  have q := eq_code c
  go_enter Tryz.func202, Tryz.ntmps202
  go_wp2
  go_ret
  exact ⟨rfl, rfl⟩
theorem rl_comp30 (w : World) : (ReflectliteType.method (fun t => do Rtype.noPackHeld "Comparable" t; (fun a => Value.bool a.comparable) <$> typeInfo t) #[.agg #[hnd 28]]).run Tryz.prog w = .ok (.bool true) w := by kernel_rfl
set_option maxRecDepth 20000 in
set_option maxHeartbeats 4000000 in
theorem is_fault (e : Addr) (c : Int) (w : World) (hc : w.cell? e = some (.int .i64 c)) : Calls Tryz.prog 33 #[.iface 71 (.pointer (some e)), .iface 28 (.int .i64 c)] w fun ev w' => ev = .returned (.bool true) ∧ w' = w := by
  have c41 := @run_callFunc_extern Tryz.prog 63 _ ReflectliteType.typeOf Tryz.func63 (by kernel_rfl) (by kernel_rfl) (by kernel_rfl) (by kernel_rfl)
  have c89 := @run_callFunc_extern Tryz.prog 209 _ (ReflectliteType.method (fun t => do Rtype.noPackHeld "Comparable" t; pure (.bool (← typeInfo t).comparable))) Tryz.func209 (by kernel_rfl) (by kernel_rfl) (by kernel_rfl) (by kernel_rfl)
  have f1 := rl_typeOf30
  have f2 := rl_mComp
  have f3 := rl_comp30
  have f4 := rl_mIs
  have f5 := ta_is
  have f6 := ne_types
  have f7 := eq_code c w
  unfold hnd at *
  go_enter Tryz.func33, Tryz.ntmps33
  go_wp2
  refine wp_loop_rounds 1 ?_
  rw [rounds_succ]
  go_wp2
  go_ret
  exact ⟨rfl, rfl⟩
end Go.Proofs.YtcbjnifoojjipaaGreatDoor
