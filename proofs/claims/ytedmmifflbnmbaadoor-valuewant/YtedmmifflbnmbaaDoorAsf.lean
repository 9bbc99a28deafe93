/- What errors.As does at a *api.Fault and a target of its own type (contracts; nothing is claimed here). The way is that of the kit's worked text on errors.As. -/
import Derived.Test.YtedmmifflbnmbaaDoorVMem
import Derived.WalkKit
import Derived.LaidEql
import Derived.Stop.Asserts
import Derived.RowKitTokens
namespace Go.Proofs.YtedmmifflbnmbaaDoor
open Go.RowKit Go.Extern.Stop Go.Stop Go.Extern Go.Vf

/-- The handle of a type, a Value of it, a Value that may be set. -/
abbrev hnd (t : Nat) : Value := .pointer (some ⟨1, t, none⟩)
abbrev valOf (t : Nat) (a : Addr) (f : Int) : Value := .agg #[hnd t, .pointer (some a), .int .u64 f]

theorem rl_valueOf70 (t : Addr) (w : World) : (ReflectliteValue.unpack (.iface 70 (.pointer (some t)))).run Tryd.prog w = .ok (valOf 70 ⟨w.heap.size, 0, none⟩ 150) (w.alloc (.cells #[.pointer (some t)] 70)) := by kernel_rfl
theorem rl_valueOf45 (e : Addr) (w : World) : (ReflectliteValue.unpack (.iface 45 (.pointer (some e)))).run Tryd.prog w = .ok (valOf 45 ⟨w.heap.size, 0, none⟩ 150) (w.alloc (.cells #[.pointer (some e)] 45)) := by kernel_rfl
theorem rl_type70 (a : Addr) (w : World) : (ReflectliteValue.methodAny (ReflectliteValue.valueError "reflectlite.Value.Type" 0) (fun t _ _ _ => ReflectliteType.toType t) #[valOf 70 a 150]).run Tryd.prog w = .ok (.iface 112 (.agg #[hnd 70])) w := by kernel_rfl
theorem rl_kind70 (w : World) : ((ReflectliteType.abiMethod fun t => (fun a : Nat => Value.int IntKind.u8 (a : Int)) <$> Rtype.kind t) #[hnd 70]).run Tryd.prog w = .ok (.int .u8 22) w := by kernel_rfl
theorem rl_kind45 (w : World) : ((ReflectliteType.abiMethod fun t => (fun a : Nat => Value.int IntKind.u8 (a : Int)) <$> Rtype.kind t) #[hnd 45]).run Tryd.prog w = .ok (.int .u8 22) w := by kernel_rfl
theorem rl_mKind (h : Value) (w : World) : (Go.method 255 112 (.agg #[h]) "Kind").run Tryd.prog w = .ok (63, h) w := by kernel_rfl
theorem rl_mElem (h : Value) (w : World) : (Go.method 255 112 (.agg #[h]) "Elem").run Tryd.prog w = .ok (90, .agg #[h]) w := by kernel_rfl
theorem rl_mImpl (h : Value) (w : World) : (Go.method 255 112 (.agg #[h]) "Implements").run Tryd.prog w = .ok (91, .agg #[h]) w := by kernel_rfl
theorem rl_mAsgn (h : Value) (w : World) : (Go.method 255 112 (.agg #[h]) "AssignableTo").run Tryd.prog w = .ok (88, .agg #[h]) w := by kernel_rfl
theorem rl_elem70 (w : World) : (ReflectliteType.method ReflectliteType.elem #[.agg #[hnd 70]]).run Tryd.prog w = .ok (.iface 112 (.agg #[hnd 45])) w := by kernel_rfl
theorem rl_impl45 (w : World) : (ReflectliteType.relation "Implements" ReflectliteType.implements_ #[.agg #[hnd 45], .iface 112 (.agg #[hnd 37])]).run Tryd.prog w = .ok (.bool true) w := by kernel_rfl
theorem rl_typeOf45 (v : Value) (w : World) : (ReflectliteType.typeOf #[.iface 45 v]).run Tryd.prog w = .ok (.iface 112 (.agg #[hnd 45])) w := by kernel_rfl
theorem rl_asgn45 (w : World) : (ReflectliteType.relation "AssignableTo" ReflectliteType.assignableTo #[.agg #[hnd 45], .iface 112 (.agg #[hnd 45])]).run Tryd.prog w = .ok (.bool true) w := by kernel_rfl
theorem rl_parts70 (a : Addr) (w : World) : (ReflectliteValue.parts (valOf 70 a 150)).run Tryd.prog w = .ok (some (70, a, 150)) w := by kernel_rfl
theorem rl_parts45 (a : Addr) (w : World) : (ReflectliteValue.parts (valOf 45 a 150)).run Tryd.prog w = .ok (some (45, a, 150)) w := by kernel_rfl
theorem rl_parts45s (a : Addr) (w : World) : (ReflectliteValue.parts (valOf 45 a 406)).run Tryd.prog w = .ok (some (45, a, 406)) w := by kernel_rfl
theorem rl_elemOf70 (w : World) : (Rtype.elem? 70).run Tryd.prog w = .ok (some 45) w := by kernel_rfl
theorem rl_mk45 (p : Addr) (w : World) : (ReflectliteValue.mk 45 p ReflectliteValue.flagAddr).run Tryd.prog w = .ok (valOf 45 p 406) w := by kernel_rfl
theorem rl_direct45 (w : World) : (Rtype.directlyAssignable 45 45).run Tryd.prog w = .ok true w := by kernel_rfl

theorem run_then {α β : Type} {m : Sem α} {g : α → Sem β} {P : Program} {w w₁ : World} {a : α} (h : m.run P w = .ok a w₁) : (m >>= g).run P w = (g a).run P w₁ := by
  rw [Sem.run_bind, h]; rfl

theorem rl_isNil70 (a p : Addr) (W : World) (ha : W.cell? a = some (.pointer (some p))) :
    (ReflectliteValue.method (ReflectliteValue.valueError "reflectlite.Value.IsNil" 0) ReflectliteValue.isNil #[valOf 70 a 150]).run Tryd.prog W = .ok (.bool false) W := by
  refine (run_then (rl_parts70 a W)).trans ?_
  simp [ReflectliteValue.isNil, loadVar, isAgg, underlying, Tryd.underlying70, ha, Result.andThen]

theorem rl_elemV70 (a p : Addr) (W : World) (ha : W.cell? a = some (.pointer (some p))) :
    (ReflectliteValue.method (ReflectliteValue.valueError "reflectlite.Value.Elem" 0) ReflectliteValue.elem #[valOf 70 a 150]).run Tryd.prog W = .ok (valOf 45 p 406) W := by
  refine (run_then (rl_parts70 a W)).trans ?_
  simp [ReflectliteValue.elem, loadVar, isAgg, underlying, Tryd.underlying70, ha, Result.andThen, rl_elemOf70, rl_mk45]

theorem rl_set45 (ta b e : Addr) (old : Value) (W : World) (hb : W.cell? b = some (.pointer (some e))) (ht : W.cell? ta = some old) (hf : W.frozen? ta = false) :
    (ReflectliteValue.set #[valOf 45 ta 406, valOf 45 b 150]).run Tryd.prog W = .ok (.tuple #[]) (W.setCell ta (.pointer (some e))) := by
  refine (run_then (rl_parts45s ta W)).trans ?_
  refine (run_then (rl_parts45 b W)).trans ?_
  simp [ReflectliteValue.flagAddr, loadVar, isAgg, underlying, Tryd.underlying45, hb, Result.andThen, rl_direct45, storeVar, Value.cells, storeCells, Addr.add]
  rw [run_store Tryd.prog W ta _ _ (by rfl)]
  simp [ht, hf]

/-- errors.As of no error. -/
theorem as_none (t : Value) (w : World) : Calls Tryd.prog 22 #[.nilIface, t] w fun e w' => e = .returned (.bool false) ∧ w' = w := by
  go_enter Tryd.func22, Tryd.ntmps22
  go_wp2
  go_ret
  exact ⟨rfl, rfl⟩

/-- The world that errors.As leaves behind, but for the target. -/
def asW (w : World) (t e : Addr) : World :=
  (((w.alloc (.cells #[.pointer (some t)] 70)).alloc (.cells #[hnd 70, .pointer (some ⟨w.heap.size, 0, none⟩), .int .u64 150] 95)).alloc (.cells #[hnd 70, .pointer (some ⟨w.heap.size, 0, none⟩), .int .u64 150] 95)).alloc (.cells #[.pointer (some e)] 45)
set_option maxHeartbeats 4000000 in
/-- errors.As of a Fault: the target holds it. -/
theorem as_fault (e t : Addr) (old : Value) (w : World) (hg : w.cell? ⟨0, 0, none⟩ = some (.iface 112 (.agg #[hnd 37]))) (ht0 : w.cell? t = some old) (hf0 : w.frozen? t = false) :
    Calls Tryd.prog 22 #[.iface 45 (.pointer (some e)), .iface 70 (.pointer (some t))] w fun ev w' => ev = .returned (.bool true) ∧ w' = (asW w t e).setCell t (.pointer (some e)) := by
  have c37 := @run_callFunc_extern Tryd.prog 37 _ (fun args => ReflectliteValue.unpack (args.getD 0 (.tuple #[]))) Tryd.func37 (by kernel_rfl) (by kernel_rfl) (by kernel_rfl) (by kernel_rfl)
  have c38 := @run_callFunc_extern Tryd.prog 38 _ (ReflectliteValue.methodAny (ReflectliteValue.valueError "reflectlite.Value.Type" 0) (fun t _ _ _ => ReflectliteType.toType t)) Tryd.func38 (by kernel_rfl) (by kernel_rfl) (by kernel_rfl) (by kernel_rfl)
  have c39 := @run_callFunc_extern Tryd.prog 39 _ (ReflectliteValue.method (ReflectliteValue.valueError "reflectlite.Value.IsNil" 0) ReflectliteValue.isNil) Tryd.func39 (by kernel_rfl) (by kernel_rfl) (by kernel_rfl) (by kernel_rfl)
  have c63 := @run_callFunc_extern Tryd.prog 63 _ (ReflectliteType.abiMethod fun t => do pure (.int .u8 (← Rtype.kind t))) Tryd.func63 (by kernel_rfl) (by kernel_rfl) (by kernel_rfl) (by kernel_rfl)
  have c90 := @run_callFunc_extern Tryd.prog 90 _ (ReflectliteType.method ReflectliteType.elem) Tryd.func90 (by kernel_rfl) (by kernel_rfl) (by kernel_rfl) (by kernel_rfl)
  have c91 := @run_callFunc_extern Tryd.prog 91 _ (ReflectliteType.relation "Implements" ReflectliteType.implements_) Tryd.func91 (by kernel_rfl) (by kernel_rfl) (by kernel_rfl) (by kernel_rfl)
  have c41 := @run_callFunc_extern Tryd.prog 41 _ ReflectliteType.typeOf Tryd.func41 (by kernel_rfl) (by kernel_rfl) (by kernel_rfl) (by kernel_rfl)
  have c88 := @run_callFunc_extern Tryd.prog 88 _ (ReflectliteType.relation "AssignableTo" ReflectliteType.assignableTo) Tryd.func88 (by kernel_rfl) (by kernel_rfl) (by kernel_rfl) (by kernel_rfl)
  have c47 := @run_callFunc_extern Tryd.prog 47 _ (ReflectliteValue.method (ReflectliteValue.valueError "reflectlite.Value.Elem" 0) ReflectliteValue.elem) Tryd.func47 (by kernel_rfl) (by kernel_rfl) (by kernel_rfl) (by kernel_rfl)
  have c48 := @run_callFunc_extern Tryd.prog 48 _ ReflectliteValue.set Tryd.func48 (by kernel_rfl) (by kernel_rfl) (by kernel_rfl) (by kernel_rfl)
  have f1 := rl_typeOf45
  have f2 := rl_mAsgn
  have f3 := rl_asgn45
  have f4 := rl_valueOf45
  have f5 := rl_valueOf70
  have f6 := rl_type70
  have f7 := rl_mKind
  have f8 := rl_mElem
  have f9 := rl_mImpl
  have g1 := rl_kind70
  have g2 := rl_kind45
  have g3 := rl_elem70
  have g4 := rl_impl45
  have hlt : 0 < w.heap.size := by
    rcases Nat.eq_zero_or_pos w.heap.size with h0 | h
    · simp [World.cell?, h0] at hg
    · exact h
  have htl : t.block < w.heap.size := by
    rcases Nat.lt_or_ge t.block w.heap.size with h | h
    · exact h
    · simp [World.cell?, Array.getElem?_eq_none h] at ht0
  have n1 := rl_isNil70 ⟨w.heap.size, 0, none⟩ t ((w.alloc (.cells #[.pointer (some t)] 70)).alloc (.cells #[hnd 70, .pointer (some ⟨w.heap.size, 0, none⟩), .int .u64 150] 95)) (by simp)
  have hg2 : ((w.alloc (.cells #[.pointer (some t)] 70)).alloc (.cells #[hnd 70, .pointer (some ⟨w.heap.size, 0, none⟩), .int .u64 150] 95)).cell? ⟨0, 0, none⟩ = some (.iface 112 (.agg #[hnd 37])) := by
    rw [World.cell?_alloc_lt _ _ ⟨0, 0, none⟩ (by simp), World.cell?_alloc_lt _ _ ⟨0, 0, none⟩ hlt]; exact hg
  have n2 := rl_elemV70 ⟨w.heap.size, 0, none⟩ t (((w.alloc (.cells #[.pointer (some t)] 70)).alloc (.cells #[hnd 70, .pointer (some ⟨w.heap.size, 0, none⟩), .int .u64 150] 95)).alloc (.cells #[hnd 70, .pointer (some ⟨w.heap.size, 0, none⟩), .int .u64 150] 95)) (by rw [World.cell?_alloc_lt _ _ ⟨w.heap.size, 0, none⟩ (by simp; omega)]; simp)
  have n3 := rl_set45 t ⟨w.heap.size + 1 + 1 + 1, 0, none⟩ e old (asW w t e)
    (by unfold asW; rw [World.cell?_alloc_at _ _ _ _ (by simp)]; rfl)
    (by unfold asW; rw [World.cell?_alloc_lt _ _ t (by simp; omega), World.cell?_alloc_lt _ _ t (by simp; omega), World.cell?_alloc_lt _ _ t (by simp; omega), World.cell?_alloc_lt _ _ t htl]; exact ht0)
    (by unfold asW; rw [World.frozen?_alloc_old _ _ t (by simp; omega), World.frozen?_alloc_old _ _ t (by simp; omega), World.frozen?_alloc_old _ _ t (by simp; omega), World.frozen?_alloc_old _ _ t (Nat.ne_of_lt htl)]; exact hf0)
  unfold asW at n3
  unfold hnd valOf at *
  go_enter Tryd.func22, Tryd.ntmps22
  go_wp2
  refine wp_loop_rounds 1 ?_
  rw [rounds_succ]
  go_wp2
  go_ret
  exact ⟨rfl, rfl⟩
end Go.Proofs.YtedmmifflbnmbaaDoor
