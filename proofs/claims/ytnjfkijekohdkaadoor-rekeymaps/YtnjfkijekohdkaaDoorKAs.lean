/- What errors.As does at an Errno, and at an error of errors.New's, with a target of type *Errno (contracts; nothing is claimed here). The way is that of the kit's worked text on errors.As. -/
import Derived.Test.YtnjfkijekohdkaaDoorVMem
import Derived.WalkKit
import Derived.LaidEql
import Derived.Stop.Asserts
import Derived.RowKitTokens
namespace Go.Proofs.YtnjfkijekohdkaaDoor
open Go.RowKit Go.Extern.Stop Go.Stop Go.Extern Go.Vf

abbrev hnd (t : Nat) : Value := .pointer (some ⟨2, t, none⟩)
abbrev valOf (t : Nat) (a : Addr) (f : Int) : Value := .agg #[hnd t, .pointer (some a), .int .u64 f]

theorem rl_valueOfP (t : Addr) (w : World) : (ReflectliteValue.unpack (.iface 119 (.pointer (some t)))).run Tryd.prog w = .ok (valOf 119 ⟨w.heap.size, 0, none⟩ 150) (w.alloc (.cells #[.pointer (some t)] 119)) := by kernel_rfl
theorem rl_valueOfE (k : Int) (w : World) : (ReflectliteValue.unpack (.iface 33 (.int .i64 k))).run Tryd.prog w = .ok (valOf 33 ⟨w.heap.size, 0, none⟩ 130) (w.alloc (.cells #[.int .i64 k] 33)) := by kernel_rfl
theorem rl_typeP (a : Addr) (w : World) : (ReflectliteValue.methodAny (ReflectliteValue.valueError "reflectlite.Value.Type" 0) (fun t _ _ _ => ReflectliteType.toType t) #[valOf 119 a 150]).run Tryd.prog w = .ok (.iface 122 (.agg #[hnd 119])) w := by kernel_rfl
theorem rl_kindP (w : World) : ((ReflectliteType.abiMethod fun t => (fun a : Nat => Value.int IntKind.u8 (a : Int)) <$> Rtype.kind t) #[hnd 119]).run Tryd.prog w = .ok (.int .u8 22) w := by kernel_rfl
theorem rl_kindE (w : World) : ((ReflectliteType.abiMethod fun t => (fun a : Nat => Value.int IntKind.u8 (a : Int)) <$> Rtype.kind t) #[hnd 33]).run Tryd.prog w = .ok (.int .u8 2) w := by kernel_rfl
theorem rl_mKind (h : Value) (w : World) : (Go.method 271 122 (.agg #[h]) "Kind").run Tryd.prog w = .ok (76, h) w := by kernel_rfl
theorem rl_mElem (h : Value) (w : World) : (Go.method 271 122 (.agg #[h]) "Elem").run Tryd.prog w = .ok (102, .agg #[h]) w := by kernel_rfl
theorem rl_mImpl (h : Value) (w : World) : (Go.method 271 122 (.agg #[h]) "Implements").run Tryd.prog w = .ok (103, .agg #[h]) w := by kernel_rfl
theorem rl_mAsgn (h : Value) (w : World) : (Go.method 271 122 (.agg #[h]) "AssignableTo").run Tryd.prog w = .ok (100, .agg #[h]) w := by kernel_rfl
theorem rl_elemP (w : World) : (ReflectliteType.method ReflectliteType.elem #[.agg #[hnd 119]]).run Tryd.prog w = .ok (.iface 122 (.agg #[hnd 33])) w := by kernel_rfl
theorem rl_implE (w : World) : (ReflectliteType.relation "Implements" ReflectliteType.implements_ #[.agg #[hnd 33], .iface 122 (.agg #[hnd 44])]).run Tryd.prog w = .ok (.bool true) w := by kernel_rfl
theorem rl_typeOfE (v : Value) (w : World) : (ReflectliteType.typeOf #[.iface 33 v]).run Tryd.prog w = .ok (.iface 122 (.agg #[hnd 33])) w := by kernel_rfl
theorem rl_typeOfS (v : Value) (w : World) : (ReflectliteType.typeOf #[.iface 137 v]).run Tryd.prog w = .ok (.iface 122 (.agg #[hnd 137])) w := by kernel_rfl
theorem rl_asgnE (w : World) : (ReflectliteType.relation "AssignableTo" ReflectliteType.assignableTo #[.agg #[hnd 33], .iface 122 (.agg #[hnd 33])]).run Tryd.prog w = .ok (.bool true) w := by kernel_rfl
theorem rl_asgnS (w : World) : (ReflectliteType.relation "AssignableTo" ReflectliteType.assignableTo #[.agg #[hnd 137], .iface 122 (.agg #[hnd 33])]).run Tryd.prog w = .ok (.bool false) w := by kernel_rfl
theorem rl_partsP (a : Addr) (w : World) : (ReflectliteValue.parts (valOf 119 a 150)).run Tryd.prog w = .ok (some (119, a, 150)) w := by kernel_rfl
theorem rl_partsE (a : Addr) (w : World) : (ReflectliteValue.parts (valOf 33 a 130)).run Tryd.prog w = .ok (some (33, a, 130)) w := by kernel_rfl
theorem rl_partsEs (a : Addr) (w : World) : (ReflectliteValue.parts (valOf 33 a 386)).run Tryd.prog w = .ok (some (33, a, 386)) w := by kernel_rfl
theorem rl_elemOfP (w : World) : (Rtype.elem? 119).run Tryd.prog w = .ok (some 33) w := by kernel_rfl
theorem rl_mkE (p : Addr) (w : World) : (ReflectliteValue.mk 33 p ReflectliteValue.flagAddr).run Tryd.prog w = .ok (valOf 33 p 386) w := by kernel_rfl
theorem rl_directE (w : World) : (Rtype.directlyAssignable 33 33).run Tryd.prog w = .ok true w := by kernel_rfl
theorem rl_assertA (e : Addr) (w : World) : (Instr.typeAssert (.iface 137 (.pointer (some e))) 44 126 true).run Tryd.prog w = .ok (.tuple #[.nilIface, .bool false]) w := run_typeAssert_lacksB Tryd.underlying126 (by kernel_rfl) (by kernel_rfl) _ 44 w
theorem rl_assertU (e : Addr) (w : World) : (Instr.typeAssert (.iface 137 (.pointer (some e))) 44 129 true).run Tryd.prog w = .ok (.tuple #[.nilIface, .bool false]) w := run_typeAssert_lacksB Tryd.underlying129 (by kernel_rfl) (by kernel_rfl) _ 44 w
theorem rl_assertL (e : Addr) (w : World) : (Instr.typeAssert (.iface 137 (.pointer (some e))) 44 131 true).run Tryd.prog w = .ok (.tuple #[.nilIface, .bool false]) w := run_typeAssert_lacksB Tryd.underlying131 (by kernel_rfl) (by kernel_rfl) _ 44 w

theorem run_then {α β : Type} {m : Sem α} {g : α → Sem β} {P : Program} {w w₁ : World} {a : α} (h : m.run P w = .ok a w₁) : (m >>= g).run P w = (g a).run P w₁ := by
  rw [Sem.run_bind, h]; rfl
theorem rl_isNilP (a p : Addr) (W : World) (ha : W.cell? a = some (.pointer (some p))) :
    (ReflectliteValue.method (ReflectliteValue.valueError "reflectlite.Value.IsNil" 0) ReflectliteValue.isNil #[valOf 119 a 150]).run Tryd.prog W = .ok (.bool false) W := by
  refine (run_then (rl_partsP a W)).trans ?_
  simp [ReflectliteValue.isNil, loadVar, isAgg, underlying, Tryd.underlying119, ha, Result.andThen]
theorem rl_elemVP (a p : Addr) (W : World) (ha : W.cell? a = some (.pointer (some p))) :
    (ReflectliteValue.method (ReflectliteValue.valueError "reflectlite.Value.Elem" 0) ReflectliteValue.elem #[valOf 119 a 150]).run Tryd.prog W = .ok (valOf 33 p 386) W := by
  refine (run_then (rl_partsP a W)).trans ?_
  simp [ReflectliteValue.elem, loadVar, isAgg, underlying, Tryd.underlying119, ha, Result.andThen, rl_elemOfP, rl_mkE]
theorem rl_setE (ta b : Addr) (k : Int) (old : Value) (W : World) (hb : W.cell? b = some (.int .i64 k)) (ht : W.cell? ta = some old) (hf : W.frozen? ta = false) :
    (ReflectliteValue.set #[valOf 33 ta 386, valOf 33 b 130]).run Tryd.prog W = .ok (.tuple #[]) (W.setCell ta (.int .i64 k)) := by
  refine (run_then (rl_partsEs ta W)).trans ?_
  refine (run_then (rl_partsE b W)).trans ?_
  simp [ReflectliteValue.flagAddr, loadVar, isAgg, underlying, Tryd.underlying33, hb, Result.andThen, rl_directE, storeVar, Value.cells, storeCells, Addr.add]
  rw [run_store Tryd.prog W ta _ _ (by rfl)]
  simp [ht, hf]
/-- The world that errors.As leaves behind, but for the target. -/
def asW (w : World) (t : Addr) (k : Int) : World :=
  (((w.alloc (.cells #[.pointer (some t)] 119)).alloc (.cells #[hnd 119, .pointer (some ⟨w.heap.size, 0, none⟩), .int .u64 150] 95)).alloc (.cells #[hnd 119, .pointer (some ⟨w.heap.size, 0, none⟩), .int .u64 150] 95)).alloc (.cells #[.int .i64 k] 33)
set_option maxHeartbeats 4000000 in
/-- errors.As of an Errno: the target holds it. -/
theorem as_errno (k : Int) (t : Addr) (old : Value) (w : World) (hg : w.cell? ⟨0, 0, none⟩ = some (.iface 122 (.agg #[hnd 44]))) (ht0 : w.cell? t = some old) (hf0 : w.frozen? t = false) :
    Calls Tryd.prog 32 #[.iface 33 (.int .i64 k), .iface 119 (.pointer (some t))] w fun ev w' => ev = .returned (.bool true) ∧ w' = (asW w t k).setCell t (.int .i64 k) := by
  have c37 := @run_callFunc_extern Tryd.prog 46 _ (fun args => ReflectliteValue.unpack (args.getD 0 (.tuple #[]))) Tryd.func46 (by kernel_rfl) (by kernel_rfl) (by kernel_rfl) (by kernel_rfl)
  have c38 := @run_callFunc_extern Tryd.prog 47 _ (ReflectliteValue.methodAny (ReflectliteValue.valueError "reflectlite.Value.Type" 0) (fun t _ _ _ => ReflectliteType.toType t)) Tryd.func47 (by kernel_rfl) (by kernel_rfl) (by kernel_rfl) (by kernel_rfl)
  have c39 := @run_callFunc_extern Tryd.prog 48 _ (ReflectliteValue.method (ReflectliteValue.valueError "reflectlite.Value.IsNil" 0) ReflectliteValue.isNil) Tryd.func48 (by kernel_rfl) (by kernel_rfl) (by kernel_rfl) (by kernel_rfl)
  have c63 := @run_callFunc_extern Tryd.prog 76 _ (ReflectliteType.abiMethod fun t => do pure (.int .u8 (← Rtype.kind t))) Tryd.func76 (by kernel_rfl) (by kernel_rfl) (by kernel_rfl) (by kernel_rfl)
  have c90 := @run_callFunc_extern Tryd.prog 102 _ (ReflectliteType.method ReflectliteType.elem) Tryd.func102 (by kernel_rfl) (by kernel_rfl) (by kernel_rfl) (by kernel_rfl)
  have c91 := @run_callFunc_extern Tryd.prog 103 _ (ReflectliteType.relation "Implements" ReflectliteType.implements_) Tryd.func103 (by kernel_rfl) (by kernel_rfl) (by kernel_rfl) (by kernel_rfl)
  have c41 := @run_callFunc_extern Tryd.prog 50 _ ReflectliteType.typeOf Tryd.func50 (by kernel_rfl) (by kernel_rfl) (by kernel_rfl) (by kernel_rfl)
  have c88 := @run_callFunc_extern Tryd.prog 100 _ (ReflectliteType.relation "AssignableTo" ReflectliteType.assignableTo) Tryd.func100 (by kernel_rfl) (by kernel_rfl) (by kernel_rfl) (by kernel_rfl)
  have c47 := @run_callFunc_extern Tryd.prog 59 _ (ReflectliteValue.method (ReflectliteValue.valueError "reflectlite.Value.Elem" 0) ReflectliteValue.elem) Tryd.func59 (by kernel_rfl) (by kernel_rfl) (by kernel_rfl) (by kernel_rfl)
  have c48 := @run_callFunc_extern Tryd.prog 60 _ ReflectliteValue.set Tryd.func60 (by kernel_rfl) (by kernel_rfl) (by kernel_rfl) (by kernel_rfl)
  have f2 := rl_mAsgn
  have f5 := rl_valueOfP
  have f6 := rl_typeP
  have f7 := rl_mKind
  have f8 := rl_mElem
  have f9 := rl_mImpl
  have g1 := rl_kindP
  have g2 := rl_kindE
  have g3 := rl_elemP
  have g4 := rl_implE
  have f1 := rl_typeOfE
  have f3 := rl_asgnE
  have f4 := rl_valueOfE
  have hlt : 0 < w.heap.size := World.block_lt_of_cell? w _ hg
  have htl : t.block < w.heap.size := World.block_lt_of_cell? w _ ht0
  have n1 := rl_isNilP ⟨w.heap.size, 0, none⟩ t ((w.alloc (.cells #[.pointer (some t)] 119)).alloc (.cells #[hnd 119, .pointer (some ⟨w.heap.size, 0, none⟩), .int .u64 150] 95)) (by simp)
  have hg2 : ((w.alloc (.cells #[.pointer (some t)] 119)).alloc (.cells #[hnd 119, .pointer (some ⟨w.heap.size, 0, none⟩), .int .u64 150] 95)).cell? ⟨0, 0, none⟩ = some (.iface 122 (.agg #[hnd 44])) := by
    rw [World.cell?_alloc_lt _ _ ⟨0, 0, none⟩ (by simp), World.cell?_alloc_lt _ _ ⟨0, 0, none⟩ hlt]; exact hg
  have n2 := rl_elemVP ⟨w.heap.size, 0, none⟩ t (((w.alloc (.cells #[.pointer (some t)] 119)).alloc (.cells #[hnd 119, .pointer (some ⟨w.heap.size, 0, none⟩), .int .u64 150] 95)).alloc (.cells #[hnd 119, .pointer (some ⟨w.heap.size, 0, none⟩), .int .u64 150] 95)) (by rw [World.cell?_alloc_lt _ _ ⟨w.heap.size, 0, none⟩ (by simp; omega)]; simp)
  have n3 := rl_setE t ⟨w.heap.size + 1 + 1 + 1, 0, none⟩ k old (asW w t k)
    (by unfold asW; rw [World.cell?_alloc_at _ _ _ _ (by simp)]; rfl)
    (by unfold asW; rw [World.cell?_alloc_lt _ _ t (by simp; omega), World.cell?_alloc_lt _ _ t (by simp; omega), World.cell?_alloc_lt _ _ t (by simp; omega), World.cell?_alloc_lt _ _ t htl]; exact ht0)
    (by unfold asW; rw [World.frozen?_alloc_old _ _ t (by simp; omega), World.frozen?_alloc_old _ _ t (by simp; omega), World.frozen?_alloc_old _ _ t (by simp; omega), World.frozen?_alloc_old _ _ t (Nat.ne_of_lt htl)]; exact hf0)
  unfold asW at n3
  unfold hnd valOf at *
  go_enter Tryd.func32, Tryd.ntmps32
  go_wp2
  refine wp_loop_rounds 1 ?_
  rw [rounds_succ]
  go_wp2
  go_ret
  exact ⟨rfl, rfl⟩
set_option maxHeartbeats 4000000 in
/-- errors.As of an error of errors.New's: no. -/
theorem as_new (e t : Addr) (old : Value) (w : World) (hg : w.cell? ⟨0, 0, none⟩ = some (.iface 122 (.agg #[hnd 44]))) (ht0 : w.cell? t = some old) :
    Calls Tryd.prog 32 #[.iface 137 (.pointer (some e)), .iface 119 (.pointer (some t))] w fun ev w' => ev = .returned (.bool false) ∧ Below w.heap.size w w' := by
  have c37 := @run_callFunc_extern Tryd.prog 46 _ (fun args => ReflectliteValue.unpack (args.getD 0 (.tuple #[]))) Tryd.func46 (by kernel_rfl) (by kernel_rfl) (by kernel_rfl) (by kernel_rfl)
  have c38 := @run_callFunc_extern Tryd.prog 47 _ (ReflectliteValue.methodAny (ReflectliteValue.valueError "reflectlite.Value.Type" 0) (fun t _ _ _ => ReflectliteType.toType t)) Tryd.func47 (by kernel_rfl) (by kernel_rfl) (by kernel_rfl) (by kernel_rfl)
  have c39 := @run_callFunc_extern Tryd.prog 48 _ (ReflectliteValue.method (ReflectliteValue.valueError "reflectlite.Value.IsNil" 0) ReflectliteValue.isNil) Tryd.func48 (by kernel_rfl) (by kernel_rfl) (by kernel_rfl) (by kernel_rfl)
  have c63 := @run_callFunc_extern Tryd.prog 76 _ (ReflectliteType.abiMethod fun t => do pure (.int .u8 (← Rtype.kind t))) Tryd.func76 (by kernel_rfl) (by kernel_rfl) (by kernel_rfl) (by kernel_rfl)
  have c90 := @run_callFunc_extern Tryd.prog 102 _ (ReflectliteType.method ReflectliteType.elem) Tryd.func102 (by kernel_rfl) (by kernel_rfl) (by kernel_rfl) (by kernel_rfl)
  have c91 := @run_callFunc_extern Tryd.prog 103 _ (ReflectliteType.relation "Implements" ReflectliteType.implements_) Tryd.func103 (by kernel_rfl) (by kernel_rfl) (by kernel_rfl) (by kernel_rfl)
  have c41 := @run_callFunc_extern Tryd.prog 50 _ ReflectliteType.typeOf Tryd.func50 (by kernel_rfl) (by kernel_rfl) (by kernel_rfl) (by kernel_rfl)
  have c88 := @run_callFunc_extern Tryd.prog 100 _ (ReflectliteType.relation "AssignableTo" ReflectliteType.assignableTo) Tryd.func100 (by kernel_rfl) (by kernel_rfl) (by kernel_rfl) (by kernel_rfl)
  have f2 := rl_mAsgn
  have f5 := rl_valueOfP
  have f6 := rl_typeP
  have f7 := rl_mKind
  have f8 := rl_mElem
  have f9 := rl_mImpl
  have g1 := rl_kindP
  have g2 := rl_kindE
  have g3 := rl_elemP
  have g4 := rl_implE
  have f1 := rl_typeOfS
  have f3 := rl_asgnS
  have q1 := rl_assertA e
  have q2 := rl_assertU e
  have q3 := rl_assertL e
  have hlt : 0 < w.heap.size := World.block_lt_of_cell? w _ hg
  have htl : t.block < w.heap.size := World.block_lt_of_cell? w _ ht0
  have n1 := rl_isNilP ⟨w.heap.size, 0, none⟩ t ((w.alloc (.cells #[.pointer (some t)] 119)).alloc (.cells #[hnd 119, .pointer (some ⟨w.heap.size, 0, none⟩), .int .u64 150] 95)) (by simp)
  have hg2 : ((w.alloc (.cells #[.pointer (some t)] 119)).alloc (.cells #[hnd 119, .pointer (some ⟨w.heap.size, 0, none⟩), .int .u64 150] 95)).cell? ⟨0, 0, none⟩ = some (.iface 122 (.agg #[hnd 44])) := by
    rw [World.cell?_alloc_lt _ _ ⟨0, 0, none⟩ (by simp), World.cell?_alloc_lt _ _ ⟨0, 0, none⟩ hlt]; exact hg
  have hbF : Below w.heap.size w (((w.alloc (.cells #[.pointer (some t)] 119)).alloc (.cells #[hnd 119, .pointer (some ⟨w.heap.size, 0, none⟩), .int .u64 150] 95)).alloc (.cells #[hnd 119, .pointer (some ⟨w.heap.size, 0, none⟩), .int .u64 150] 95)) := (((Below.refl w.heap.size w).alloc (Nat.le_refl _) _).alloc (by simp) _).alloc (by simp; omega) _
  clear ht0 htl
  unfold hnd valOf at *
  go_enter Tryd.func32, Tryd.ntmps32
  go_wp2
  refine wp_loop_rounds 1 ?_
  rw [rounds_succ]
  go_wp2
  go_ret
  exact ⟨rfl, hbF⟩
end Go.Proofs.YtnjfkijekohdkaaDoor
