/- What errors.Is and dovetailkeep.Is do at a *api.Fault that says what is asked (contracts; nothing is claimed here). -/
import Derived.Test.YtedmmifflbnmbaaDoorAsf
namespace Go.Proofs.YtedmmifflbnmbaaDoor
open Go.RowKit Go.Extern.Stop Go.Stop Go.Extern Go.Vf

theorem rl_typeOf30 (v : Value) (w : World) : (ReflectliteType.typeOf #[.iface 30 v]).run Tryd.prog w = .ok (.iface 112 (.agg #[hnd 30])) w := by kernel_rfl
theorem rl_mComp (h : Value) (w : World) : (Go.method 255 112 (.agg #[h]) "Comparable").run Tryd.prog w = .ok (89, .agg #[h]) w := by kernel_rfl
theorem rl_mIs (v : Value) (w : World) : (Go.method 255 45 v "Is").run Tryd.prog w = .ok (69, v) w := by kernel_rfl
theorem ta_is (v : Value) (w : World) : (Instr.typeAssert (.iface 45 v) 37 124 true).run Tryd.prog w = .ok (.tuple #[.iface 45 v, .bool true]) w := run_typeAssert_hasB Tryd.underlying124 (by kernel_rfl) v 37 w
theorem ne_types (v x : Value) (w : World) : (binOp .eql 37 (.iface 45 v) (.iface 30 x)).run Tryd.prog w = .ok (.bool false) w := run_eql_iface_types 45 30 v x Tryd.underlying37 (by decide) w
theorem info30 : (Tryd.prog.info? 30).map (fun i => i.comparable) = some true := by kernel_rfl
theorem eq_code (c : Int) (w : World) : (binOp .eql 37 (.iface 30 (.int .i64 c)) (.iface 30 (.int .i64 c))).run Tryd.prog w = .ok (.bool true) w := by
  obtain ⟨i, hi, hc⟩ : ∃ i, Tryd.prog.info? 30 = some i ∧ i.comparable = true := by simpa using info30
  have h : ∀ d, (Op.equalIn (d + 1 + 1) 37 (.iface 30 (.int .i64 c)) (.iface 30 (.int .i64 c))).run Tryd.prog w = .ok true w := fun d => by
    simp [Op.equalIn, run_underlying Tryd.underlying37, run_underlying Tryd.underlying30, typeInfo, hi, hc]
  simp only [binOp]
  simp [Op.equal, Op.maxDepth, h 9998]

/-- (*api.Fault).Is at its own code. -/
theorem faultIs_hit (e : Addr) (c : Int) (w : World) (hc : w.cell? e = some (.int .i64 c)) : Calls Tryd.prog 69 #[.pointer (some e), .iface 30 (.int .i64 c)] w fun ev w' => ev = .returned (.bool true) ∧ w' = w := by
  have q := eq_code c
  go_enter Tryd.func69, Tryd.ntmps69
  go_wp2
  go_ret
  exact ⟨rfl, rfl⟩
theorem rl_comp30 (w : World) : (ReflectliteType.method (fun t => do Rtype.noPackHeld "Comparable" t; (fun a => Value.bool a.comparable) <$> typeInfo t) #[.agg #[hnd 30]]).run Tryd.prog w = .ok (.bool true) w := by kernel_rfl

set_option maxRecDepth 20000 in
set_option maxHeartbeats 4000000 in
/-- errors.Is of a Fault at its own code. -/
theorem is_fault (e : Addr) (c : Int) (w : World) (hc : w.cell? e = some (.int .i64 c)) : Calls Tryd.prog 24 #[.iface 45 (.pointer (some e)), .iface 30 (.int .i64 c)] w fun ev w' => ev = .returned (.bool true) ∧ w' = w := by
  have c41 := @run_callFunc_extern Tryd.prog 41 _ ReflectliteType.typeOf Tryd.func41 (by kernel_rfl) (by kernel_rfl) (by kernel_rfl) (by kernel_rfl)
  have c89 := @run_callFunc_extern Tryd.prog 89 _ (ReflectliteType.method (fun t => do Rtype.noPackHeld "Comparable" t; pure (.bool (← typeInfo t).comparable))) Tryd.func89 (by kernel_rfl) (by kernel_rfl) (by kernel_rfl) (by kernel_rfl)
  have f1 := rl_typeOf30
  have f2 := rl_mComp
  have f3 := rl_comp30
  have f4 := rl_mIs
  have f5 := ta_is
  have f6 := ne_types
  have f7 := eq_code c w
  unfold hnd at *
  go_enter Tryd.func24, Tryd.ntmps24
  go_wp2
  refine wp_loop_rounds 1 ?_
  rw [rounds_succ]
  go_wp2
  go_ret
  exact ⟨rfl, rfl⟩
end Go.Proofs.YtedmmifflbnmbaaDoor
