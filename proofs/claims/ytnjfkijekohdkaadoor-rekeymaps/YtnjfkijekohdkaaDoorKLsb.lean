/- What rekey's listOf does at no tuple (contracts; nothing is claimed here). -/
import Derived.Test.YtnjfkijekohdkaaDoorKLst
import Derived.Test.YtnjfkijekohdkaaDoorKErr
import Derived.Stop.Asserts
namespace Go.Proofs.YtnjfkijekohdkaaDoor
open Go.RowKit Go.Vf Go.Extern.Stop Go.Stop Go.Extern

/-- An assertion that fails panics with a runtime error of its own. -/
def TaBad (v : Value) : Prop := ∀ w : World, ∃ T o, (Instr.typeAssert v 32 64 false).run Tryd.prog w = .halt (.panic (.iface T (.pointer (some ⟨w.heap.size, 0, none⟩)))) (w.alloc o)
theorem rt_typeB : (match Tryd.prog.underlying Tryd.prog.rt.typeAssertionError with | some (.pointer _) => true | _ => false) = true := by kernel_rfl
theorem rt_type : ∃ i, Tryd.prog.underlying Tryd.prog.rt.typeAssertionError = some (.pointer i) := by
  have h := rt_typeB
  split at h
  · rename_i i hi
    exact ⟨i, hi⟩
  · cases h
theorem rt_bad (c : Option TypeId) (m : String) (w : World) : ∃ T o, (runtimePanic (.typeAssertion none c 64 m) : Sem Value).run Tryd.prog w = .halt (.panic (.iface T (.pointer (some ⟨w.heap.size, 0, none⟩)))) (w.alloc o) := by
  obtain ⟨i, hi⟩ := rt_type
  simp [runtimePanic, elemOf, newVar, newRow, goPanic]
  exact ⟨_, rfl⟩
theorem ta_nil : TaBad .nilIface := fun w => by
  obtain ⟨T, o, h⟩ := rt_bad none "" w
  exact ⟨T, o, by rw [← h]; simp [Instr.typeAssert, run_underlying Tryd.underlying64]⟩
theorem ta_lacks {t : TypeId} {want : Array (String × TypeId)} (hu : Tryd.prog.underlying 64 = some (.interface want)) (h : (Tryd.prog.info? t).map (fun i => (lacking want i.methods).isEmpty) = some false) (v : Value) : TaBad (.iface t v) := fun w => by
  obtain ⟨i, hi, hl⟩ := Option.map_eq_some_iff.1 h
  obtain ⟨m, hm⟩ := missingMethod_some (fun e => by rw [e] at hl; cases hl)
  obtain ⟨T, o, h⟩ := rt_bad (some t) m w
  exact ⟨T, o, by rw [← h]; simp [Instr.typeAssert, run_underlying hu, typeInfo, hi, hm]⟩
theorem ta_truth (v : Value) : TaBad (.iface 79 v) := ta_lacks Tryd.underlying64 (by kernel_rfl) v
theorem ta_num (v : Value) : TaBad (.iface 81 v) := ta_lacks Tryd.underlying64 (by kernel_rfl) v
theorem ta_raw (v : Value) : TaBad (.iface 86 v) := ta_lacks Tryd.underlying64 (by kernel_rfl) v
set_option maxHeartbeats 1000000 in
theorem lst_catch (A B T : Nat) (y : Value) (v u : Value) (w : World) (hA : Blk w A 64 #[v]) (hB : Blk w B 44 #[u]) (hne : A ≠ B) :
    CallsD Tryd.prog 42 #[.pointer (some ⟨A, 0, none⟩), .pointer (some ⟨B, 0, none⟩)] (.panicking [{ v := .iface T y, recovered := false }]) w fun e u' w' =>
      e = .returned (.tuple #[]) ∧ u' = .panicking [{ v := .iface T y, recovered := true }] ∧ w' = (((w.alloc (.cells #[.int .i64 4, .int .i64 0, .slice none 0 0, .nilIface] 69)).setCell ⟨A, 0, none⟩ .nilIface).setCell ⟨B, 0, none⟩ (.iface 67 (.pointer (some ⟨w.heap.size, 0, none⟩)))) := by
  have hb0 := (Below.refl w.heap.size w).alloc (Nat.le_refl _) (.cells #[.int .i64 4, .int .i64 0, .slice none 0 0, .nilIface] 69)
  have hA1 := hA.old hb0
  have hB1 := (hB.old hb0).other (p := ⟨A, 0, none⟩) (Ne.symm hne) .nilIface
  have k0 := hA1.cell 0
  have k1 := hA1.frozen 0
  have k2 := hB1.cell 0
  have k3 := hB1.frozen 0
  refine callsD_of_wpS Tryd.func42 rfl fun c₀ cs hu => ?_
  apply wpS_seq
  apply wpS_region
  simp [wpOpsS, go_sem, recoverD, hu, Tryd.ntmps42, Exit.thenS, Array.replicate]
  refine wpS_of_wp ?_
  go_wp2
  exact ⟨rfl, _, rfl, _, by simp [results, Tryd.results42], rfl, rfl, rfl⟩
set_option maxHeartbeats 2000000 in
theorem listOf_bad (v : Value) (hbad : TaBad v) (w : World) : Calls Tryd.prog 30 #[v] w fun e w' => ∃ f, e = .returned (.tuple #[.nilIface, f]) ∧ FaultK w' w.heap.size f 4 0 .nilIface ∧ Below w.heap.size w w' := by
  have hmf : ∀ (fn : Fn) (first cap : Array Value) (w : World), (Instr.makeFunc fn first cap).run Tryd.prog w = .ok (.func fn first cap) w := fun _ _ _ _ => rfl
  have hb1 := (Below.refl w.heap.size w).alloc (Nat.le_refl _) (.cells #[.nilIface] 64)
  have hA1 := Blk.new w 64 #[.nilIface]
  have hs1 := alloc_size w (.cells #[.nilIface] 64)
  have hb2 := hb1.alloc hb1.size (.cells #[.nilIface] 44)
  have hA2 := hA1.old ((Below.refl _ (w.alloc (.cells #[.nilIface] 64))).alloc (Nat.le_refl _) (.cells #[.nilIface] 44))
  have hB2 := Blk.new (w.alloc (.cells #[.nilIface] 64)) 44 #[.nilIface]
  rw [hs1] at hB2
  go_enter_defers Tryd.func30, Tryd.ntmps30
  go_upto_region 1 with fail
  try simp only [hs1]
  generalize (w.alloc (.cells #[.nilIface] 64)).alloc (.cells #[.nilIface] 44) = w2 at *
  clear hs1 hb1 hA1
  obtain ⟨T, o, hta⟩ := hbad w2
  have hA3 := hA2.old ((Below.refl _ w2).alloc (Nat.le_refl _) o)
  have hB3 := hB2.old ((Below.refl _ w2).alloc (Nat.le_refl _) o)
  have hb3 := hb2.alloc hb2.size o
  have hz3 : w.heap.size ≤ (w2.alloc o).heap.size := hb3.size
  generalize w2.alloc o = w3 at *
  go_wp2
  refine leaves_cons (f := 42) (args := #[.pointer (some ⟨w.heap.size, 0, none⟩), .pointer (some ⟨w.heap.size + 1, 0, none⟩)]) (by simp) (by simp [go_sem]) ?_
  refine (lst_catch w.heap.size (w.heap.size + 1) _ _ _ _ w3 hA3 hB3 (Nat.ne_of_lt (Nat.lt_succ_self _))).mono ?_
  rintro e u' w4 ⟨rfl, rfl, rfl⟩
  have hb4 := (Below.refl w3.heap.size w3).alloc (Nat.le_refl _) (.cells #[.int .i64 4, .int .i64 0, .slice none 0 0, .nilIface] 69)
  have hF := Blk.new w3 69 #[.int .i64 4, .int .i64 0, .slice none 0 0, .nilIface]
  have hAl := hA3.lt
  have hBl := hB3.lt
  have hF2 := (hF.other (p := ⟨w.heap.size, 0, none⟩) (Nat.ne_of_gt hAl) .nilIface).other (p := ⟨w.heap.size + 1, 0, none⟩) (Nat.ne_of_gt hBl) (.iface 67 (.pointer (some ⟨w3.heap.size, 0, none⟩)))
  have hA4 : Blk _ w.heap.size 64 #[.nilIface] := (((hA3.old hb4).set 0 .nilIface).other (p := ⟨w.heap.size + 1, 0, none⟩) (Nat.ne_of_lt (Nat.lt_succ_self _)) (.iface 67 (.pointer (some ⟨w3.heap.size, 0, none⟩))))
  have hB4 : Blk _ (w.heap.size + 1) 44 #[.iface 67 (.pointer (some ⟨w3.heap.size, 0, none⟩))] := (((hB3.old hb4).other (p := ⟨w.heap.size, 0, none⟩) (Nat.ne_of_gt (Nat.lt_succ_self _)) .nilIface).set 0 (.iface 67 (.pointer (some ⟨w3.heap.size, 0, none⟩))))
  exact ⟨_, lst_results hA4 hB4 rfl rfl, _, rfl, ⟨w3.heap.size, rfl, hz3, hF2⟩, (((hb3.trans (hb4.mono hz3)).setCell (p := ⟨w.heap.size, 0, none⟩) (Nat.le_refl _) _).setCell (p := ⟨w.heap.size + 1, 0, none⟩) (Nat.le_succ _) _)⟩
/-- rekey.Map at no tuple. -/
theorem map_kind (v : Value) (hbad : TaBad v) (n : Nat) (a : Option Addr) (c : Nat) (w : World) : Calls Tryd.prog 12 #[.slice a n c, v] w fun e w' => ∃ f, e = .returned (.tuple #[.nilIface, f]) ∧ FaultK w' w.heap.size f 4 0 .nilIface ∧ Below w.heap.size w w' := by
  have hc := listOf_bad v hbad w
  go_enter Tryd.func12, Tryd.ntmps12
  go_wp2_with fail
  refine hc.mono ?_
  clear hc
  rintro _ w1 ⟨f, rfl, ⟨F, rfl, h1, h2⟩, hb⟩
  have HP : Hid (FaultK w1 w.heap.size (.iface 67 (.pointer (some ⟨F, 0, none⟩))) 4 0 .nilIface ∧ Below w.heap.size w w1) := ⟨⟨F, rfl, h1, h2⟩, hb⟩
  clear h1 h2 hb
  go_wp2_with fail
  go_ret2
  exact ⟨_, rfl, HP.out⟩
end Go.Proofs.YtnjfkijekohdkaaDoor
