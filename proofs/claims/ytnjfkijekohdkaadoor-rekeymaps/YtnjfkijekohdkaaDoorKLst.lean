/- What rekey's listOf does (contracts; nothing is claimed here). -/
import Derived.Test.YtnjfkijekohdkaaDoorVOf
namespace Go.Proofs.YtnjfkijekohdkaaDoor
open Go.RowKit Go.Vf

set_option maxHeartbeats 1000000 in
theorem lst_idle (A B : Nat) (w : World) : CallsD Tryd.prog 42 #[.pointer (some ⟨A, 0, none⟩), .pointer (some ⟨B, 0, none⟩)] .returning w fun e u' w' => e = .returned (.tuple #[]) ∧ u' = .returning ∧ w' = w := by
  refine callsD_of_wpS Tryd.func42 rfl fun c₀ cs hu => ?_
  apply wpS_seq
  apply wpS_region
  simp [wpOpsS, go_sem, recoverD, hu, Tryd.ntmps42, Exit.thenS, Array.replicate]
  refine wpS_of_wp ?_
  go_wp2
  exact ⟨rfl, _, rfl, _, by simp [results, Tryd.results42], rfl, hu, rfl⟩
theorem lst_results {tmps : Array Value} {w : World} {A B : Nat} {v u : Value} (hA : Blk w A 64 #[v]) (hB : Blk w B 44 #[u]) (t2 : tmps[2]?.getD undef = .pointer (some ⟨A, 0, none⟩)) (t3 : tmps[3]?.getD undef = .pointer (some ⟨B, 0, none⟩)) :
    (results Tryd.f30 tmps).run Tryd.prog w = .ok (.tuple #[v, u]) w := by
  have c0 : w.cell? ⟨A, 0, none⟩ = some v := hA.cell 0
  have c1 : w.cell? ⟨B, 0, none⟩ = some u := hB.cell 0
  simp [results, Tryd.results30, go_sem, t2, t3, c0, c1]
set_option maxHeartbeats 2000000 in
theorem listOf_tup (g : Addr) (w : World) : Calls Tryd.prog 30 #[.iface 83 (.pointer (some g))] w fun e w' => e = .returned (.tuple #[.iface 83 (.pointer (some g)), .nilIface]) ∧ Below w.heap.size w w' := by
  have hmf : ∀ (fn : Fn) (first cap : Array Value) (w : World), (Instr.makeFunc fn first cap).run Tryd.prog w = .ok (.func fn first cap) w := fun _ _ _ _ => rfl
  have hta : ∀ w : World, (Instr.typeAssert (.iface 83 (.pointer (some g))) 32 64 false).run Tryd.prog w = .ok (.iface 83 (.pointer (some g))) w := fun w => by kernel_rfl
  have hb1 := (Below.refl w.heap.size w).alloc (Nat.le_refl _) (.cells #[.nilIface] 64)
  have hA1 := Blk.new w 64 #[.nilIface]
  have hs1 := alloc_size w (.cells #[.nilIface] 64)
  have hb2 := hb1.alloc hb1.size (.cells #[.nilIface] 44)
  have hA2 := hA1.old ((Below.refl _ (w.alloc (.cells #[.nilIface] 64))).alloc (Nat.le_refl _) (.cells #[.nilIface] 44))
  have hB2 := Blk.new (w.alloc (.cells #[.nilIface] 64)) 44 #[.nilIface]
  rw [hs1] at hB2
  go_enter_defers Tryd.func30, Tryd.ntmps30
  go_upto_region 1 with fail
  try simp only [hs1]
  generalize (w.alloc (.cells #[.nilIface] 64)).alloc (.cells #[.nilIface] 44) = w2 at *
  clear hs1 hb1 hA1
  have a0 : w2.cell? ⟨w.heap.size, 0, none⟩ = some .nilIface := hA2.cell 0
  have b0 : w2.cell? ⟨w.heap.size + 1, 0, none⟩ = some .nilIface := hB2.cell 0
  have af : w2.frozen? ⟨w.heap.size, 0, none⟩ = false := hA2.frozen 0
  have bf : w2.frozen? ⟨w.heap.size + 1, 0, none⟩ = false := hB2.frozen 0
  have HA2 : Hid (Blk w2 w.heap.size 64 #[.nilIface]) := hA2
  have HB2 : Hid (Blk w2 (w.heap.size + 1) 44 #[.nilIface]) := hB2
  clear hA2 hB2
  go_wp2
  refine leaves_cons (f := 42) (args := #[.pointer (some ⟨w.heap.size, 0, none⟩), .pointer (some ⟨w.heap.size + 1, 0, none⟩)]) (by simp) (by simp [go_sem]) ?_
  refine (lst_idle w.heap.size (w.heap.size + 1) _).mono ?_
  rintro e u' w3 ⟨rfl, rfl, rfl⟩
  have hA3 : Blk (w2.setCell ⟨w.heap.size, 0, none⟩ (.iface 83 (.pointer (some g)))) w.heap.size 64 #[.iface 83 (.pointer (some g))] := HA2.out.set 0 (.iface 83 (.pointer (some g)))
  have hB3 : Blk (w2.setCell ⟨w.heap.size, 0, none⟩ (.iface 83 (.pointer (some g)))) (w.heap.size + 1) 44 #[.nilIface] := HB2.out.other (p := ⟨w.heap.size, 0, none⟩) (by show w.heap.size + 1 ≠ w.heap.size; omega) _
  have hA4 := hA3.other (p := ⟨w.heap.size + 1, 0, none⟩) (by show w.heap.size ≠ w.heap.size + 1; omega) .nilIface
  have hB4 : Blk ((w2.setCell ⟨w.heap.size, 0, none⟩ (.iface 83 (.pointer (some g)))).setCell ⟨w.heap.size + 1, 0, none⟩ .nilIface) (w.heap.size + 1) 44 #[.nilIface] := hB3.set 0 .nilIface
  exact ⟨_, lst_results hA4 hB4 rfl rfl, rfl, (hb2.setCell (p := ⟨w.heap.size, 0, none⟩) (Nat.le_refl _) _).setCell (p := ⟨w.heap.size + 1, 0, none⟩) (Nat.le_succ _) _⟩
end Go.Proofs.YtnjfkijekohdkaaDoor
