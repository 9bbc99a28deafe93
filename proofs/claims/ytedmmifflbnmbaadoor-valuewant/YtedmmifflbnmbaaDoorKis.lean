/- What dovetailkeep.Is does at no error and at a *api.Fault that says what is asked (contracts; nothing is claimed here). -/
import Derived.Test.YtedmmifflbnmbaaDoorIsf
import Derived.Deep.QuietTactic
import Derived.BigQuiet
namespace Go.Proofs.YtedmmifflbnmbaaDoor
open Go.RowKit Go.Extern.Stop Go.Stop Go.Extern Go.Vf

theorem sameInts_none (w : World) : Calls Tryd.prog 23 #[.slice none 0 0, .slice none 0 0] w fun e w' => e = .returned (.bool true) ∧ w' = w := by
  go_enter Tryd.func23, Tryd.ntmps23
  go_wp2
  refine wp_loop_rounds 1 ?_
  rw [rounds_succ]
  go_wp2
  go_ret
  exact ⟨rfl, rfl⟩

/-- No error, and none asked. -/
theorem keepIs_none (w : World) : Calls Tryd.prog 10 #[.nilIface, .agg #[.int .i64 0, .int .i64 0, .slice none 0 0]] w fun e w' => e = .returned (.bool true) ∧ Below w.heap.size w w' := by
  have hB := (Below.refl w.heap.size w).alloc (Nat.le_refl _) (.cells #[.int .i64 0, .int .i64 0, .slice none 0 0] 44)
  go_enter Tryd.func10, Tryd.ntmps10
  go_wp2
  go_ret
  exact ⟨rfl, hB⟩

theorem cell_keep {w w' : World} (h : Below w.heap.size w w') {a : Addr} {v : Value} (hc : w.cell? a = some v) : w'.cell? a = some v := by
  have hl : a.block < w.heap.size := by
    rcases Nat.lt_or_ge a.block w.heap.size with h | h
    · exact h
    · simp [World.cell?, Array.getElem?_eq_none h] at hc
  exact (h.cell hl).trans hc

theorem as_fault_b (e t : Addr) (old : Value) (w : World) (hg : w.cell? ⟨0, 0, none⟩ = some (.iface 112 (.agg #[hnd 37]))) (ht0 : w.cell? t = some old) (hf0 : w.frozen? t = false) :
    Calls Tryd.prog 22 #[.iface 45 (.pointer (some e)), .iface 70 (.pointer (some t))] w fun ev w' => ev = .returned (.bool true) ∧ w'.cell? t = some (.pointer (some e)) ∧ Below t.block w w' := by
  have htl : t.block < w.heap.size := by
    rcases Nat.lt_or_ge t.block w.heap.size with h | h
    · exact h
    · simp [World.cell?, Array.getElem?_eq_none h] at ht0
  refine (as_fault e t old w hg ht0 hf0).mono ?_
  rintro _ _ ⟨rfl, rfl⟩
  have hB : Below w.heap.size w (asW w t e) := by
    have b1 := (Below.refl w.heap.size w).alloc (Nat.le_refl _) (.cells #[.pointer (some t)] 70)
    have b2 := b1.alloc b1.size (.cells #[hnd 70, .pointer (some ⟨w.heap.size, 0, none⟩), .int .u64 150] 95)
    have b3 := b2.alloc b2.size (.cells #[hnd 70, .pointer (some ⟨w.heap.size, 0, none⟩), .int .u64 150] 95)
    exact b3.alloc b3.size _
  refine ⟨rfl, World.cell?_setCell_same' _ _ _ (by rw [cell_keep hB ht0]; rfl), ?_⟩
  exact (hB.mono (Nat.le_of_lt htl)).setCell (Nat.le_refl _) _

set_option maxRecDepth 20000 in
set_option maxHeartbeats 4000000 in
/-- A Fault that says what is asked. -/
theorem keepIs_fault (b : Nat) (c : Int) (w : World) (hne : c ≠ 0) (hg : w.cell? ⟨0, 0, none⟩ = some (.iface 112 (.agg #[hnd 37]))) (h0 : w.cell? ⟨b, 0, none⟩ = some (.int .i64 c)) (h1 : w.cell? ⟨b, 1, none⟩ = some (.int .i64 0)) (h2 : w.cell? ⟨b, 2, none⟩ = some (.slice none 0 0)) :
    Calls Tryd.prog 10 #[.iface 45 (.pointer (some ⟨b, 0, none⟩)), .agg #[.int .i64 c, .int .i64 0, .slice none 0 0]] w fun ev w' => ev = .returned (.bool true) ∧ Below w.heap.size w w' := by
  have d0 : decide (c = 0) = false := by simpa using hne
  have d1 : (c == 0) = false := by simpa using hne
  have bB1 := (Below.refl w.heap.size w).alloc (Nat.le_refl _) (.cells #[.int .i64 c, .int .i64 0, .slice none 0 0] 44)
  have bB2 := bB1.alloc bB1.size (.cells #[.pointer none] 45)
  have s1 := alloc_size w (.cells #[.int .i64 c, .int .i64 0, .slice none 0 0] 44)
  have k1 := Blk.new w 44 #[.int .i64 c, .int .i64 0, .slice none 0 0]
  have bB3 := (Below.refl _ (w.alloc (.cells #[.int .i64 c, .int .i64 0, .slice none 0 0] 44))).alloc (Nat.le_refl _) (.cells #[.pointer none] 45)
  have k2 := k1.old bB3
  have k3 := Blk.new (w.alloc (.cells #[.int .i64 c, .int .i64 0, .slice none 0 0] 44)) 45 #[.pointer none]
  rw [s1] at k3
  clear bB3 k1
  go_enter Tryd.func10, Tryd.ntmps10
  go_wp2_with fail
  generalize (w.alloc (.cells #[.int .i64 c, .int .i64 0, .slice none 0 0] 44)).alloc (.cells #[.pointer none] 45) = w2 at *
  have g2 := cell_keep bB2 hg
  have e0 := cell_keep bB2 h0
  have e1 := cell_keep bB2 h1
  have e2 := cell_keep bB2 h2
  refine (as_fault_b ⟨b, 0, none⟩ ⟨w.heap.size + 1, 0, none⟩ (.pointer none) w2 g2 ?_ ?_).mono ?_
  · exact k3.cell 0
  · exact k3.frozen 0
  rintro _ w3 ⟨rfl, ht, hB3⟩
  have hbl : b < w.heap.size := by
    rcases Nat.lt_or_ge b w.heap.size with h | h
    · exact h
    · simp [World.cell?, Array.getElem?_eq_none h] at h0
  have k4 := k2.below hB3 (Nat.lt_succ_self _)
  have a0 : w3.cell? ⟨b, 0, none⟩ = some (.int .i64 c) := (hB3.cell (by show b < w.heap.size + 1; omega)).trans e0
  have a1 : w3.cell? ⟨b, 1, none⟩ = some (.int .i64 0) := (hB3.cell (by show b < w.heap.size + 1; omega)).trans e1
  have a2 : w3.cell? ⟨b, 2, none⟩ = some (.slice none 0 0) := (hB3.cell (by show b < w.heap.size + 1; omega)).trans e2
  have x0 : w3.cell? ⟨w.heap.size, 0, none⟩ = some (.int .i64 c) := k4.cell 0
  have x1 : w3.cell? ⟨w.heap.size, 1, none⟩ = some (.int .i64 0) := k4.cell 1
  have x2 : w3.cell? ⟨w.heap.size, 2, none⟩ = some (.slice none 0 0) := k4.cell 2
  have bB4 : Below w.heap.size w w3 := bB2.trans (hB3.mono (Nat.le_succ _))
  clear k2 k3 k4 g2 e0 e1 e2 h0 h1 h2 hg s1 bB1 bB2 hB3
  go_wp2_with fail
  go_quiet (first | (go_at_call 23; exact Calls.quiet_of_same (sameInts_none _)) | (go_at_call 24; exact Calls.quiet_of_same (is_fault _ c _ (by simpa using a0))))
  go_wp2
  go_ret
  exact ⟨rfl, ⟨bB4.os, bB4.tape, bB4.output, bB4.size, bB4.block⟩⟩
end Go.Proofs.YtedmmifflbnmbaaDoor
