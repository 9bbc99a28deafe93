/- Contracts and lemmas (nothing is claimed here). -/
import Derived.Test.YtgefbgpfjbbeaaaGreatDoorJ1
import Derived.Test.YtgefbgpfjbbeaaaGreatDoorFGiv
import Derived.Lib.Bytealg
import Derived.Defers
import Derived.Recover
namespace Go.Proofs.YtgefbgpfjbbeaaaGreatDoor
open Go.RowKit Go.Vf

set_option maxRecDepth 20000 in
theorem count0 (w : World) : Calls Tryz.prog 75 #[.string ⟨#[]⟩, .string ⟨#[10]⟩] w fun e w' => e = .returned (.int .i64 0) ∧ w' = w := by
  go_enter Tryz.func75, Tryz.ntmps75
  go_wp2
  rw [run_callFunc_extern Tryz.func104 (by kernel_rfl) (by kernel_rfl) (by kernel_rfl) (e := Extern.BytealgCount.count) (by kernel_rfl), Lib.run_countString]
  simp only [Result.andThen]
  rw [Oper.upon_value]
  go_wp2
  go_ret
  exact ⟨rfl, rfl⟩

theorem run_make9 (w : World) : (Instr.makeSlice 25 (.int .i64 1) (.int .i64 1)).run Tryz.prog w = .ok (.slice (some ⟨w.heap.size, 0, none⟩) 1 1) (w.alloc (.cells #[.string ⟨#[]⟩] 9)) := by kernel_rfl
/-- Where the one empty line lies. -/
def Line0 (w : World) (v : Value) (w' : World) : Prop := ∃ b, v = .slice (some ⟨b, 0, none⟩) 1 1 ∧ w'.cell? ⟨b, 0, none⟩ = some (.string ⟨#[]⟩) ∧ w.heap.size ≤ b ∧ b < w'.heap.size ∧ Below w.heap.size w w'
set_option maxHeartbeats 2000000 in
set_option maxRecDepth 20000 in
theorem genSplit0 (w : World) : Calls Tryz.prog 50 #[.string ⟨#[]⟩, .string ⟨#[10]⟩, .int .i64 0, .int .i64 (-1)] w fun e w' => ∃ v, e = .returned v ∧ Line0 w v w' := by
  have hc := count0 w
  have hmk := run_make9 w
  have hb1 := (Below.refl w.heap.size w).alloc (Nat.le_refl _) (.cells #[.string ⟨#[]⟩] 9)
  have hB1 := Blk.new w 9 #[.string ⟨#[]⟩]
  have hs1 := alloc_size w (.cells #[.string ⟨#[]⟩] 9)
  go_enter Tryz.func50, Tryz.ntmps50
  go_wp2_with fail
  refine hc.mono ?_
  rintro _ w2 ⟨rfl, rfl⟩
  clear hc
  go_upto_region 9 with fail
  generalize hw1 : w2.alloc (.cells #[.string ⟨#[]⟩] 9) = w1 at *
  have c0 : w1.cell? ⟨w2.heap.size, 0, none⟩ = some (.string ⟨#[]⟩) := hB1.cell 0
  have f0 := hB1.frozen 0
  have hB2 := hB1.set 0 (.string ⟨#[]⟩)
  have hb2 := hb1.setCell (p := ⟨w2.heap.size, 0, none⟩) (Nat.le_refl _) (.string ⟨#[]⟩)
  clear hmk hw1
  go_wp2_with fail
  go_loopw [0, 10] (fun s i wr => s = .string ⟨#[]⟩ ∧ i = .int .i64 0 ∧ wr = w1) (fun _ _ _ => 0)
  case atStart => exact ⟨rfl, rfl, rfl⟩
  case round =>
    obtain ⟨rfl, rfl, rfl⟩ := hrel
    go_wp2_with fail
    go_ret
    exact ⟨_, rfl, w2.heap.size, rfl, by have := hB2.cell 0; simpa using this, Nat.le_refl _, hB2.lt, hb2⟩
theorem split0 (w : World) : Calls Tryz.prog 34 #[.string ⟨#[]⟩, .string ⟨#[10]⟩] w fun e w' => ∃ v, e = .returned v ∧ Line0 w v w' := by
  have h := genSplit0 w
  go_enter Tryz.func34, Tryz.ntmps34
  go_wp2_with fail
  refine h.mono ?_
  rintro _ w2 ⟨v, rfl, hv⟩
  go_wp2_with fail
  go_ret
  exact ⟨_, rfl, hv⟩
set_option maxHeartbeats 2000000 in
set_option maxRecDepth 20000 in
theorem readLines0 (b : Nat) (m : Value) (w : World) (hB : Blk w b 90 #[.int .i64 0, m, .slice none 0 0]) : Calls Tryz.prog 30 #[.pointer (some ⟨b, 0, none⟩), .string ⟨#[]⟩] w fun e w' => e = .returned (.tuple #[]) ∧ Blk w' b 90 #[.int .i64 1, m, .slice none 0 0] ∧ Below b w w' := by
  have h := split0 w
  have hbl := hB.lt
  go_enter Tryz.func30, Tryz.ntmps30
  go_wp2_with fail
  refine h.mono ?_
  rintro _ w2 ⟨v, rfl, g, rfl, hg, hg0, hg1, hb2⟩
  have hB2 := hB.old hb2
  have HB2 : Hid (Blk w2 b 90 #[.int .i64 0, m, .slice none 0 0]) := hB2
  have hz2 := hb2.size
  clear h hB hB2
  go_wp2_with fail
  go_loopw [9] (fun i wr => (i = .int .i64 0 ∧ wr = w2) ∨ (i = .int .i64 1 ∧ Hid (Blk wr b 90 #[.int .i64 1, m, .slice none 0 0] ∧ Below b w wr))) (fun i _ => 1 - (intOf i).toNat)
  case atStart => exact .inl ⟨rfl, rfl⟩
  case round =>
    rcases hrel with ⟨rfl, rfl⟩ | ⟨rfl, HB⟩
    · have c0 : wr.cell? ⟨b, 0, none⟩ = some (.int .i64 0) := HB2.out.cell 0
      have f0 := HB2.out.frozen 0
      go_wp2_with fail
      refine ⟨.inr ⟨rfl, ?_⟩, by simp [intOf]⟩
      exact ⟨by have := HB2.out.set 0 (.int .i64 1); show Blk _ _ _ _; simpa using this, (hb2.mono (Nat.le_of_lt hbl)).setCell (p := ⟨b, 0, none⟩) (Nat.le_refl _) _⟩
    · go_wp2_with fail
      exact ⟨rfl, _, by simp [results, Tryz.results30], rfl, HB.out⟩
set_option maxHeartbeats 2000000 in
set_option maxRecDepth 20000 in
theorem needNoLoop0 (m : Nat) (w : World) : Calls Tryz.prog 31 #[.map (some m), .slice none 0 0] w fun e w' => e = .returned (.slice none 0 0) ∧ Below w.heap.size w w' := by
  have hmm := @run_makeMap Tryz.prog
  have hb := (((Below.refl w.heap.size w).alloc (Nat.le_refl _) (.map #[] 0)).alloc (by simp) (.map #[] 0)).alloc (by simp; omega) (.cells #[.map (some m), .map (some w.heap.size), .int .i64 0, .slice none 0 0, .slice none 0 0, .map (some (w.heap.size + 1))] 125)
  have hB := Blk.new ((w.alloc (.map #[] 0)).alloc (.map #[] 0)) 125 #[.map (some m), .map (some w.heap.size), .int .i64 0, .slice none 0 0, .slice none 0 0, .map (some (w.heap.size + 1))]
  rw [show ((w.alloc (.map #[] 0)).alloc (.map #[] 0)).heap.size = w.heap.size + 1 + 1 by simp] at hB
  go_enter Tryz.func31, Tryz.ntmps31
  go_upto_region 2 with fail
  generalize ((w.alloc (.map #[] 0)).alloc (.map #[] 0)).alloc (.cells #[.map (some m), .map (some w.heap.size), .int .i64 0, .slice none 0 0, .slice none 0 0, .map (some (w.heap.size + 1))] 125) = w1 at *
  clear hmm
  have c4 : w1.cell? ⟨w.heap.size + 1 + 1, 4, none⟩ = some (.slice none 0 0) := hB.cell 4
  go_wp2_with fail
  go_loopw [16] (fun i wr => i = .int .i64 0 ∧ wr = w1) (fun _ _ => 0)
  case atStart => exact ⟨rfl, rfl⟩
  case round =>
    obtain ⟨rfl, rfl⟩ := hrel
    go_wp2_with fail
    go_loopw [26] (fun i wx => i = .int .i64 0 ∧ wx = wr) (fun _ _ => 0)
    case atStart => exact ⟨rfl, rfl⟩
    case round =>
      obtain ⟨rfl, rfl⟩ := hrel
      go_wp2_with fail
      go_ret
      exact ⟨rfl, hb⟩
set_option maxHeartbeats 1000000 in
theorem fillEnds0 (b : Nat) (w : World) : Calls Tryz.prog 32 #[.pointer (some ⟨b, 0, none⟩), .slice none 0 0] w fun e w' => e = .returned (.tuple #[]) ∧ w' = w := by
  go_enter Tryz.func32, Tryz.ntmps32
  go_wp2_with fail
  go_loopw [10] (fun i wr => i = .int .i64 0 ∧ wr = w) (fun _ _ => 0)
  case atStart => exact ⟨rfl, rfl⟩
  case round =>
    obtain ⟨rfl, rfl⟩ := hrel
    go_wp2_with fail
    exact ⟨rfl, _, by simp [results, Tryz.results32], rfl, rfl⟩
set_option maxHeartbeats 1000000 in
theorem needShort0 (b : Nat) (w : World) : Calls Tryz.prog 33 #[.pointer (some ⟨b, 0, none⟩), .slice none 0 0] w fun e w' => e = .returned (.tuple #[]) ∧ w' = w := by
  go_enter Tryz.func33, Tryz.ntmps33
  go_wp2_with fail
  go_loopw [8] (fun i wr => i = .int .i64 0 ∧ wr = w) (fun _ _ => 0)
  case atStart => exact ⟨rfl, rfl⟩
  case round =>
    obtain ⟨rfl, rfl⟩ := hrel
    go_wp2_with fail
    exact ⟨rfl, _, by simp [results, Tryz.results33], rfl, rfl⟩
theorem res62_run {tmps : Array Value} {w : World} {v2 v3 v4 : Value} (t2 : tmps[2]?.getD undef = v2) (t3 : tmps[3]?.getD undef = v3) (t4 : tmps[4]?.getD undef = v4) : (results Tryz.f19 tmps).run Tryz.prog w = .ok (.tuple #[v2, v3, v4]) w := by
  simp [results, Tryz.results19, go_sem, t2, t3, t4]
set_option maxHeartbeats 2000000 in
set_option maxRecDepth 20000 in
theorem tload0 (w : World) : Calls Tryz.prog 19 #[.string ⟨#[]⟩] w fun e w' => ∃ b, e = .returned (.tuple #[.pointer (some ⟨b, 0, none⟩), .int .i64 0, .int .i64 0]) ∧ Below w.heap.size w w' := by
  have hmm := @run_makeMap Tryz.prog
  have hb := (((Below.refl w.heap.size w).alloc (Nat.le_refl _) (.map #[] 0)).alloc (by simp) (.map #[] 0)).alloc (by simp; omega) (.cells #[.map (some w.heap.size), .map (some (w.heap.size + 1))] 100)
  go_enter Tryz.func19, Tryz.ntmps19
  go_upto_region 4 with fail
  generalize ((w.alloc (.map #[] 0)).alloc (.map #[] 0)).alloc (.cells #[.map (some w.heap.size), .map (some (w.heap.size + 1))] 100) = w1 at *
  clear hmm
  have h := split0 w1
  go_wp2_with fail
  refine h.mono ?_
  rintro _ w2 ⟨v, rfl, g, rfl, hg, hg0, hg1, hb2⟩
  have hb02 := hb.trans (hb2.mono hb.size)
  clear h
  go_wp2_with fail
  go_loopw [19] (fun i wr => ∃ j : Nat, j ≤ 1 ∧ i = .int .i64 (j : Int) ∧ wr = w2) (fun i _ => 1 - (intOf i).toNat)
  case atStart => exact ⟨0, by omega, rfl, rfl⟩
  case round =>
    obtain ⟨j, hj, rfl, rfl⟩ := hrel
    by_cases h0 : j = 0
    · subst h0
      go_wp2_with fail
      exact ⟨⟨1, by omega, by simp, by simp⟩, by simp [intOf]⟩
    · obtain rfl : j = 1 := by omega
      go_wp2_with fail
      exact bodyPost_ret (res62_run rfl rfl rfl) rfl ⟨_, rfl, hb02⟩
end Go.Proofs.YtgefbgpfjbbeaaaGreatDoor

namespace Go.Proofs.YtgefbgpfjbbeaaaGreatDoor
open Go.RowKit Go.Vf

theorem load_idle (p q r : Addr) (w : World) :
    CallsD Tryz.prog 29 #[.pointer (some p), .pointer (some q), .pointer (some r)] .returning w fun e u' w' => e = .returned (.tuple #[]) ∧ u' = .returning ∧ w' = w := by
  refine callsD_of_wpS Tryz.func29 rfl fun c₀ cs hu => ?_
  apply wpS_seq
  apply wpS_region
  simp [wpOpsS, go_sem, recoverD, hu, Tryz.ntmps29, Exit.thenS]
  apply wpS_seq
  apply wpS_region
  simp [wpOpsS, go_sem, Exit.thenS]
  refine wpS_cond (t := false) (by simp [Act.eval, Array.replicate]) ?_
  simp only [Bool.false_eq_true, if_false]
  refine wpS_of_wp (wp_skip ?_)
  cases c₀
  simp_all [bodyPostS, results, Tryz.results29]

/-- The three variables of Load's results. -/
structure Three (w : World) (h : Nat) (d : Option Addr) (e n : Int) : Prop where
  b0 : Blk w h 59 #[.pointer d]
  b1 : Blk w (h + 1) 32 #[.int .i64 e]
  b2 : Blk w (h + 1 + 1) 3 #[.int .i64 n]

theorem Three.lt {w : World} {h : Nat} {d : Option Addr} {e n : Int} (h3 : Three w h d e n) : h + 1 + 1 < w.heap.size := h3.b2.lt
theorem Three.below {w w' : World} {B h : Nat} {d : Option Addr} {e n : Int} (h3 : Three w h d e n) (hb : Below B w w') (hB : h + 1 + 1 < B) : Three w' h d e n :=
  ⟨h3.b0.below hb (by omega), h3.b1.below hb (by omega), h3.b2.below hb hB⟩
theorem Three.set {w : World} {h : Nat} {d : Option Addr} {e n : Int} (h3 : Three w h d e n) (d' : Option Addr) (e' n' : Int) :
    Three (((w.setCell ⟨h, 0, none⟩ (.pointer d')).setCell ⟨h + 1, 0, none⟩ (.int .i64 e')).setCell ⟨h + 1 + 1, 0, none⟩ (.int .i64 n')) h d' e' n' ∧
    Below h w (((w.setCell ⟨h, 0, none⟩ (.pointer d')).setCell ⟨h + 1, 0, none⟩ (.int .i64 e')).setCell ⟨h + 1 + 1, 0, none⟩ (.int .i64 n')) := by
  refine ⟨⟨?_, ?_, ?_⟩, ?_⟩
  · have := h3.b0.set 0 (.pointer d')
    refine ((Below.heap_setCell _ ⟨h + 1 + 1, 0, none⟩ _ h (by show h ≠ h + 1 + 1; omega)).trans ((Below.heap_setCell _ ⟨h + 1, 0, none⟩ _ h (by show h ≠ h + 1; omega)).trans ?_))
    simpa [Blk] using this
  · have h1 : Blk (w.setCell ⟨h, 0, none⟩ (.pointer d')) (h + 1) 32 #[.int .i64 e] := (Below.heap_setCell _ ⟨h, 0, none⟩ _ (h + 1) (by show h + 1 ≠ h; omega)).trans h3.b1
    have := h1.set 0 (.int .i64 e')
    refine ((Below.heap_setCell _ ⟨h + 1 + 1, 0, none⟩ _ (h + 1) (by show h + 1 ≠ h + 1 + 1; omega)).trans ?_)
    simpa [Blk] using this
  · have h1 : Blk ((w.setCell ⟨h, 0, none⟩ (.pointer d')).setCell ⟨h + 1, 0, none⟩ (.int .i64 e')) (h + 1 + 1) 3 #[.int .i64 n] := (Below.heap_setCell _ ⟨h + 1, 0, none⟩ _ (h + 1 + 1) (by show h + 1 + 1 ≠ h + 1; omega)).trans ((Below.heap_setCell _ ⟨h, 0, none⟩ _ (h + 1 + 1) (by show h + 1 + 1 ≠ h; omega)).trans h3.b2)
    have := h1.set 0 (.int .i64 n')
    simpa [Blk] using this
  · exact (((Below.refl h w).setCell (p := ⟨h, 0, none⟩) (Nat.le_refl _) _).setCell (p := ⟨h + 1, 0, none⟩) (Nat.le_succ _) _).setCell (p := ⟨h + 1 + 1, 0, none⟩) (by show h ≤ h + 1 + 1; omega) _

structure ThreeC (w : World) (h : Nat) (d : Option Addr) (e n : Int) : Prop where
  c0 : w.cell? ⟨h, 0, none⟩ = some (.pointer d)
  c1 : w.cell? ⟨h + 1, 0, none⟩ = some (.int .i64 e)
  c2 : w.cell? ⟨h + 1 + 1, 0, none⟩ = some (.int .i64 n)
  f0 : w.frozen? ⟨h, 0, none⟩ = false
  f1 : w.frozen? ⟨h + 1, 0, none⟩ = false
  f2 : w.frozen? ⟨h + 1 + 1, 0, none⟩ = false
theorem Three.cells {w : World} {h : Nat} {d : Option Addr} {e n : Int} (h3 : Three w h d e n) : ThreeC w h d e n :=
  ⟨h3.b0.cell 0, h3.b1.cell 0, h3.b2.cell 0, h3.b0.frozen 0, h3.b1.frozen 0, h3.b2.frozen 0⟩

theorem load_results {tmps : Array Value} {w : World} {h : Nat} {d : Option Addr} {e n : Int} (h3 : Three w h d e n) (t2 : tmps[2]?.getD undef = .pointer (some ⟨h, 0, none⟩)) (t3 : tmps[3]?.getD undef = .pointer (some ⟨h + 1, 0, none⟩)) (t4 : tmps[4]?.getD undef = .pointer (some ⟨h + 1 + 1, 0, none⟩)) :
    (results Tryz.f18 tmps).run Tryz.prog w = .ok (.tuple #[.pointer d, .int .i64 e, .int .i64 n]) w := by
  obtain ⟨c0, c1, c2, f0, f1, f2⟩ := h3.cells
  simp [results, Tryz.results18, go_sem, t2, t3, t4, c0, c1, c2]

theorem Three.setD {w : World} {h : Nat} {d : Option Addr} {e n : Int} (h3 : Three w h d e n) (d' : Option Addr) : Three (w.setCell ⟨h, 0, none⟩ (.pointer d')) h d' e n :=
  ⟨by simpa [Blk] using h3.b0.set 0 (.pointer d'), (Below.heap_setCell _ ⟨h, 0, none⟩ _ (h + 1) (by show h + 1 ≠ h; omega)).trans h3.b1, (Below.heap_setCell _ ⟨h, 0, none⟩ _ (h + 1 + 1) (by show h + 1 + 1 ≠ h; omega)).trans h3.b2⟩
theorem three_new (w : World) : Three (((w.alloc (.cells #[.pointer none] 59)).alloc (.cells #[.int .i64 0] 32)).alloc (.cells #[.int .i64 0] 3)) w.heap.size none 0 0 := by
  refine ⟨?_, ?_, ?_⟩
  · exact (Below.heap_alloc _ _ _ (by simp; omega)).trans ((Below.heap_alloc _ _ _ (by simp)).trans (Blk.new w 59 #[.pointer none]))
  · have := Blk.new (w.alloc (.cells #[.pointer none] 59)) 32 #[.int .i64 0]
    rw [show (w.alloc (.cells #[.pointer none] 59)).heap.size = w.heap.size + 1 by simp] at this
    exact (Below.heap_alloc _ _ _ (by simp)).trans this
  · have := Blk.new ((w.alloc (.cells #[.pointer none] 59)).alloc (.cells #[.int .i64 0] 32)) 3 #[.int .i64 0]
    rw [show ((w.alloc (.cells #[.pointer none] 59)).alloc (.cells #[.int .i64 0] 32)).heap.size = w.heap.size + 1 + 1 by simp] at this
    exact this


set_option maxHeartbeats 4000000 in
set_option maxRecDepth 20000 in
theorem uload0 (w : World) : Calls Tryz.prog 18 #[.string ⟨#[]⟩] w fun e w' => ∃ b, e = .returned (.tuple #[.pointer (some ⟨b, 0, none⟩), .int .i64 0, .int .i64 0]) ∧ Below w.heap.size w w' := by
  have hmf : ∀ (fn : Fn) (first cap : Array Value) (w : World), (Instr.makeFunc fn first cap).run Tryz.prog w = .ok (.func fn first cap) w := fun _ _ _ _ => rfl
  have hmm := @run_makeMap Tryz.prog
  have h3 := three_new w
  have hbel := (((Below.refl w.heap.size w).alloc (Nat.le_refl _) (.cells #[.pointer none] 59)).alloc (by simp) (.cells #[.int .i64 0] 32)).alloc (by simp; omega) (.cells #[.int .i64 0] 3)
  go_enter_defers Tryz.func18, Tryz.ntmps18
  go_upto_region 4 with fail
  generalize ((w.alloc (.cells #[.pointer none] 59)).alloc (.cells #[.int .i64 0] 32)).alloc (.cells #[.int .i64 0] 3) = W3 at h3 hbel ⊢
  have hlt3 := h3.lt
  have hb5 : Below W3.heap.size W3 ((W3.alloc (.map #[] 0)).alloc (.cells #[.int .i64 0, .map (some W3.heap.size), .slice none 0 0] 90)) := ((Below.refl _ W3).alloc (Nat.le_refl _) _).alloc (by simp) _
  have hR5 := Blk.new (W3.alloc (.map #[] 0)) 90 #[.int .i64 0, .map (some W3.heap.size), .slice none 0 0]
  rw [show (W3.alloc (.map #[] 0)).heap.size = W3.heap.size + 1 by simp] at hR5
  have h35 := h3.below hb5 hlt3
  go_wp2_with fail
  generalize (W3.alloc (.map #[] 0)).alloc (.cells #[.int .i64 0, .map (some W3.heap.size), .slice none 0 0] 90) = W5 at hR5 hb5 h35 ⊢
  refine (readLines0 (W3.heap.size + 1) (.map (some W3.heap.size)) W5 hR5).mono ?_
  rintro _ w6 ⟨rfl, hR6, hb6⟩
  have hb36 := hb5.trans (hb6.mono (Nat.le_succ _))
  have h36 := h3.below hb36 hlt3
  have hbw6 : Below w.heap.size w w6 := hbel.trans (hb36.mono hbel.size)
  have hz6 := hb36.size
  have c1 : w6.cell? ⟨W3.heap.size + 1, 1, none⟩ = some (.map (some W3.heap.size)) := hR6.cell 1
  have c2 : w6.cell? ⟨W3.heap.size + 1, 2, none⟩ = some (.slice none 0 0) := hR6.cell 2
  clear hR5 hb5 h35 hb6 h3
  go_wp2_with fail
  refine (needNoLoop0 W3.heap.size w6).mono ?_
  rintro _ w7 ⟨rfl, hb7⟩
  have h37 := h36.below hb7 (by omega)
  have hbw7 : Below w.heap.size w w7 := hbw6.trans (hb7.mono hbw6.size)
  have hR7 := hR6.old hb7
  have hz7 := hb7.size
  clear c1 c2
  have d1 : w7.cell? ⟨W3.heap.size + 1, 1, none⟩ = some (.map (some W3.heap.size)) := hR7.cell 1
  have hb8a := (Below.refl w7.heap.size w7).alloc (Nat.le_refl _) (.cells #[.map (some W3.heap.size)] 94)
  have h38a := h37.below hb8a h37.lt
  have hR8a := hR7.old hb8a
  obtain ⟨q0, _, _, f0, _, _⟩ := h38a.cells
  have h38 := h38a.setD (some ⟨w7.heap.size, 0, none⟩)
  have hR8 := hR8a.other (p := ⟨w.heap.size, 0, none⟩) (by show W3.heap.size + 1 ≠ w.heap.size; omega) (.pointer (some ⟨w7.heap.size, 0, none⟩))
  have hbw8 : Below w.heap.size w ((w7.alloc (.cells #[.map (some W3.heap.size)] 94)).setCell ⟨w.heap.size, 0, none⟩ (.pointer (some ⟨w7.heap.size, 0, none⟩))) := (hbw7.trans (hb8a.mono hbw7.size)).setCell (p := ⟨w.heap.size, 0, none⟩) (Nat.le_refl _) _
  clear h36 hR6 hR7 hb8a
  go_upto_region 8 with fail
  generalize (w7.alloc (.cells #[.map (some W3.heap.size)] 94)).setCell ⟨w.heap.size, 0, none⟩ (.pointer (some ⟨w7.heap.size, 0, none⟩)) = W8 at h38 hR8 hbw8 ⊢
  generalize w7.heap.size = bd at h38 ⊢
  clear d1 q0 f0 h37 h38a hR8a
  have q8 : W8.cell? ⟨w.heap.size, 0, none⟩ = some (.pointer (some ⟨bd, 0, none⟩)) := h38.b0.cell 0
  have r8 : W8.cell? ⟨W3.heap.size + 1, 2, none⟩ = some (.slice none 0 0) := hR8.cell 2
  go_wp2_with fail
  refine (fillEnds0 bd W8).mono ?_
  rintro _ w9 ⟨rfl, rfl⟩
  go_wp2_with fail
  refine (needShort0 bd w9).mono ?_
  rintro _ w10 ⟨rfl, rfl⟩
  have h4 := h38.set (some ⟨bd, 0, none⟩) 0 0
  obtain ⟨z0, z1, z2, zf0, zf1, zf2⟩ := h38.cells
  clear q8 r8
  go_wp2
  refine leaves_cons (f := 29) (args := #[.pointer (some ⟨w.heap.size, 0, none⟩), .pointer (some ⟨w.heap.size + 1, 0, none⟩), .pointer (some ⟨w.heap.size + 1 + 1, 0, none⟩)]) (by simp) (by simp [go_sem]) ?_
  refine (load_idle _ _ _ _).mono ?_
  rintro e u' w'' ⟨rfl, rfl, rfl⟩
  exact ⟨_, load_results h4.1 rfl rfl rfl, bd, rfl, hbw8.trans h4.2⟩
theorem res33_run {tmps : Array Value} {w : World} {v2 v3 v4 v5 : Value} (t2 : tmps[4]?.getD undef = v2) (t3 : tmps[5]?.getD undef = v3) (t4 : tmps[6]?.getD undef = v4) (t5 : tmps[7]?.getD undef = v5) : (results Tryz.f13 tmps).run Tryz.prog w = .ok (.tuple #[v2, v3, v4, v5]) w := by
  simp [results, Tryz.results13, go_sem, t2, t3, t4, t5]
set_option maxHeartbeats 2000000 in
theorem wload0 (w : World) : Calls Tryz.prog 13 #[.string ⟨#[]⟩, .string ⟨#[]⟩] w fun e w' => ∃ b, e = .returned (.tuple #[.pointer (some ⟨b, 0, none⟩), .int .i64 0, .int .i64 0, .int .i64 0]) ∧ Below w.heap.size w w' := by
  have h1 := uload0 w
  go_enter Tryz.func13, Tryz.ntmps13
  go_wp2_with fail
  refine h1.mono ?_
  rintro _ w2 ⟨b, rfl, hb2⟩
  have h2 := tload0 w2
  go_wp2_with fail
  refine h2.mono ?_
  rintro _ w3 ⟨b3, rfl, hb3⟩
  have hb03 := hb2.trans (hb3.mono hb2.size)
  have hb04 := hb03.alloc hb03.size (.cells #[.pointer (some ⟨b, 0, none⟩), .pointer (some ⟨b3, 0, none⟩)] 66)
  clear h1 h2
  go_wp2_with fail
  exact bodyPost_ret (res33_run rfl rfl rfl rfl) rfl ⟨_, rfl, hb04⟩
end Go.Proofs.YtgefbgpfjbbeaaaGreatDoor
