/- What ucd.Load does (a contract; nothing is claimed here). -/
import Derived.Test.YtkcnjnccdafbfaaGreatDoorJ6
namespace Go.Proofs.YtkcnjnccdafbfaaGreatDoor
open Go.RowKit Go.Vf Go.Maps
theorem load_idle (p q r : Addr) (w : World) :
  CallsD Tryz.prog 53 #[.pointer (some p), .pointer (some q), .pointer (some r)] .returning w fun e u' w' => e = .returned (.tuple #[]) ∧ u' = .returning ∧ w' = w := by
 refine callsD_of_wpS Tryz.func53 rfl fun c₀ cs hu => ?_
 apply wpS_seq
 apply wpS_region
 simp [wpOpsS, go_sem, recoverD, hu, Tryz.ntmps53, Exit.thenS]
 apply wpS_seq
 apply wpS_region
 simp [wpOpsS, go_sem, Exit.thenS]
 refine wpS_cond (t := false) (by simp [Act.eval, Array.replicate]) ?_
 simp only [Bool.false_eq_true, if_false]
 refine wpS_of_wp (wp_skip ?_)
 cases c₀
 simp_all [bodyPostS, results, Tryz.results53]
structure Three (w : World) (h : Nat) (d : Option Addr) (e n : Int) : Prop where
 b0 : Blk w h 25 #[.pointer d]
 b1 : Blk w (h + 1) 32 #[.int .i64 e]
 b2 : Blk w (h + 1 + 1) 3 #[.int .i64 n]
theorem Three.lt {w : World} {h : Nat} {d : Option Addr} {e n : Int} (h3 : Three w h d e n) : h + 1 + 1 < w.heap.size := h3.b2.lt
theorem Three.below {w w' : World} {B h : Nat} {d : Option Addr} {e n : Int} (h3 : Three w h d e n) (hb : Below B w w') (hB : h + 1 + 1 < B) : Three w' h d e n :=
 ⟨h3.b0.below hb (by omega), h3.b1.below hb (by omega), h3.b2.below hb hB⟩
theorem Three.set {w : World} {h : Nat} {d : Option Addr} {e n : Int} (h3 : Three w h d e n) (d' : Option Addr) (e' n' : Int) :
  Three (((w.setCell ⟨h, 0, none⟩ (.pointer d')).setCell ⟨h + 1, 0, none⟩ (.int .i64 e')).setCell ⟨h + 1 + 1, 0, none⟩ (.int .i64 n')) h d' e' n' ∧
  Below h w (((w.setCell ⟨h, 0, none⟩ (.pointer d')).setCell ⟨h + 1, 0, none⟩ (.int .i64 e')).setCell ⟨h + 1 + 1, 0, none⟩ (.int .i64 n')) := by
 refine ⟨⟨?_, ?_, ?_⟩, ?_⟩
 ·
  have := h3.b0.set 0 (.pointer d')
  refine ((Below.heap_setCell _ ⟨h + 1 + 1, 0, none⟩ _ h (by show h ≠ h + 1 + 1; omega)).trans ((Below.heap_setCell _ ⟨h + 1, 0, none⟩ _ h (by show h ≠ h + 1; omega)).trans ?_))
  simpa [Blk] using this
 ·
  have h1 : Blk (w.setCell ⟨h, 0, none⟩ (.pointer d')) (h + 1) 32 #[.int .i64 e] := (Below.heap_setCell _ ⟨h, 0, none⟩ _ (h + 1) (by show h + 1 ≠ h; omega)).trans h3.b1
  have := h1.set 0 (.int .i64 e')
  refine ((Below.heap_setCell _ ⟨h + 1 + 1, 0, none⟩ _ (h + 1) (by show h + 1 ≠ h + 1 + 1; omega)).trans ?_)
  simpa [Blk] using this
 ·
  have h1 : Blk ((w.setCell ⟨h, 0, none⟩ (.pointer d')).setCell ⟨h + 1, 0, none⟩ (.int .i64 e')) (h + 1 + 1) 3 #[.int .i64 n] := (Below.heap_setCell _ ⟨h + 1, 0, none⟩ _ (h + 1 + 1) (by show h + 1 + 1 ≠ h + 1; omega)).trans ((Below.heap_setCell _ ⟨h, 0, none⟩ _ (h + 1 + 1) (by show h + 1 + 1 ≠ h; omega)).trans h3.b2)
  have := h1.set 0 (.int .i64 n')
  simpa [Blk] using this
 ·
  exact (((Below.refl h w).setCell (p := ⟨h, 0, none⟩) (Nat.le_refl _) _).setCell (p := ⟨h + 1, 0, none⟩) (Nat.le_succ _) _).setCell (p := ⟨h + 1 + 1, 0, none⟩) (by show h ≤ h + 1 + 1; omega) _
structure ThreeC (w : World) (h : Nat) (d : Option Addr) (e n : Int) : Prop where
 c0 : w.cell? ⟨h, 0, none⟩ = some (.pointer d)
 c1 : w.cell? ⟨h + 1, 0, none⟩ = some (.int .i64 e)
 c2 : w.cell? ⟨h + 1 + 1, 0, none⟩ = some (.int .i64 n)
 f0 : w.frozen? ⟨h, 0, none⟩ = false
 f1 : w.frozen? ⟨h + 1, 0, none⟩ = false
 f2 : w.frozen? ⟨h + 1 + 1, 0, none⟩ = false
theorem Three.cells {w : World} {h : Nat} {d : Option Addr} {e n : Int} (h3 : Three w h d e n) : ThreeC w h d e n :=
 ⟨h3.b0.cell 0, h3.b1.cell 0, h3.b2.cell 0, h3.b0.frozen 0, h3.b1.frozen 0, h3.b2.frozen 0⟩
set_option maxHeartbeats 1000000 in
theorem load_catch (h : Nat) (why line : Int) (d : Option Addr) (e0 n0 : Int) (w : World) (h3 : Three w h d e0 n0) :
  CallsD Tryz.prog 53 #[.pointer (some ⟨h, 0, none⟩), .pointer (some ⟨h + 1, 0, none⟩), .pointer (some ⟨h + 1 + 1, 0, none⟩)] (.panicking [{ v := lostV why line, recovered := false }]) w fun e u' w' =>
   e = .returned (.tuple #[]) ∧ u' = .panicking [{ v := lostV why line, recovered := true }] ∧ Three w' h none why line ∧ Below h w w' := by
 have hta : ∀ w : World, (Instr.typeAssert (lostV why line) 20 119 false).run Tryz.prog w = .ok (.agg #[.int .i64 why, .int .i64 line]) w := fun w => by kernel_rfl
 have hb0 := (Below.refl w.heap.size w).alloc (Nat.le_refl _) (.cells #[.int .i64 why, .int .i64 line] 119)
 have b0 : (w.alloc (.cells #[.int .i64 why, .int .i64 line] 119)).cell? ⟨w.heap.size, 0, none⟩ = some (.int .i64 why) := by simp
 have b1 : (w.alloc (.cells #[.int .i64 why, .int .i64 line] 119)).cell? ⟨w.heap.size, 1, none⟩ = some (.int .i64 line) := by simp
 refine callsD_of_wpS Tryz.func53 rfl fun c₀ cs hu => ?_
 apply wpS_seq
 apply wpS_region
 simp [wpOpsS, go_sem, recoverD, hu, Tryz.ntmps53, Exit.thenS, Array.replicate]
 apply wpS_seq
 apply wpS_region
 simp [wpOpsS, go_sem, Exit.thenS]
 refine wpS_cond (t := true) (by simp [Act.eval]) ?_
 simp only [if_true]
 refine wpS_of_wp ?_
 go_wp2
 have h3' := h3.below hb0 h3.lt
 generalize w.alloc (.cells #[.int .i64 why, .int .i64 line] 119) = W at hb0 b0 b1 h3' ⊢
 have h4 := h3'.set none why line
 have hne : ¬ w.heap.size = h := by have := h3.lt; omega
 have hne1 : ¬ w.heap.size = h + 1 := by have := h3.lt; omega
 have hne2 : ¬ w.heap.size = h + 1 + 1 := by have := h3.lt; omega
 have hne3 : ¬ h = w.heap.size := by omega
 have hne4 : ¬ h + 1 = w.heap.size := by omega
 have hne5 : ¬ h + 1 + 1 = w.heap.size := by omega
 have hbW : Below h w W := hb0.mono (by have := h3.lt; omega)
 obtain ⟨c0, c1, c2, f0, f1, f2⟩ := h3'.cells
 clear h3 h3'
 go_region
 exact ⟨rfl, _, rfl, _, by simp [results, Tryz.results53], rfl, rfl, ⟨h4.1.b0, h4.1.b1, h4.1.b2⟩, (hbW.trans h4.2).drew⟩
theorem load_results {tmps : Array Value} {w : World} {h : Nat} {d : Option Addr} {e n : Int} (h3 : Three w h d e n) (t2 : tmps[2]?.getD undef = .pointer (some ⟨h, 0, none⟩)) (t3 : tmps[3]?.getD undef = .pointer (some ⟨h + 1, 0, none⟩)) (t4 : tmps[4]?.getD undef = .pointer (some ⟨h + 1 + 1, 0, none⟩)) :
  (results Tryz.f22 tmps).run Tryz.prog w = .ok (.tuple #[.pointer d, .int .i64 e, .int .i64 n]) w := by
 obtain ⟨c0, c1, c2, f0, f1, f2⟩ := h3.cells
 simp [results, Tryz.results22, go_sem, t2, t3, t4, c0, c1, c2]
theorem Three.setD {w : World} {h : Nat} {d : Option Addr} {e n : Int} (h3 : Three w h d e n) (d' : Option Addr) : Three (w.setCell ⟨h, 0, none⟩ (.pointer d')) h d' e n :=
 ⟨by simpa [Blk] using h3.b0.set 0 (.pointer d'), (Below.heap_setCell _ ⟨h, 0, none⟩ _ (h + 1) (by show h + 1 ≠ h; omega)).trans h3.b1, (Below.heap_setCell _ ⟨h, 0, none⟩ _ (h + 1 + 1) (by show h + 1 + 1 ≠ h; omega)).trans h3.b2⟩
theorem RD.setLow {w : World} {base b bm : Nat} {line : Int} {vp : Value} {pv : Int → Value} {L : List Mk} (h : RD w base b bm line vp pv L) {p : Addr} (hp : p.block < base) (u : Value) : RD (w.setCell p u) base b bm line vp pv L :=
 ⟨(Below.heap_setCell w p u b (by have := h.bge; omega)).trans h.blk, h.bge, h.mge, h.mp.setCell (by have := h.mge; omega) u, fun m hm => own_setCell (h.parts m hm) hp u, own_setCell h.places hp u⟩
theorem blk_ne {w : World} {b1 b2 : Nat} {t1 t2 : TypeId} {c1 c2 : Array Value} (h1 : Blk w b1 t1 c1) (h2 : Blk w b2 t2 c2) (ht : t1 ≠ t2) : b1 ≠ b2 := by
 rintro rfl
 have e := (show w.heap[b1]? = _ from h1).symm.trans h2
 simp only [Option.some.injEq, Obj.cells.injEq] at e
 exact ht e.2.1
def DataAt (w : World) (bd : Nat) (L : List Mk) (E : Int → List Int) : Prop := ∃ bm n pv ev, Blk w bd 117 #[.map (some bm)] ∧ DD w bm n pv ev L E ∧ n ≤ 3000000 ∧ (L.map Mk.point).Nodup ∧ L.length ≤ 4096 ∧ ∀ m ∈ L, MkOk m
theorem DataAt.below {w w' : World} {bd : Nat} {L : List Mk} {E : Int → List Int} (h : DataAt w bd L E) (hb : Below w.heap.size w w') : DataAt w' bd L E := by
 obtain ⟨bm, n, pv, ev, h1, h2, h3⟩ := h
 exact ⟨bm, n, pv, ev, h1.below hb h1.lt, h2.below hb, h3⟩
def LoadPost (r : Except (Int × Int) (List Mk × (Int → List Int))) (w : World) (e : Ending) (w' : World) : Prop :=
 Below w.heap.size w w' ∧ match r with
  | .error (why, line) => e = .returned (.tuple #[.pointer none, .int .i64 why, .int .i64 line])
  | .ok (L, E) => ∃ bd, e = .returned (.tuple #[.pointer (some ⟨bd, 0, none⟩), .int .i64 0, .int .i64 0]) ∧ DataAt w' bd L E
theorem three_new (w : World) : Three (((w.alloc (.cells #[.pointer none] 25)).alloc (.cells #[.int .i64 0] 32)).alloc (.cells #[.int .i64 0] 3)) w.heap.size none 0 0 := by
 refine ⟨?_, ?_, ?_⟩
 ·
  exact (Below.heap_alloc _ _ _ (by simp; omega)).trans ((Below.heap_alloc _ _ _ (by simp)).trans (Blk.new w 25 #[.pointer none]))
 ·
  have := Blk.new (w.alloc (.cells #[.pointer none] 25)) 32 #[.int .i64 0]
  rw [show (w.alloc (.cells #[.pointer none] 25)).heap.size = w.heap.size + 1 by simp] at this
  exact (Below.heap_alloc _ _ _ (by simp)).trans this
 ·
  have := Blk.new ((w.alloc (.cells #[.pointer none] 25)).alloc (.cells #[.int .i64 0] 32)) 3 #[.int .i64 0]
  rw [show ((w.alloc (.cells #[.pointer none] 25)).alloc (.cells #[.int .i64 0] 32)).heap.size = w.heap.size + 1 + 1 by simp] at this
  exact this
theorem rd_new (w : World) : RD ((w.alloc (.map #[] 0)).alloc (.cells #[.int .i64 0, .map (some w.heap.size), .slice none 0 0] 122)) w.heap.size (w.heap.size + 1) w.heap.size 0 (.slice none 0 0) (fun _ => .slice none 0 0) [] := by
 refine ⟨?_, by omega, by omega, (MapAt.made w).alloc _, by simp, World.ownsRow_nil _ _ _ _⟩
 have := Blk.new (w.alloc (.map #[] 0)) 122 #[.int .i64 0, .map (some w.heap.size), .slice none 0 0]
 rw [show (w.alloc (.map #[] 0)).heap.size = w.heap.size + 1 by simp] at this
 exact this
theorem may_in {x : Int} (h : mayB x = true) : InI x := by
 simp [mayB] at h
 unfold InI; omega
theorem RD.md {w : World} {base b bm : Nat} {line : Int} {vp : Value} {pv : Int → Value} {L : List Mk} (h : RD w base b bm line vp pv L) (hok : ∀ m ∈ L, MkOk m) (hs : sumP L ≤ 65537) : MD w w.heap.size bm L.length pv L :=
 ⟨h.mp, h.mp.lt, fun m hm => ⟨(h.parts m hm).ints, by have := sumP_mem hm; omega⟩, fun m hm => ⟨may_in (hok m hm).1, fun q hq => may_in ((hok m hm).2.1 q hq)⟩⟩
theorem RD.dd {w : World} {base b bm : Nat} {line : Int} {vp : Value} {pv : Int → Value} {L : List Mk} (h : RD w base b bm line vp pv L) (hok : ∀ m ∈ L, MkOk m) (hs : sumP L ≤ 65537) : DD w bm L.length pv (fun _ => .slice none 0 0) L (fun _ => []) :=
 ⟨h.mp, fun m hm => ⟨(h.parts m hm).ints, by have := sumP_mem hm; omega⟩, fun m _ => ⟨.inl ⟨_, _, rfl, rfl⟩, by simp⟩, fun m hm => ⟨may_in (hok m hm).1, fun q hq => may_in ((hok m hm).2.1 q hq)⟩, fun _ _ => rfl⟩
set_option maxHeartbeats 4000000 in
set_option maxRecDepth 20000 in
theorem load_any (s : ByteArray) (m : Int) (w : World) (hm : w.cell? ⟨0, 0, none⟩ = some (.int .i64 m)) (hbig : s.size ≤ 281474976710656) :
  Calls Tryz.prog 22 #[.string s] w fun e w' => LoadPost (loadR s.data.toList) w e w' := by
 have hmf : ∀ (fn : Fn) (first cap : Array Value) (w : World), (Instr.makeFunc fn first cap).run Tryz.prog w = .ok (.func fn first cap) w := fun _ _ _ _ => rfl
 have hmm := @run_makeMap Tryz.prog
 have hsl : s.data.toList.length = s.size := (Lib.size_eq s).symm
 have hlt0 : 0 < w.heap.size := World.block_lt_of_cell? w _ hm
 have h3 := three_new w
 have hbel := (((Below.refl w.heap.size w).alloc (Nat.le_refl _) (.cells #[.pointer none] 25)).alloc (by simp) (.cells #[.int .i64 0] 32)).alloc (by simp; omega) (.cells #[.int .i64 0] 3)
 by_cases hlong : 65536 < s.size
 ·
  have hR : loadR s.data.toList = .error (2, 0) := by unfold loadR; rw [if_pos (by omega)]
  rw [hR]
  have h4 := h3.set none 2 0
  obtain ⟨c0, c1, c2, f0, f1, f2⟩ := h3.cells
  go_enter_defers Tryz.func22, Tryz.ntmps22
  go_wp2
  simp [bodyPostD, Leaves, results, Tryz.results22, go_sem]
  exact ⟨(((Below.refl w.heap.size w).alloc (Nat.le_refl _) _).alloc (by simp) _).alloc (by simp; omega) _, rfl⟩
 ·
  have hs : s.size ≤ 65536 := by omega
  have hR : loadR s.data.toList = match linesR (cutL 10 s.data.toList) 0 [] with
   | .error e => .error e
   | .ok L => match walkF (partsAt L) 200000 (L.map Mk.point) TS.empty with
    | none => .error (0, 0)
    | some S => match L.find? (fun m => decide (S.loops m.point > 0)) with
     | some m => .error (42, m.line)
     | none => match L.find? (fun m => decide (18 < (fillF (hasAt L) (partsAt L) S.ord (fun _ => []) m.point).length)) with
      | some m => .error (43, m.line)
      | none => .ok (L, fillF (hasAt L) (partsAt L) S.ord (fun _ => [])) := by unfold loadR; rw [if_neg (by omega)]; rfl
  have htot := fun L => load_total (t := s.data.toList) (L := L) (by omega)
  generalize hQ : loadR s.data.toList = Q at hR
  generalize hLR : linesR (cutL 10 s.data.toList) 0 [] = LR at hR htot
  have HLR : Hid (linesR (cutL 10 s.data.toList) 0 [] = LR) := hLR
  have HT : Hid (∀ L, LR = .ok L → (∀ m ∈ L, MkOk m) ∧ (L.map Mk.point).Nodup ∧ L.length ≤ 4096 ∧ sumP L ≤ 65537 ∧ L.length + sumP L ≤ 200000) := htot
  clear hLR hQ htot
  go_enter_defers Tryz.func22, Tryz.ntmps22
  go_upto_region 4 with fail
  generalize ((w.alloc (.cells #[.pointer none] 25)).alloc (.cells #[.int .i64 0] 32)).alloc (.cells #[.int .i64 0] 3) = W3 at h3 hbel ⊢
  have hlt3 := h3.lt
  have hrd := rd_new W3
  have hb5 : Below W3.heap.size W3 ((W3.alloc (.map #[] 0)).alloc (.cells #[.int .i64 0, .map (some W3.heap.size), .slice none 0 0] 122)) := ((Below.refl _ W3).alloc (Nat.le_refl _) _).alloc (by simp) _
  have hm5 := (hb5.cell (p := ⟨0, 0, none⟩) (by show 0 < W3.heap.size; omega)).trans ((hbel.cell (p := ⟨0, 0, none⟩) hlt0).trans hm)
  have h35 := h3.below hb5 hlt3
  go_wp2_with fail
  generalize (W3.alloc (.map #[] 0)).alloc (.cells #[.int .i64 0, .map (some W3.heap.size), .slice none 0 0] 122) = W5 at hrd hb5 hm5 h35 ⊢
  generalize W3.heap.size + 1 = br at hrd ⊢
  refine (readLines_any W3.heap.size br W3.heap.size s m _ _ W5 hs (by omega) hm5 hb5.size hrd).mono ?_
  rw [HLR.out]
  rintro e w6 ⟨hb6, hpost⟩
  have h36 := h35.below hb6 hlt3
  have hbw6 : Below w.heap.size w w6 := hbel.trans ((hb5.trans hb6).mono hbel.size)
  have hs36 : W3.heap.size ≤ w6.heap.size := (hb5.trans hb6).size
  clear hrd hb5 hm5 h35 HLR
  cases LR with
  | error q =>
   obtain ⟨why, line⟩ := q
   obtain rfl := hpost
   have HQ : Hid (Q = .error (why, line)) := hR
   clear hR
   go_wp2
   refine leaves_cons (f := 53) (args := #[.pointer (some ⟨w.heap.size, 0, none⟩), .pointer (some ⟨w.heap.size + 1, 0, none⟩), .pointer (some ⟨w.heap.size + 1 + 1, 0, none⟩)]) (by simp) (by simp [go_sem]) ?_
   refine (load_catch w.heap.size why line _ _ _ _ h36).mono ?_
   rintro e u' w'' ⟨rfl, rfl, h4, hb4⟩
   exact ⟨_, load_results h4 rfl rfl rfl, hbw6.trans hb4, by rw [HQ.out]⟩
  | ok L =>
   obtain ⟨rfl, n, vp, pv, hrd6, hL4⟩ := hpost
   obtain ⟨hok, hnd, hlen, hsum, htot⟩ := HT.out L rfl
   obtain ⟨S, hw, hinv, hmet⟩ := walk_total htot
   simp only [hw] at hR
   have c1 := hrd6.c1
   have c2 := hrd6.c2
   obtain ⟨av, cv, rfl⟩ := row_val hrd6.places
   have hmd6 := hrd6.md hok hsum
   have HR : Hid (Q = match L.find? (fun m => decide (S.loops m.point > 0)) with
     | some m => .error (42, m.line)
     | none => match L.find? (fun m => decide (18 < (fillF (hasAt L) (partsAt L) S.ord (fun _ => []) m.point).length)) with
      | some m => .error (43, m.line)
      | none => .ok (L, fillF (hasAt L) (partsAt L) S.ord (fun _ => []))) := hR
   have HW : Hid (walkF (partsAt L) 200000 (L.map Mk.point) TS.empty = some S) := hw
   clear hR hw HT
   go_wp2_with fail
   refine (needNoLoop_any W3.heap.size L.length 200000 _ pv L S w6 hlen (PL.of hrd6.places) hmd6 HW.out).mono ?_
   rintro e w7 ⟨hb7, hpost7⟩
   have h37 := h36.below hb7 (by omega)
   have hbw7 : Below w.heap.size w w7 := hbw6.trans (hb7.mono hbw6.size)
   have hrd7 := hrd6.below hb7
   cases hF : L.find? (fun m => decide (S.loops m.point > 0)) with
   | some mk =>
    rw [hF] at hpost7
    obtain rfl := hpost7
    have HQ : Hid (Q = .error (42, mk.line)) := by show _ = _; rw [HR.out, hF]
    clear HR HW
    go_wp2
    refine leaves_cons (f := 53) (args := #[.pointer (some ⟨w.heap.size, 0, none⟩), .pointer (some ⟨w.heap.size + 1, 0, none⟩), .pointer (some ⟨w.heap.size + 1 + 1, 0, none⟩)]) (by simp) (by simp [go_sem]) ?_
    refine (load_catch w.heap.size 42 mk.line _ _ _ _ h37).mono ?_
    rintro e u' w'' ⟨rfl, rfl, h4, hb4⟩
    exact ⟨_, load_results h4 rfl rfl rfl, hbw7.trans hb4, by rw [HQ.out]⟩
   | none =>
    rw [hF] at hpost7
    obtain ⟨a7, k7, c7, rfl, hord7, hol7, hoI7⟩ := hpost7
    have HR2 : Hid (Q = match L.find? (fun m => decide (18 < (fillF (hasAt L) (partsAt L) S.ord (fun _ => []) m.point).length)) with
      | some m => .error (43, m.line)
      | none => .ok (L, fillF (hasAt L) (partsAt L) S.ord (fun _ => []))) := by show _ = _; rw [HR.out, hF]
    have d1 := hrd7.c1
    have hb8a := (Below.refl w7.heap.size w7).alloc (Nat.le_refl _) (.cells #[.map (some W3.heap.size)] 117)
    have h38a := h37.below hb8a h37.lt
    have hbd8a := Blk.new w7 117 #[.map (some W3.heap.size)]
    have hrd8a := hrd7.below hb8a
    have hord8a := own_after hord7 hb8a
    obtain ⟨q0, _, _, f0, _, _⟩ := h38a.cells
    have h38 := h38a.setD (some ⟨w7.heap.size, 0, none⟩)
    have hlth : w.heap.size < W3.heap.size := by omega
    have hrd8 := hrd8a.setLow (p := ⟨w.heap.size, 0, none⟩) hlth (.pointer (some ⟨w7.heap.size, 0, none⟩))
    have hord8 := own_setCell hord8a (p := ⟨w.heap.size, 0, none⟩) (by show w.heap.size < w6.heap.size; omega) (.pointer (some ⟨w7.heap.size, 0, none⟩))
    have hbd8 : Blk ((w7.alloc (.cells #[.map (some W3.heap.size)] 117)).setCell ⟨w.heap.size, 0, none⟩ (.pointer (some ⟨w7.heap.size, 0, none⟩))) w7.heap.size 117 #[.map (some W3.heap.size)] := (Below.heap_setCell _ ⟨w.heap.size, 0, none⟩ _ w7.heap.size (by show w7.heap.size ≠ w.heap.size; have := hb7.size; omega)).trans hbd8a
    have hbw8 : Below w.heap.size w ((w7.alloc (.cells #[.map (some W3.heap.size)] 117)).setCell ⟨w.heap.size, 0, none⟩ (.pointer (some ⟨w7.heap.size, 0, none⟩))) := (hbw7.trans (hb8a.mono hbw7.size)).setCell (p := ⟨w.heap.size, 0, none⟩) (Nat.le_refl _) _
    have q8 : ((w7.alloc (.cells #[.map (some W3.heap.size)] 117)).setCell ⟨w.heap.size, 0, none⟩ (.pointer (some ⟨w7.heap.size, 0, none⟩))).cell? ⟨w.heap.size, 0, none⟩ = some (.pointer (some ⟨w7.heap.size, 0, none⟩)) := h38.b0.cell 0
    have hsz38 : W3.heap.size ≤ ((w7.alloc (.cells #[.map (some W3.heap.size)] 117)).setCell ⟨w.heap.size, 0, none⟩ (.pointer (some ⟨w7.heap.size, 0, none⟩))).heap.size := by have := hb7.size; simp; omega
    have hsz8 : w7.heap.size ≤ ((w7.alloc (.cells #[.map (some W3.heap.size)] 117)).setCell ⟨w.heap.size, 0, none⟩ (.pointer (some ⟨w7.heap.size, 0, none⟩))).heap.size := by simp
    clear HR HW c1 c2 hF hmd6 h38a hbd8a hrd8a hord8a hb8a
    go_upto_region 8 with fail
    generalize (w7.alloc (.cells #[.map (some W3.heap.size)] 117)).setCell ⟨w.heap.size, 0, none⟩ (.pointer (some ⟨w7.heap.size, 0, none⟩)) = W8 at h38 hrd8 hord8 hbd8 hbw8 q8 hsz8 hsz38 ⊢
    generalize w7.heap.size = bd at h38 hbd8 q8 hsz8 ⊢
    have hk7 : k7 = S.ord.length := by
     obtain ⟨a', c', e'⟩ := hord7.val
     simp only [Value.slice.injEq] at e'
     exact e'.2.1
    have HK7 : Hid (k7 = S.ord.length) := hk7
    have hk7l : k7 ≤ 1000000 := by omega
    clear hk7 d1 q0 f0 hord7 hrd7 h37 hrd6 h36 h3
    go_wp2_with fail
    refine (fillEnds_any bd W3.heap.size L.length pv (fun _ => .slice none 0 0) L (fun _ => []) a7 k7 c7 S.ord W8 hoI7 hbd8 (hrd8.dd hok hsum) (IOwn.ints hord8) HK7.out hk7l (by omega) (fun _ => Above.nil _)).mono ?_
    rintro e w9 ⟨rfl, ⟨n9, ev9, hdd9, hn9, hab9⟩, hg9⟩
    have hmp8 := hrd8.mp
    have h39 : Three w9 w.heap.size (some ⟨bd, 0, none⟩) 0 0 := ⟨(hg9.block _ h38.b0.lt (fun e => map_ne_blk h38.b0 hmp8 (by simpa using e))).trans h38.b0, (hg9.block _ h38.b1.lt (fun e => map_ne_blk h38.b1 hmp8 (by simpa using e))).trans h38.b1, (hg9.block _ h38.b2.lt (fun e => map_ne_blk h38.b2 hmp8 (by simpa using e))).trans h38.b2⟩
    have hbd9 : Blk w9 bd 117 #[.map (some W3.heap.size)] := (hg9.block bd hbd8.lt (fun e => map_ne_blk hbd8 hmp8 (by simpa using e))).trans hbd8
    have hbr9 : Blk w9 br 122 #[.int .i64 n, .map (some W3.heap.size), .slice av L.length cv] := (hg9.block br (show Blk W8 br 122 _ from hrd8.blk).lt (fun e => map_ne_blk hrd8.blk hmp8 (by simpa using e))).trans hrd8.blk
    have hpl9 : PL w9 (.slice av L.length cv) L := PL.of (own_kept_map hrd8.places hmp8 hg9)
    have hbw9 : Below w.heap.size w w9 := hbw8.grown hg9 hbw8.size (fun j hj => by cases hj; omega)
    have q9 : w9.cell? ⟨w.heap.size, 0, none⟩ = some (.pointer (some ⟨bd, 0, none⟩)) := h39.b0.cell 0
    have r9 : w9.cell? ⟨br, 2, none⟩ = some (.slice av L.length cv) := hbr9.cell 2
    have hsz9 : W3.heap.size ≤ w9.heap.size := by have := hg9.size; omega
    have hpab : ∀ m ∈ L, Above W3.heap.size (pv m.point) := fun m hm => (hrd8.parts m hm).above
    clear q8 hord8
    generalize hE9 : fillF (hasAt L) (partsAt L) S.ord (fun _ => []) = E9 at hdd9
    rw [hE9] at HR2
    clear hE9
    go_wp2_with fail
    refine (needShort_any bd W3.heap.size n9 pv ev9 L E9 _ w9 hlen hbd9 hdd9 hpl9).mono ?_
    rintro e w10 ⟨hb10, hpost10⟩
    have h310 := h39.below hb10 h39.lt
    have hbw10 := hbw9.trans (hb10.mono hbw9.size)
    have hdd10 := hdd9.below hb10
    have hbd10 := hbd9.below hb10 hbd9.lt
    cases hF2 : L.find? (fun m => decide (18 < (E9 m.point).length)) with
    | some mk =>
     rw [hF2] at hpost10
     obtain rfl := hpost10
     have HQ : Hid (Q = .error (43, mk.line)) := by show _ = _; rw [HR2.out, hF2]
     clear HR2 q9 r9
     go_wp2
     refine leaves_cons (f := 53) (args := #[.pointer (some ⟨w.heap.size, 0, none⟩), .pointer (some ⟨w.heap.size + 1, 0, none⟩), .pointer (some ⟨w.heap.size + 1 + 1, 0, none⟩)]) (by simp) (by simp [go_sem]) ?_
     refine (load_catch w.heap.size 43 mk.line _ _ _ _ h310).mono ?_
     rintro e u' w'' ⟨rfl, rfl, h4, hb4⟩
     exact ⟨_, load_results h4 rfl rfl rfl, hbw10.trans hb4, by rw [HQ.out]⟩
    | none =>
     rw [hF2] at hpost10
     obtain rfl := hpost10
     have HQ : Hid (Q = .ok (L, E9)) := by show _ = _; rw [HR2.out, hF2]
     have h4 := h310.set (some ⟨bd, 0, none⟩) 0 0
     obtain ⟨z0, z1, z2, zf0, zf1, zf2⟩ := h310.cells
     have hab' : ∀ x, Above W3.heap.size (ev9 x) := fun x => (hab9 x).mono hsz38
     have HD : Hid (DataAt ((((w10.setCell ⟨w.heap.size, 0, none⟩ (.pointer (some ⟨bd, 0, none⟩))).setCell ⟨w.heap.size + 1, 0, none⟩ (.int .i64 0)).setCell ⟨w.heap.size + 1 + 1, 0, none⟩ (.int .i64 0))) bd L E9) := by
      refine ⟨W3.heap.size, n9, pv, ev9, ?_, ?_, by omega, hnd, hlen, hok⟩
      ·
       refine (Below.heap_setCell _ ⟨w.heap.size + 1 + 1, 0, none⟩ _ bd ?_).trans ((Below.heap_setCell _ ⟨w.heap.size + 1, 0, none⟩ _ bd ?_).trans ((Below.heap_setCell _ ⟨w.heap.size, 0, none⟩ _ bd ?_).trans hbd10))
       ·
        exact blk_ne hbd10 h310.b2 (by decide)
       ·
        exact blk_ne hbd10 h310.b1 (by decide)
       ·
        exact blk_ne hbd10 h310.b0 (by decide)
      ·
       exact ((hdd10.setLow hpab hab' (Nat.le_refl _) (p := ⟨w.heap.size, 0, none⟩) (by show w.heap.size < _; omega) _).setLow hpab hab' (Nat.le_refl _) (p := ⟨w.heap.size + 1, 0, none⟩) (by show w.heap.size + 1 < _; omega) _).setLow hpab hab' (Nat.le_refl _) (p := ⟨w.heap.size + 1 + 1, 0, none⟩) (by show w.heap.size + 1 + 1 < _; omega) _
     clear HR2 q9 r9 hdd10 hdd9 hbd10 h310 h39
     go_wp2
     refine leaves_cons (f := 53) (args := #[.pointer (some ⟨w.heap.size, 0, none⟩), .pointer (some ⟨w.heap.size + 1, 0, none⟩), .pointer (some ⟨w.heap.size + 1 + 1, 0, none⟩)]) (by simp) (by simp [go_sem]) ?_
     refine (load_idle _ _ _ _).mono ?_
     rintro e u' w'' ⟨rfl, rfl, rfl⟩
     exact ⟨_, load_results h4.1 rfl rfl rfl, hbw10.trans h4.2, by rw [HQ.out]; exact ⟨bd, rfl, HD.out⟩⟩
end Go.Proofs.YtkcnjnccdafbfaaGreatDoor
