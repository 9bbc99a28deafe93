/- A range over a function that keeps its text in a box of its own (a law; nothing is claimed here). -/
import Derived.Test.YtcbjnifoojjipaaGreatDoorSLin
import Derived.RangeFuncNested
import Derived.RangeFuncBound
import Derived.RangeFuncCalls
import Derived.RangeFuncLeaves
import Derived.Shelf.Abstract
import Derived.Shelf.RegionOpen
import Derived.WalkKit
import Derived.OwnWalkIn
import Derived.TacticsInMore
import Derived.LoopNIn
import Derived.LoopIn
namespace Go.Proofs.YtcbjnifoojjipaaGreatDoor
open Go.RowKit Go.Vf
def goesOn {α : Type} (B Bs : Nat) (I : List α → World → Prop) (xs : List α) (W : World) : Exit → Act → World → Prop
  | .normal, _, W' => KeepsFrom B W W' ∧ W'.heap[Bs]? = W.heap[Bs]? ∧ I xs W'
  | _, _, _ => False
def TellsAll {α : Type} (n : Nat) (P : Program) (gf Bs : Nat) (enc : α → Value) (all : List α) (w : World) : Prop :=
  ∀ (l : Nat) (J : List α → World → Prop) (W : World), Below w.heap.size w W → (∀ pre A B, J pre A → Oth Bs A B → J pre B) →
    (∀ pre x W1, J pre W1 → pre ++ [x] <+: all → YieldAt Fence.wide (n - 1) P l #[enc x] W1 fun e W' => e = .returned (.bool true) ∧ J (pre ++ [x]) W' ∧ W'.heap[Bs]? = W1.heap[Bs]?) → J [] W →
    CallsIn Fence.wide n P gf #[.func (.yield l) #[] #[], .pointer (some ⟨Bs, 0, none⟩)] W fun e W' => (∃ v, e = .returned v) ∧ J all W'
theorem range_box {α : Type} {P : Program} {n : Nat} {g : Operand} {t : Tmp} {assign body : Code} {Q : Exit → Act → World → Prop} {a : Act} {w : World} (h1 : 1 ≤ n) {gf Bs : Nat}
    (hg : a.eval g = .func (.func gf) #[] #[.pointer (some ⟨Bs, 0, none⟩)]) (hBs : Bs < w.heap.size) (eg : ∀ args w, (callFunc gf args).run P w = .ok (.enter gf args) w) {enc : α → Value} {all : List α}
    (hseq : TellsAll (n - 1) P gf Bs enc all w) (I : List α → World → Prop) (hI : ∀ pre A B, I pre A → Oth Bs A B → I pre B)
    (hIp : ∀ pre A k o o', I pre A → w.heap.size ≤ k → A.heap[k]? = some o → o.isCells = false → I pre (A.putObj k o')) (h0 : I [] w) (a₁ : α → Act)
    (hassign : ∀ (l : Nat) (x : α) (W : World) (K : Act → World → Prop), K (a₁ x) W → assign.wpIn (Fence.wide.inRound l) (n - 1 - 1) P (Exit.then K (fun _ _ _ => False)) { tmps := a.tmps.setIfInBounds t (enc x), defers := [] } W)
    (hbody : ∀ (l : Nat) (pre : List α) (x : α) (W : World), I pre W → pre ++ [x] <+: all → body.wpIn (Fence.wide.inRound l) (n - 1 - 1) P (goesOn w.heap.size Bs I (pre ++ [x]) W) (a₁ x) W)
    (hdone : ∀ (D : Nat) (W : World), w.heap.size ≤ D → I all W → W.heap[D]? = some (.deferred (some [])) → Q .normal { a with defers := { target := .collected D, args := #[] } :: a.defers } W) :
    (Code.rangeFunc g #[t] assign body).wpIn Fence.wide n P Q a w := by
  refine wpIn_rangeFunc fun fn hfn => ?_
  obtain ⟨L, hL⟩ : ∃ L : LoopState → Loop, L = fun st => { state := st, pending := none, fn, tmps := a.tmps, params := #[t], assign, body, defers := w.heap.size } := ⟨_, rfl⟩
  have hent := run_enterLoop_outer (P := P) (w := w) fn a.tmps #[t] assign body
  have hrec : ∀ st, L st = { state := st, pending := none, fn, tmps := a.tmps, params := #[t], assign, body, defers := w.heap.size } := fun st => by rw [hL]
  rw [← hrec] at hent
  have hbe := ((Below.refl w.heap.size w).alloc (Nat.le_refl _) (.deferred (some []))).alloc (by simp) (.loop (L .ready))
  have hrl : ((w.alloc (.deferred (some []))).alloc (.loop (L .ready))).heap[w.heap.size + 1]? = some (.loop (L .ready)) := by
    have := World.alloc_heap_new (w.alloc (.deferred (some []))) (.loop (L .ready))
    rwa [World.size_alloc] at this
  have hrd : ((w.alloc (.deferred (some []))).alloc (.loop (L .ready))).heap[w.heap.size]? = some (.deferred (some [])) := (Below.heap_alloc _ _ _ (by simp)).trans (World.alloc_heap_new w _)
  generalize (w.alloc (.deferred (some []))).alloc (.loop (L .ready)) = V at *
  have hb0 : Bs ≠ w.heap.size + 1 := by omega
  have hb1 : Bs ≠ w.heap.size := by omega
  have lt_of : ∀ {A : World} {k : Nat} {o : Obj}, A.heap[k]? = some o → k < A.heap.size := fun h => (Array.getElem?_eq_some_iff.1 h).1
  refine ⟨w.heap.size + 1, _, V, { target := .fn (.func gf) #[.pointer (some ⟨Bs, 0, none⟩)], args := #[.func (.yield (w.heap.size + 1)) #[] #[]] }, V, gf, #[.func (.yield (w.heap.size + 1)) #[] #[], .pointer (some ⟨Bs, 0, none⟩)], V, hent, ?_, fun _ _ => trivial, ?_, fun _ => h1, ?_⟩
  · simp only [resolve, hg]
    simp [go_sem]
  · simp [invoke, go_sem, eg]
  · refine (hseq (w.heap.size + 1) (fun pre A => I pre A ∧ A.heap[w.heap.size + 1]? = some (.loop (L .ready)) ∧ A.heap[w.heap.size]? = some (.deferred (some []))) V hbe ?_ ?_ ⟨hI _ _ _ h0 (Oth.of hbe), hrl, hrd⟩).mono ?_
    · rintro pre A B ⟨i1, i2, i3⟩ hO
      exact ⟨hI _ _ _ i1 hO, (hO.block _ (lt_of i2) (Ne.symm hb0)).trans i2, (hO.block _ (lt_of i3) (Ne.symm hb1)).trans i3⟩
    · rintro pre x A ⟨i1, i2, i3⟩ hpx
      have hy := run_yield (P := P) (args := #[enc x]) i2 (by rw [hrec]; rfl)
      rw [hrec] at hy
      have hy2 : (Instr.yield (w.heap.size + 1) #[enc x]).run P A = .ok (.round (w.heap.size + 1) fn (a.tmps.setIfInBounds t (enc x)) assign body) A := by
        refine hy.trans ?_
        simp
      refine ⟨fn, _, assign, body, hy2, roundIn_of_wpIn hfn (hassign _ x A _ ?_)⟩
      refine ⟨_, run_beginRound i2 (by rw [hrec]), ?_⟩
      have p1 : (A.putObj (w.heap.size + 1) (.loop { L .ready with state := .busy })).heap[w.heap.size + 1]? = some (.loop { L .ready with state := .busy }) := World.putObj_heap_same (lt_of i2)
      have p2 : (A.putObj (w.heap.size + 1) (.loop { L .ready with state := .busy })).heap[w.heap.size]? = some (.deferred (some [])) := (World.putObj_heap_other (by omega)).trans i3
      have p3 : (A.putObj (w.heap.size + 1) (.loop { L .ready with state := .busy })).heap[Bs]? = A.heap[Bs]? := World.putObj_heap_other hb0
      refine wpIn_mono (hbody _ pre x _ (hIp _ _ _ _ _ i1 (by omega) i2 rfl) hpx) ?_
      intro e a3 B hp
      cases e with
      | normal =>
        obtain ⟨q1, q2, q3⟩ := hp
        have r1 := q1.same _ _ (by omega) p1 rfl
        have r2 := q1.same _ _ (Nat.le_refl _) p2 rfl
        have r3 := run_endRound (P := P) none r1
        refine ⟨_, _, r3, rfl, ⟨hIp _ _ _ _ _ q3 (by omega) r1 rfl, ?_, (World.putObj_heap_other (by omega)).trans r2⟩, (World.putObj_heap_other hb0).trans (q2.trans p3)⟩
        rw [World.putObj_heap_same (lt_of r1), hrec]
        simp
      | _ => exact hp.elim
    · rintro e B ⟨⟨v, rfl⟩, i1, i2, i3⟩
      have r1 := run_endLoop (P := P) i2 (by rw [hrec]; simp)
      rw [hrec] at r1
      exact ⟨none, _, r1, hdone _ _ (Nat.le_refl _) (hIp _ _ _ _ _ i1 (by omega) i2 rfl) ((World.putObj_heap_other (by omega)).trans i3)⟩
end Go.Proofs.YtcbjnifoojjipaaGreatDoor
