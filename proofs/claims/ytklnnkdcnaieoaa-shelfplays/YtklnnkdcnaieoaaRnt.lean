/- A range over an iterator that itself ranges over another one (a law; nothing is claimed here). -/
import Derived.Test.YtklnnkdcnaieoaaRng
namespace Go.Proofs.Ytklnnkdcnaieoaa
open Go.RowKit Go.Vf

/-- What an iterator is asked: it tells all of these, in this order, till a round says no more; what is told them abides what it does besides. -/
def TellsK {α : Type} (n : Nat) (P : Program) (gf : Nat) (lb : Array Value) (enc : α → Value) (all : List α) (w : World) : Prop :=
  ∀ (l : Nat) (J Jx : List α → World → Prop) (W : World), Below w.heap.size w W → OwnFrom W.heap.size J → OwnFrom W.heap.size Jx →
    (∀ pre x W1, J pre W1 → pre ++ [x] <+: all → YieldAt Fence.wide (n - 1) P l #[enc x] W1 fun e W' => (e = .returned (.bool true) ∧ J (pre ++ [x]) W' ∧ KeepT W1 W' ∧ KeepsFrom W.heap.size W1 W') ∨ (e = .returned (.bool false) ∧ Jx (pre ++ [x]) W' ∧ KeepsFrom W.heap.size W1 W')) →
    J [] W →
    CallsIn Fence.wide n P gf (#[.func (.yield l) #[] #[]] ++ lb) W fun e W' => (∃ v, e = .returned v) ∧ (J all W' ∨ ∃ pre, pre <+: all ∧ Jx pre W')

theorem keeps_more {B C : Nat} {W W' : World} (h : KeepsFrom B W W') (hBC : B ≤ C) : KeepsFrom C W W' := ⟨h.size, fun k o hk => h.same k o (Nat.le_trans hBC hk)⟩
theorem keeps_put {B l : Nat} (W : World) (o : Obj) (hl : l < B) : KeepsFrom B W (W.putObj l o) := ⟨by show _ ≤ (W.heap.setIfInBounds l o).size; simp, fun k o' hk h _ => (World.putObj_heap_other (by omega)).trans h⟩
theorem range_tellsK {α : Type} {P : Program} {n : Nat} {g : Operand} {t : Tmp} {assign body : Code} {Q : Exit → Act → World → Prop} {a : Act} {w : World} (h1 : 1 ≤ n) {gf : Nat} {lb : Array Value}
    (hg : a.eval g = .func (.func gf) #[] lb) (eg : ∀ args w, (callFunc gf args).run P w = .ok (.enter gf args) w) {enc : α → Value} {all : List α} (hseq : TellsK (n - 1) P gf lb enc all w)
    (I : List α → World → Prop) (Ix : Code → List α → World → Prop) (hI : OwnFrom w.heap.size I) (hIx : ∀ c, OwnFrom w.heap.size (Ix c)) (h0 : I [] w)
    (Ax : α → Act → World → Prop) (hAx : ∀ x a', OwnFrom w.heap.size (fun (_ : Unit) W => Ax x a' W))
    (hassign : ∀ (l : Nat) (pre : List α) (x : α) (W : World) (K : Act → World → Prop), I pre W → pre ++ [x] <+: all → (∀ a' W', KeepsFrom w.heap.size W W' → KeepT W W' → I pre W' → Ax x a' W' → K a' W') →
      assign.wpIn (Fence.wide.inRound l) (n - 1 - 1) P (Exit.then K (fun _ _ _ => False)) { tmps := a.tmps.setIfInBounds t (enc x), defers := [] } W)
    (hbody : ∀ (l : Nat) (pre : List α) (x : α) (a' : Act) (W : World), w.heap.size ≤ l → (∃ r, W.heap[l]? = some (.loop r)) → I pre W → Ax x a' W → pre ++ [x] <+: all →
      body.wpIn (Fence.wide.inRound l) (n - 1 - 1) P (ownPostG w.heap.size KeepT I Ix (pre ++ [x]) W) a' W)
    (hdone : ∀ (D : Nat) (W : World), w.heap.size ≤ D → I all W → W.heap[D]? = some (.deferred (some [])) → Q .normal { a with defers := { target := .collected D, args := #[] } :: a.defers } W)
    (hstop : ∀ (D : Nat) (c : Code) (pre : List α) (W : World), w.heap.size ≤ D → pre <+: all → Ix c pre W → W.heap[D]? = some (.deferred (some [])) → c.wpIn Fence.wide n P Q { a with defers := { target := .collected D, args := #[] } :: a.defers } W) :
    (Code.rangeFunc g #[t] assign body).wpIn Fence.wide n P Q a w := by
  refine wpIn_rangeFunc fun fn hfn => ?_
  obtain ⟨L, hL⟩ : ∃ L : LoopState → Option Code → Loop, L = fun st pe => { state := st, pending := pe, fn, tmps := a.tmps, params := #[t], assign, body, defers := w.heap.size } := ⟨_, rfl⟩
  have hrec : ∀ st pe, L st pe = { state := st, pending := pe, fn, tmps := a.tmps, params := #[t], assign, body, defers := w.heap.size } := fun st pe => by rw [hL]
  have hent := run_enterLoop_outer (P := P) (w := w) fn a.tmps #[t] assign body
  rw [← hrec] at hent
  have hbe := ((Below.refl w.heap.size w).alloc (Nat.le_refl _) (.deferred (some []))).alloc (by simp) (.loop (L .ready none))
  have hI1 : I [] ((w.alloc (.deferred (some []))).alloc (.loop (L .ready none))) := hI.alloc _ (hI.alloc _ h0)
  have hsz : ((w.alloc (.deferred (some []))).alloc (.loop (L .ready none))).heap.size = w.heap.size + 2 := by rw [World.size_alloc, World.size_alloc]
  have hrl : ((w.alloc (.deferred (some []))).alloc (.loop (L .ready none))).heap[w.heap.size + 1]? = some (.loop (L .ready none)) := by
    have := World.alloc_heap_new (w.alloc (.deferred (some []))) (.loop (L .ready none))
    rwa [World.size_alloc] at this
  have hrd : ((w.alloc (.deferred (some []))).alloc (.loop (L .ready none))).heap[w.heap.size]? = some (.deferred (some [])) := (Below.heap_alloc _ _ _ (by simp)).trans (World.alloc_heap_new w _)
  generalize (w.alloc (.deferred (some []))).alloc (.loop (L .ready none)) = V at *
  have lt_of : ∀ {A : World} {k : Nat} {o : Obj}, A.heap[k]? = some o → k < A.heap.size := fun h => (Array.getElem?_eq_some_iff.1 h).1
  refine ⟨w.heap.size + 1, _, V, { target := .fn (.func gf) lb, args := #[.func (.yield (w.heap.size + 1)) #[] #[]] }, V, gf, #[.func (.yield (w.heap.size + 1)) #[] #[]] ++ lb, V, hent, ?_, fun _ _ => trivial, ?_, fun _ => h1, ?_⟩
  · simp only [resolve, hg]
    simp [go_sem]
  · simp [invoke, go_sem, eg]
  · refine (hseq (w.heap.size + 1) (fun pre A => I pre A ∧ A.heap[w.heap.size + 1]? = some (.loop (L .ready none)) ∧ A.heap[w.heap.size]? = some (.deferred (some [])))
      (fun pre A => ∃ c, Ix c pre A ∧ A.heap[w.heap.size + 1]? = some (.loop (L .done (some c))) ∧ A.heap[w.heap.size]? = some (.deferred (some [])))
      V hbe ((own_more hI (by omega)).and ((own_at (by omega)).and (own_at (by omega)))) ?_ ?_ ⟨hI1, hrl, hrd⟩).mono ?_
    · rintro s A C row ⟨c, i1, i2, i3⟩ hg' hr
      exact ⟨c, (own_more (hIx c) (by omega)) s A C row i1 hg' hr, own_at (α := α) (B := V.heap.size) (by omega) s A C row i2 hg' hr, own_at (α := α) (B := V.heap.size) (by omega) s A C row i3 hg' hr⟩
    · rintro pre x A ⟨i1, i2, i3⟩ hpx
      have hy := run_yield (P := P) (args := #[enc x]) i2 (by rw [hrec]; rfl)
      rw [hrec] at hy
      have hy2 : (Instr.yield (w.heap.size + 1) #[enc x]).run P A = .ok (.round (w.heap.size + 1) fn (a.tmps.setIfInBounds t (enc x)) assign body) A := by
        refine hy.trans ?_
        simp
      refine ⟨fn, _, assign, body, hy2, roundIn_of_wpIn hfn (hassign _ pre x A _ i1 hpx ?_)⟩
      intro a' Wa q1 q2 q3 q4
      have j2 := q1.same _ _ (by omega) i2 rfl
      have j3 := q1.same _ _ (Nat.le_refl _) i3 rfl
      refine ⟨_, run_beginRound j2 (by rw [hrec]), ?_⟩
      have p1 : (Wa.putObj (w.heap.size + 1) (.loop { L .ready none with state := .busy })).heap[w.heap.size + 1]? = some (.loop { L .ready none with state := .busy }) := World.putObj_heap_same (lt_of j2)
      have p2 : (Wa.putObj (w.heap.size + 1) (.loop { L .ready none with state := .busy })).heap[w.heap.size]? = some (.deferred (some [])) := (World.putObj_heap_other (by omega)).trans j3
      have p3 : KeepT Wa (Wa.putObj (w.heap.size + 1) (.loop { L .ready none with state := .busy })) := KeepT.put _ _ _ _ j2 rfl
      refine wpIn_mono (hbody _ pre x a' _ (by omega) ⟨_, p1⟩ (hI.putObj _ q3 (by omega) j2 rfl) ((hAx x a').putObj (s := ()) _ q4 (by omega) j2 rfl) hpx) ?_
      have fin : ∀ (jump : Option Code) (W3 : World), KeepsFrom w.heap.size (Wa.putObj (w.heap.size + 1) (.loop { L .ready none with state := .busy })) W3 →
          ∃ L1 : Loop, W3.heap[w.heap.size + 1]? = some (.loop L1) ∧ (Instr.endRound (w.heap.size + 1) jump).run P W3 = .ok (.bool jump.isNone) (W3.putObj (w.heap.size + 1) (.loop (L (if jump.isNone then .ready else .done) jump))) ∧
          (W3.putObj (w.heap.size + 1) (.loop (L (if jump.isNone then .ready else .done) jump))).heap[w.heap.size + 1]? = some (.loop (L (if jump.isNone then .ready else .done) jump)) ∧
          (W3.putObj (w.heap.size + 1) (.loop (L (if jump.isNone then .ready else .done) jump))).heap[w.heap.size]? = some (.deferred (some [])) := fun jump W3 hk => by
        have r1 := hk.same _ _ (by omega) p1 rfl
        have r2 := hk.same _ _ (Nat.le_refl _) p2 rfl
        have r3 := run_endRound (P := P) jump r1
        rw [hrec] at r3
        refine ⟨_, r1, ?_, World.putObj_heap_same (lt_of r1), (World.putObj_heap_other (by omega)).trans r2⟩
        rw [hrec]
        exact r3
      intro e a3 W3 hp
      cases e with
      | normal =>
        obtain ⟨k1, k2, k3⟩ := hp
        obtain ⟨L1, r1, r2, r3, r4⟩ := fin none W3 k1
        exact ⟨_, _, r2, .inl ⟨rfl, ⟨hI.putObj _ k3 (by omega) r1 rfl, r3, r4⟩, q2.trans ((p3.trans k2).trans (KeepT.put _ _ _ _ r1 rfl)), ((keeps_more q1 (by omega)).trans (keeps_put _ _ (by omega))).trans ((keeps_more k1 (by omega)).trans (keeps_put _ _ (by omega)))⟩⟩
      | ret =>
        obtain ⟨k1, k3⟩ := hp
        obtain ⟨L1, r1, r2, r3, r4⟩ := fin (some .ret) W3 k1
        exact ⟨_, _, r2, .inr ⟨rfl, ⟨.ret, (hIx _).putObj _ k3 (by omega) r1 rfl, r3, r4⟩, ((keeps_more q1 (by omega)).trans (keeps_put _ _ (by omega))).trans ((keeps_more k1 (by omega)).trans (keeps_put _ _ (by omega)))⟩⟩
      | exit id =>
        obtain ⟨k1, k3⟩ := hp
        obtain ⟨L1, r1, r2, r3, r4⟩ := fin (some (.exit id)) W3 k1
        exact ⟨_, _, r2, .inr ⟨rfl, ⟨.exit id, (hIx _).putObj _ k3 (by omega) r1 rfl, r3, r4⟩, ((keeps_more q1 (by omega)).trans (keeps_put _ _ (by omega))).trans ((keeps_more k1 (by omega)).trans (keeps_put _ _ (by omega)))⟩⟩
      | goto tt =>
        obtain ⟨k1, k3⟩ := hp
        obtain ⟨L1, r1, r2, r3, r4⟩ := fin (some (.goto tt)) W3 k1
        exact ⟨_, _, r2, .inr ⟨rfl, ⟨.goto tt, (hIx _).putObj _ k3 (by omega) r1 rfl, r3, r4⟩, ((keeps_more q1 (by omega)).trans (keeps_put _ _ (by omega))).trans ((keeps_more k1 (by omega)).trans (keeps_put _ _ (by omega)))⟩⟩
      | panic ch => exact hp.elim
      | outgrown => exact hp.elim
    · rintro e B ⟨⟨v, rfl⟩, (⟨i1, i2, i3⟩ | ⟨pre, hpre, c, i1, i2, i3⟩)⟩
      · have r1 := run_endLoop (P := P) i2 (by rw [hrec]; simp)
        rw [hrec] at r1
        exact ⟨none, _, r1, hdone _ _ (Nat.le_refl _) (hI.putObj _ i1 (by omega) i2 rfl) ((World.putObj_heap_other (by omega)).trans i3)⟩
      · have r1 := run_endLoop (P := P) i2 (by rw [hrec]; simp)
        rw [hrec] at r1
        exact ⟨some c, _, r1, hstop _ c pre _ (Nat.le_refl _) hpre ((hIx c).putObj _ i1 (by omega) i2 rfl) ((World.putObj_heap_other (by omega)).trans i3)⟩
end Go.Proofs.Ytklnnkdcnaieoaa
