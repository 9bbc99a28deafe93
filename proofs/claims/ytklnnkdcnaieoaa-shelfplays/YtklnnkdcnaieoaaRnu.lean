/- A range over an iterator, inside a round of another range (a law; nothing is claimed here). -/
import Derived.Test.YtklnnkdcnaieoaaRnt
namespace Go.Proofs.Ytklnnkdcnaieoaa
open Go.RowKit Go.Vf

theorem range_tellsN {α : Type} {P : Program} {n : Nat} {l₀ : Nat} {r₀ : Loop} {g : Operand} {t : Tmp} {assign body : Code} {Q : Exit → Act → World → Prop} {a : Act} {w : World} (h1 : 1 ≤ n) {gf : Nat} {lb : Array Value}
    (hl₀ : w.heap[l₀]? = some (.loop r₀)) (hg : a.eval g = .func (.func gf) #[] lb) (eg : ∀ args w, (callFunc gf args).run P w = .ok (.enter gf args) w) {enc : α → Value} {all : List α} (hseq : TellsK (n - 1) P gf lb enc all w)
    (I : List α → World → Prop) (Ix : Code → List α → World → Prop) (hI : OwnFrom w.heap.size I) (hIx : ∀ c, OwnFrom w.heap.size (Ix c)) (h0 : I [] w)
    (Ax : α → Act → World → Prop) (hAx : ∀ x a', OwnFrom w.heap.size (fun (_ : Unit) W => Ax x a' W))
    (hassign : ∀ (l : Nat) (pre : List α) (x : α) (W : World) (K : Act → World → Prop), I pre W → pre ++ [x] <+: all → (∀ a' W', KeepsFrom w.heap.size W W' → KeepT W W' → I pre W' → Ax x a' W' → K a' W') →
      assign.wpIn (Fence.wide.inRound l) (n - 1 - 1) P (Exit.then K (fun _ _ _ => False)) { tmps := a.tmps.setIfInBounds t (enc x), defers := [] } W)
    (hbody : ∀ (l : Nat) (pre : List α) (x : α) (a' : Act) (W : World), w.heap.size ≤ l → (∃ r, W.heap[l]? = some (.loop r)) → I pre W → Ax x a' W → pre ++ [x] <+: all →
      body.wpIn (Fence.wide.inRound l) (n - 1 - 1) P (ownPostG w.heap.size KeepT I Ix (pre ++ [x]) W) a' W)
    (hdone : ∀ (W : World), I all W → Q .normal a W)
    (hstop : ∀ (c : Code) (pre : List α) (W : World), pre <+: all → Ix c pre W → c.wpIn (Fence.wide.inRound l₀) n P Q a W) :
    (Code.rangeFunc g #[t] assign body).wpIn (Fence.wide.inRound l₀) n P Q a w := by
  refine wpIn_rangeFunc fun fn hfn => ?_
  obtain ⟨L, hL⟩ : ∃ L : LoopState → Option Code → Loop, L = fun st pe => { state := st, pending := pe, fn, tmps := a.tmps, params := #[t], assign, body, defers := r₀.defers } := ⟨_, rfl⟩
  have hrec : ∀ st pe, L st pe = { state := st, pending := pe, fn, tmps := a.tmps, params := #[t], assign, body, defers := r₀.defers } := fun st pe => by rw [hL]
  have hent := run_enterLoop_inner (P := P) hl₀ fn a.tmps #[t] assign body
  rw [← hrec] at hent
  have hbe := (Below.refl w.heap.size w).alloc (Nat.le_refl _) (.loop (L .ready none))
  have hI1 : I [] (w.alloc (.loop (L .ready none))) := hI.alloc _ h0
  have hsz : (w.alloc (.loop (L .ready none))).heap.size = w.heap.size + 1 := by rw [World.size_alloc]
  have hrl : (w.alloc (.loop (L .ready none))).heap[w.heap.size]? = some (.loop (L .ready none)) := World.alloc_heap_new w _
  generalize w.alloc (.loop (L .ready none)) = V at *
  have lt_of : ∀ {A : World} {k : Nat} {o : Obj}, A.heap[k]? = some o → k < A.heap.size := fun h => (Array.getElem?_eq_some_iff.1 h).1
  refine ⟨w.heap.size, _, V, { target := .fn (.func gf) lb, args := #[.func (.yield (w.heap.size)) #[] #[]] }, V, gf, #[.func (.yield (w.heap.size)) #[] #[]] ++ lb, V, hent, ?_, fun _ _ => trivial, ?_, fun _ => h1, ?_⟩
  · simp only [resolve, hg]
    simp [go_sem]
  · simp [invoke, go_sem, eg]
  · refine (hseq w.heap.size (fun pre A => I pre A ∧ A.heap[w.heap.size]? = some (.loop (L .ready none)))
      (fun pre A => ∃ c, Ix c pre A ∧ A.heap[w.heap.size]? = some (.loop (L .done (some c))))
      V hbe ((own_more hI (by omega)).and (own_at (by omega))) ?_ ?_ ⟨hI1, hrl⟩).mono ?_
    · rintro s A C row ⟨c, i1, i2⟩ hg' hr
      exact ⟨c, (own_more (hIx c) (by omega)) s A C row i1 hg' hr, own_at (α := α) (B := V.heap.size) (by omega) s A C row i2 hg' hr⟩
    · rintro pre x A ⟨i1, i2⟩ hpx
      have hy := run_yield (P := P) (args := #[enc x]) i2 (by rw [hrec]; rfl)
      rw [hrec] at hy
      have hy2 : (Instr.yield (w.heap.size) #[enc x]).run P A = .ok (.round (w.heap.size) fn (a.tmps.setIfInBounds t (enc x)) assign body) A := by
        refine hy.trans ?_
        simp
      refine ⟨fn, _, assign, body, hy2, roundIn_of_wpIn hfn (hassign _ pre x A _ i1 hpx ?_)⟩
      intro a' Wa q1 q2 q3 q4
      have j2 := q1.same _ _ (Nat.le_refl _) i2 rfl
      refine ⟨_, run_beginRound j2 (by rw [hrec]), ?_⟩
      have p1 : (Wa.putObj (w.heap.size) (.loop { L .ready none with state := .busy })).heap[w.heap.size]? = some (.loop { L .ready none with state := .busy }) := World.putObj_heap_same (lt_of j2)
      have p3 : KeepT Wa (Wa.putObj (w.heap.size) (.loop { L .ready none with state := .busy })) := KeepT.put _ _ _ _ j2 rfl
      refine wpIn_mono (hbody _ pre x a' _ (by omega) ⟨_, p1⟩ (hI.putObj _ q3 (by omega) j2 rfl) ((hAx x a').putObj (s := ()) _ q4 (by omega) j2 rfl) hpx) ?_
      have fin : ∀ (jump : Option Code) (W3 : World), KeepsFrom w.heap.size (Wa.putObj (w.heap.size) (.loop { L .ready none with state := .busy })) W3 →
          ∃ L1 : Loop, W3.heap[w.heap.size]? = some (.loop L1) ∧ (Instr.endRound w.heap.size jump).run P W3 = .ok (.bool jump.isNone) (W3.putObj (w.heap.size) (.loop (L (if jump.isNone then .ready else .done) jump))) ∧
          (W3.putObj (w.heap.size) (.loop (L (if jump.isNone then .ready else .done) jump))).heap[w.heap.size]? = some (.loop (L (if jump.isNone then .ready else .done) jump)) := fun jump W3 hk => by
        have r1 := hk.same _ _ (Nat.le_refl _) p1 rfl
        have r3 := run_endRound (P := P) jump r1
        rw [hrec] at r3
        refine ⟨_, r1, ?_, World.putObj_heap_same (lt_of r1)⟩
        rw [hrec]
        exact r3
      intro e a3 W3 hp
      cases e with
      | normal =>
        obtain ⟨k1, k2, k3⟩ := hp
        obtain ⟨L1, r1, r2, r3⟩ := fin none W3 k1
        exact ⟨_, _, r2, .inl ⟨rfl, ⟨hI.putObj _ k3 (by omega) r1 rfl, r3⟩, q2.trans ((p3.trans k2).trans (KeepT.put _ _ _ _ r1 rfl)), ((keeps_more q1 (by omega)).trans (keeps_put _ _ (by omega))).trans ((keeps_more k1 (by omega)).trans (keeps_put _ _ (by omega)))⟩⟩
      | ret =>
        obtain ⟨k1, k3⟩ := hp
        obtain ⟨L1, r1, r2, r3⟩ := fin (some .ret) W3 k1
        exact ⟨_, _, r2, .inr ⟨rfl, ⟨.ret, (hIx _).putObj _ k3 (by omega) r1 rfl, r3⟩, ((keeps_more q1 (by omega)).trans (keeps_put _ _ (by omega))).trans ((keeps_more k1 (by omega)).trans (keeps_put _ _ (by omega)))⟩⟩
      | exit id =>
        obtain ⟨k1, k3⟩ := hp
        obtain ⟨L1, r1, r2, r3⟩ := fin (some (.exit id)) W3 k1
        exact ⟨_, _, r2, .inr ⟨rfl, ⟨.exit id, (hIx _).putObj _ k3 (by omega) r1 rfl, r3⟩, ((keeps_more q1 (by omega)).trans (keeps_put _ _ (by omega))).trans ((keeps_more k1 (by omega)).trans (keeps_put _ _ (by omega)))⟩⟩
      | goto tt =>
        obtain ⟨k1, k3⟩ := hp
        obtain ⟨L1, r1, r2, r3⟩ := fin (some (.goto tt)) W3 k1
        exact ⟨_, _, r2, .inr ⟨rfl, ⟨.goto tt, (hIx _).putObj _ k3 (by omega) r1 rfl, r3⟩, ((keeps_more q1 (by omega)).trans (keeps_put _ _ (by omega))).trans ((keeps_more k1 (by omega)).trans (keeps_put _ _ (by omega)))⟩⟩
      | panic ch => exact hp.elim
      | outgrown => exact hp.elim
    · rintro e B ⟨⟨v, rfl⟩, (⟨i1, i2⟩ | ⟨pre, hpre, c, i1, i2⟩)⟩
      · have r1 := run_endLoop (P := P) i2 (by rw [hrec]; simp)
        rw [hrec] at r1
        exact ⟨none, _, r1, hdone _ (hI.putObj _ i1 (by omega) i2 rfl)⟩
      · have r1 := run_endLoop (P := P) i2 (by rw [hrec]; simp)
        rw [hrec] at r1
        exact ⟨some c, _, r1, hstop c pre _ hpre ((hIx c).putObj _ i1 (by omega) i2 rfl)⟩
end Go.Proofs.Ytklnnkdcnaieoaa
