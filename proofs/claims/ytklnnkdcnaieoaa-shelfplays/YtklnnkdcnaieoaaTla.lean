/- What (*Shelf).Scan answers; what stays while loops' records turn (contracts; nothing is claimed here). -/
import Derived.Test.YtklnnkdcnaieoaaScn
import Derived.Test.YtklnnkdcnaieoaaPut
import Derived.Maps.AppendAt
namespace Go.Proofs.Ytklnnkdcnaieoaa
open Go.RowKit Go.Vf
attribute [local go_sem] Oper.semAt_some

/-- All cells stay. -/
structure KeepC (w w' : World) : Prop where
  size : w.heap.size ≤ w'.heap.size
  same : ∀ b t cs, Blk w b t cs → Blk w' b t cs
theorem KeepC.of {w w' : World} (h : Below w.heap.size w w') : KeepC w w' := ⟨h.size, fun _ _ _ q => q.old h⟩
theorem KeepC.nodes {w w' : World} (h : KeepC w w') : KeepN w w' := ⟨h.size, fun b cs q => h.same b 66 cs q⟩
theorem KeepC.tk {w w' : World} (h : KeepC w w') : KeepT w w' := ⟨h.size, fun b t cs _ q => h.same b t cs q⟩
theorem keepC_of {A C : World} {row : Option Nat} (hg : A.grownBy C row) (hr : ∀ r, row = some r → ∃ o : Obj, A.heap[r]? = some o ∧ o.isCells = false) : KeepC A C := ⟨hg.size, fun b t cs q => by
  refine (hg.block b q.lt (fun e => ?_)).trans q
  obtain ⟨o, h1, h2⟩ := hr b e.symm
  have e2 := h1.symm.trans q
  injection e2 with e2
  subst e2
  cases h2⟩
theorem own_keepC {β : Type} {B : Nat} {I : β → World → Prop} (h : ∀ s A C, I s A → KeepC A C → I s C) : OwnFrom B I := fun s A C _ hs hg hr => h s A C hs (keepC_of hg (fun r e => (hr r e).2))
theorem ShAt.keep {w w' : World} {B : Nat} {L : List Pr} (h : ShAt w B L) (hk : KeepC w w') : ShAt w' B L := by
  obtain ⟨T, h1, h2, h3⟩ := h.tree
  exact ⟨h.srt, T, h1, h2.keep hk.nodes, hk.same _ _ _ h3⟩
theorem ScnAt.keep {w w' : World} {Bs Ba Bb B : Nat} {f t : ByteArray} {o back : Bool} {L : List Pr} (h : ScnAt w Bs Ba Bb B f t o back L) (hk : KeepC w w') : ScnAt w' Bs Ba Bb B f t o back L := ⟨hk.same _ _ _ h.bs, hk.same _ _ _ h.ba, hk.same _ _ _ h.bb, h.sh.keep hk⟩
/-- What Scan hands back. -/
def itV (N : Nat) : Value := .func (.func 36) #[] #[.pointer (some ⟨N, 0, none⟩), .pointer (some ⟨N + 1, 0, none⟩), .pointer (some ⟨N + 1 + 1, 0, none⟩)]
theorem scan_any (p : Option Addr) (f t : ByteArray) (o back : Bool) (w : World) : Calls Try.prog 23 #[.pointer p, .agg #[.string f, .string t, .bool o], .bool back] w fun e w' =>
    e = .returned (.func (.func 36) #[] #[.pointer (some ⟨w.heap.size, 0, none⟩), .pointer (some ⟨w.heap.size + 1, 0, none⟩), .pointer (some ⟨w.heap.size + 1 + 1, 0, none⟩)]) ∧
    Blk w' w.heap.size 24 #[.pointer p] ∧ Blk w' (w.heap.size + 1) 29 #[.string f, .string t, .bool o] ∧ Blk w' (w.heap.size + 1 + 1) 4 #[.bool back] ∧ Below w.heap.size w w' := by
  have b1 := (Below.refl w.heap.size w).alloc (Nat.le_refl _) (.cells #[.pointer p] 24)
  have B1 := Blk.new w 24 #[.pointer p]
  have s1 := alloc_size w (.cells #[.pointer p] 24)
  go_enter Try.func23, Try.ntmps23
  go_wp2
  go_ret
  generalize w.alloc (.cells #[.pointer p] 24) = w1 at *
  have b2 := (Below.refl w1.heap.size w1).alloc (Nat.le_refl _) (.cells #[.string f, .string t, .bool o] 29)
  have B2 := Blk.new w1 29 #[.string f, .string t, .bool o]
  have s2 := alloc_size w1 (.cells #[.string f, .string t, .bool o] 29)
  generalize w1.alloc (.cells #[.string f, .string t, .bool o] 29) = w2 at *
  have b3 := (Below.refl w2.heap.size w2).alloc (Nat.le_refl _) (.cells #[.bool back] 4)
  have B3 := Blk.new w2 4 #[.bool back]
  generalize w2.alloc (.cells #[.bool back] 4) = w3 at *
  rw [s1] at B2 s2
  rw [s2] at B3
  refine ⟨rfl, (B1.old b2).old b3, B2.old b3, B3, (b1.trans (b2.mono (by omega))).trans (b3.mono (by omega))⟩
/-- Scan of a shelf: the iterator. -/
theorem scan_sh (B : Nat) (L : List Pr) (f t : ByteArray) (o back : Bool) (w : World) (h : ShAt w B L) : Calls Try.prog 23 #[.pointer (some ⟨B, 0, none⟩), .agg #[.string f, .string t, .bool o], .bool back] w fun e w' =>
    e = .returned (.func (.func 36) #[] #[.pointer (some ⟨w.heap.size, 0, none⟩), .pointer (some ⟨w.heap.size + 1, 0, none⟩), .pointer (some ⟨w.heap.size + 1 + 1, 0, none⟩)]) ∧
    ScnAt w' w.heap.size (w.heap.size + 1) (w.heap.size + 1 + 1) B f t o back L ∧ Below w.heap.size w w' :=
  (scan_any (some ⟨B, 0, none⟩) f t o back w).mono fun _ _ ⟨h1, h2, h3, h4, h5⟩ => ⟨h1, ⟨h2, h3, h4, h.old h5⟩, h5⟩
/-- The cells of pairs, one behind another. -/
def cellsP (l : List Pr) : List Value := l.flatMap fun p => [.string p.1, .string p.2]
theorem cellsP_len (l : List Pr) : (cellsP l).length = l.length * 2 := by
  induction l with
  | nil => rfl
  | cons a r ih => simp only [cellsP, List.flatMap_cons, List.length_append, List.length_cons, List.length_nil] at *; omega
theorem cellsP_snoc (l : List Pr) (p : Pr) : cellsP (l ++ [p]) = cellsP l ++ [.string p.1, .string p.2] := by simp [cellsP]
theorem Try.info45 : (Try.prog.info? 45).map (fun i => (i.zero, i.size, i.bytes)) = some (some (.agg #[.string ⟨#[]⟩, .string ⟨#[]⟩]), 2, 32) := by kernel_rfl
end Go.Proofs.Ytklnnkdcnaieoaa
