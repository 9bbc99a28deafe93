/- Parts in memory: what a slice of parts holds (lemmas; nothing is claimed here). -/
import Derived.Test.YtnjfkijekohdkaaDoorVMath
import Derived.Test.YtnjfkijekohdkaaDoorProg
import Derived.WalkKit
import Derived.WalkSpells
import Derived.WalkLawsBesides
import Derived.WalkMore
import Derived.BigFrame
import Derived.Deep.Cut
import Derived.Deep.LoopGhost
import Derived.Deep.RegionWith
import Derived.Deep.RegionHeld
import Derived.Deep.RegionHeldLaw
import Derived.Deep.QuietTactic
import Derived.Deep.OwnRows
import Derived.Below
import Derived.Laws.Rows
import Derived.OwnWalk
import Derived.Lib.Strings
import Derived.Lib.SliceRun
import Derived.Laws.BytesArg
import Derived.Stop.Asserts
namespace Go.Proofs.YtnjfkijekohdkaaDoor
open Go.RowKit Go.Vf

/-! ### blocks -/
def Blk (W : World) (B : Nat) (t : TypeId) (cs : Array Value) : Prop := W.heap[B]? = some (.cells cs t (0, 0))
theorem Blk.lt {W : World} {B : Nat} {t : TypeId} {cs : Array Value} (h : Blk W B t cs) : B < W.heap.size := (Array.getElem?_eq_some_iff.1 h).1
theorem Blk.cell {W : World} {B : Nat} {t : TypeId} {cs : Array Value} (h : Blk W B t cs) (j : Nat) : W.cell? ⟨B, j, none⟩ = cs[j]? := by simp [World.cell?, show W.heap[B]? = _ from h]
theorem Blk.frozen {W : World} {B : Nat} {t : TypeId} {cs : Array Value} (h : Blk W B t cs) (j : Nat) : W.frozen? ⟨B, j, none⟩ = false := by simp [World.frozen?, show W.heap[B]? = _ from h]
theorem Blk.new (W : World) (t : TypeId) (cs : Array Value) : Blk (W.alloc (.cells cs t)) W.heap.size t cs := heap_alloc_new W _
theorem Blk.below {W W' : World} {B n : Nat} {t : TypeId} {cs : Array Value} (h : Blk W B t cs) (hb : Below n W W') (hB : B < n) : Blk W' B t cs := (hb.block B hB).trans h
theorem Blk.old {w w' : World} {b : Nat} {t : TypeId} {cs : Array Value} (h : Blk w b t cs) (hb : Below w.heap.size w w') : Blk w' b t cs := h.below hb h.lt
theorem Blk.set {W : World} {B : Nat} {t : TypeId} {cs : Array Value} (j : Nat) (v : Value) (h : Blk W B t cs) : Blk (W.setCell ⟨B, j, none⟩ v) B t (cs.setIfInBounds j v) := by
  obtain ⟨hlt, hk⟩ := Array.getElem?_eq_some_iff.1 h
  show (W.heap.modify B _)[B]? = _
  rw [Array.getElem?_eq_getElem (by rw [Array.size_modify]; exact hlt), Array.getElem_modify_self, hk]
  rfl
theorem Blk.other {W : World} {B : Nat} {t : TypeId} {cs : Array Value} (h : Blk W B t cs) {p : Addr} (hp : B ≠ p.block) (v : Value) : Blk (W.setCell p v) B t cs := (Below.heap_setCell W p v B hp).trans h
theorem alloc_size (W : World) (o : Obj) : (W.alloc o).heap.size = W.heap.size + 1 := by show (W.heap.push _).size = _; simp

/-- The six cells of a part, its items at a. -/
def cellsP (p : Prt) (a : Option Addr) (c : Nat) : Array Value := #[.int .u8 p.kind, .bool p.yes, .bool p.neg, .string p.mag, .string p.raw, .slice a p.items.length c]
/-- A part as a value. -/
def pV (p : Prt) (a : Option Addr) (c : Nat) : Value := .agg #[.int .u8 p.kind, .bool p.yes, .bool p.neg, .string p.mag, .string p.raw, .slice a p.items.length c]

/-- The six cells at that place. -/
structure Row6 (w : World) (b off : Nat) (p : Prt) (a : Option Addr) (c : Nat) : Prop where
  c0 : w.cell? ⟨b, off, none⟩ = some (.int .u8 p.kind)
  c1 : w.cell? ⟨b, off + 1, none⟩ = some (.bool p.yes)
  c2 : w.cell? ⟨b, off + 2, none⟩ = some (.bool p.neg)
  c3 : w.cell? ⟨b, off + 3, none⟩ = some (.string p.mag)
  c4 : w.cell? ⟨b, off + 4, none⟩ = some (.string p.raw)
  c5 : w.cell? ⟨b, off + 5, none⟩ = some (.slice a p.items.length c)

theorem Blk.row6 {w : World} {b : Nat} {t : TypeId} {k : Int} {y n : Bool} {m r : ByteArray} {l : List Prt} {a : Option Addr} {c : Nat} (h : Blk w b t #[.int .u8 k, .bool y, .bool n, .string m, .string r, .slice a l.length c]) : Row6 w b 0 (.mk k y n m r l) a c :=
  ⟨h.cell 0, h.cell 1, h.cell 2, h.cell 3, h.cell 4, h.cell 5⟩
theorem Blk.c6 {w : World} {b : Nat} {t : TypeId} {a0 a1 a2 a3 a4 a5 : Value} (h : Blk w b t #[a0, a1, a2, a3, a4, a5]) :
    (w.cell? ⟨b, 0, none⟩ = some a0 ∧ w.cell? ⟨b, 1, none⟩ = some a1 ∧ w.cell? ⟨b, 2, none⟩ = some a2 ∧ w.cell? ⟨b, 3, none⟩ = some a3 ∧ w.cell? ⟨b, 4, none⟩ = some a4 ∧ w.cell? ⟨b, 5, none⟩ = some a5) :=
  ⟨h.cell 0, h.cell 1, h.cell 2, h.cell 3, h.cell 4, h.cell 5⟩
/-- The items of p lie at a, in blocks from lo on, below n₀; and so on within. -/
inductive PIn (w : World) (lo n₀ : Nat) : Prt → Option Addr → Prop where
  | nil {p : Prt} {a : Option Addr} : p.items = [] → PIn w lo n₀ p a
  | cons {p : Prt} {b off : Nat} (A : Nat → Option Addr) (C : Nat → Nat) : lo ≤ b → b < n₀ → (∀ j (hj : j < p.items.length), Row6 w b (off + j * 6) p.items[j] (A j) (C j)) →
      (∀ j (hj : j < p.items.length), PIn w lo n₀ p.items[j] (A j)) → PIn w lo n₀ p (some ⟨b, off, none⟩)

theorem Row6.below {w w' : World} {b off n : Nat} {p : Prt} {a : Option Addr} {c : Nat} (h : Row6 w b off p a c) (hb : Below n w w') (hn : b < n) : Row6 w' b off p a c := by
  have q : ∀ k, w'.cell? ⟨b, k, none⟩ = w.cell? ⟨b, k, none⟩ := fun k => hb.cell (p := ⟨b, k, none⟩) hn
  exact ⟨(q _).trans h.c0, (q _).trans h.c1, (q _).trans h.c2, (q _).trans h.c3, (q _).trans h.c4, (q _).trans h.c5⟩
theorem PIn.keep {w w' : World} {lo n₀ n : Nat} {p : Prt} {a : Option Addr} (h : PIn w lo n₀ p a) (hb : Below n w w') (hn : n₀ ≤ n) : PIn w' lo n₀ p a := by
  induction h with
  | nil h => exact .nil h
  | cons A C hlo hlt hr _ ih => exact .cons A C hlo hlt (fun j hj => (hr j hj).below hb (by omega)) ih
theorem cell_of_block {w w' : World} {h : Nat} (e : w'.heap[h]? = w.heap[h]?) (k : Nat) : w'.cell? ⟨h, k, none⟩ = w.cell? ⟨h, k, none⟩ := by
  unfold World.cell?
  simp only [e]
theorem PIn.keep' {w w' : World} {lo n₀ : Nat} {p : Prt} {a : Option Addr} (h : PIn w lo n₀ p a) (hb : ∀ b, lo ≤ b → b < n₀ → w'.heap[b]? = w.heap[b]?) : PIn w' lo n₀ p a := by
  induction h with
  | nil h => exact .nil h
  | cons A C hlo hlt hr _ ih =>
    refine .cons A C hlo hlt (fun j hj => ?_) ih
    have q := fun k => cell_of_block (hb _ hlo hlt) k
    obtain ⟨h0, h1, h2, h3, h4, h5⟩ := hr j hj
    exact ⟨(q _).trans h0, (q _).trans h1, (q _).trans h2, (q _).trans h3, (q _).trans h4, (q _).trans h5⟩
theorem PIn.mono {w : World} {lo lo' n₀ n : Nat} {p : Prt} {a : Option Addr} (h : PIn w lo n₀ p a) (hn : n₀ ≤ n) (hlo : lo' ≤ lo) : PIn w lo' n p a := by
  induction h with
  | nil h => exact .nil h
  | cons A C h1 hlt hr _ ih => exact .cons A C (by omega) (by omega) hr ih
theorem PIn.at {w : World} {lo n₀ : Nat} {p : Prt} {a : Option Addr} (h : PIn w lo n₀ p a) {j : Nat} (hj : j < p.items.length) : ∃ b off aj cj, a = some ⟨b, off, none⟩ ∧ lo ≤ b ∧ b < n₀ ∧ Row6 w b (off + j * 6) p.items[j] aj cj ∧ PIn w lo n₀ p.items[j] aj := by
  cases h with
  | nil h => rw [h] at hj; simp at hj
  | cons A C hlo hlt hr hin => exact ⟨_, _, A j, C j, rfl, hlo, hlt, hr j hj, hin j hj⟩

end Go.Proofs.YtnjfkijekohdkaaDoor
