/- Contracts and lemmas (nothing is claimed here). -/
import Derived.WalkKit
import Derived.Test.YtgefbgpfjbbeaaaGreatDoorProg
import Derived.WalkSpells
import Derived.WalkLawsBesides
import Derived.WalkMore
import Derived.BigFrame
import Derived.Deep.Cut
import Derived.Deep.LoopGhost
import Derived.Deep.RegionWith
import Derived.Deep.RegionHeld
import Derived.Deep.RegionHeldLaw
import Derived.Deep.QuietTactic
import Derived.Deep.OwnRows
import Derived.Below
import Derived.Laws.Rows
import Derived.OwnWalk
import Derived.Lib.Strings
import Derived.Lib.SliceRun
import Derived.Laws.BytesArg
import Derived.Stop.Asserts
namespace Go.Vf

/-- A part: its kind, yes, the number's sign and bytes, the bytes, the items. -/
inductive Prt where
  | mk (kind : Int) (yes below : Bool) (mag raw : ByteArray) (items : List Prt)

namespace Prt
def kind : Prt → Int | mk k _ _ _ _ _ => k
def yes : Prt → Bool | mk _ y _ _ _ _ => y
def neg : Prt → Bool | mk _ _ b _ _ _ => b
def mag : Prt → ByteArray | mk _ _ _ m _ _ => m
def raw : Prt → ByteArray | mk _ _ _ _ r _ => r
def items : Prt → List Prt | mk _ _ _ _ _ l => l
theorem ext {p q : Prt} (h1 : p.kind = q.kind) (h2 : p.yes = q.yes) (h3 : p.neg = q.neg) (h4 : p.mag = q.mag) (h5 : p.raw = q.raw) (h6 : p.items = q.items) : p = q := by
  cases p; cases q
  simp only [kind, yes, neg, mag, raw, items] at h1 h2 h3 h4 h5 h6
  subst h1 h2 h3 h4 h5 h6; rfl
end Prt

/-- Parts are held against each other by the parts within: induction. -/
theorem Prt.ind {C : Prt → Prop} (h : ∀ k y b m r l, (∀ x ∈ l, C x) → C (.mk k y b m r l)) : ∀ p, C p
  | .mk k y b m r l => h k y b m r l fun x _ => Prt.ind h x
termination_by p => SizeOf.sizeOf p
decreasing_by
  simp_wf
  have := List.sizeOf_lt_of_mem ‹x ∈ l›
  omega

mutual
def dep : Prt → Nat
  | .mk k _ _ _ _ l => if k = 7 then depL l + 1 else 0
def depL : List Prt → Nat
  | [] => 0
  | x :: r => max (dep x) (depL r)
end
theorem depL_mem {x : Prt} {l : List Prt} (h : x ∈ l) : dep x ≤ depL l := by
  induction l with
  | nil => simp at h
  | cons a r ih =>
    rw [depL]
    rcases List.mem_cons.1 h with rfl | h
    · omega
    · have := ih h; omega
theorem depL_snoc (l : List Prt) (x : Prt) : depL (l ++ [x]) = max (depL l) (dep x) := by
  induction l with
  | nil => simp [depL]
  | cons a r ih => rw [List.cons_append, depL, depL, ih]; omega
theorem depL_take (l : List Prt) (k : Nat) (hk : k < l.length) : depL (l.take (k + 1)) = max (depL (l.take k)) (dep l[k]) := by
  rw [List.take_succ_eq_append_getElem hk, depL_snoc]

/-- Is a part deeper than so many tuples? -/
def deeper : Nat → Prt → Bool
  | 0, p => decide (p.kind = 7)
  | n + 1, p => decide (p.kind = 7) && p.items.any (deeper n)
theorem deeper0 (k : Int) (y n : Bool) (m r : ByteArray) (l : List Prt) : deeper 0 (.mk k y n m r l) = (k == 7) := rfl
theorem deeperS (d : Nat) (k : Int) (y n : Bool) (m r : ByteArray) (l : List Prt) : deeper (d + 1) (.mk k y n m r l) = ((k == 7) && l.any (deeper d)) := rfl
theorem deeper_dep : ∀ (n : Nat) (p : Prt), deeper n p = decide (n < dep p)
  | 0, .mk k y b m r l => by
    rw [deeper, Prt.kind, dep]
    by_cases h : k = 7 <;> simp [h]
  | n + 1, .mk k y b m r l => by
    rw [deeper, Prt.kind, dep, Prt.items]
    by_cases h : k = 7
    · simp only [h, decide_true, Bool.true_and, if_true]
      rw [Bool.eq_iff_iff]
      simp only [List.any_eq_true, decide_eq_true_eq]
      constructor
      · rintro ⟨x, hx, hd⟩
        rw [deeper_dep n x] at hd
        have := depL_mem hx
        have := of_decide_eq_true hd
        omega
      · intro hd
        have : ∀ l : List Prt, n < depL l → ∃ x ∈ l, n < dep x := by
          intro l
          induction l with
          | nil => intro h; simp [depL] at h
          | cons a q ih =>
            intro h
            rw [depL] at h
            by_cases h1 : n < dep a
            · exact ⟨a, by simp, h1⟩
            · obtain ⟨x, hx, hn⟩ := ih (by omega)
              exact ⟨x, by simp [hx], hn⟩
        obtain ⟨x, hx, hn⟩ := this l (by omega)
        exact ⟨x, hx, by rw [deeper_dep n x]; exact decide_eq_true hn⟩
    · simp [h]

/-- A number that may be. -/
def numOk (b : Bool) (m : ByteArray) : Bool := decide (m.size ≤ 255) && !((m.data.toList.isEmpty && b) || m.data.toList.head? == some 0)
def isRawK (k : Int) : Bool := k == 3 || k == 4 || k == 5 || k == 6
/-- All but what is within. -/
def own1 (p : Prt) : Bool :=
  (p.kind == 1 || !p.yes) && (p.kind == 2 || (!p.neg && p.mag.size == 0)) && (isRawK p.kind || p.raw.size == 0) && (p.kind == 7 || p.items.length == 0)
def own2 (p : Prt) : Bool :=
  p.kind == 0 || p.kind == 1 || (p.kind == 2 && numOk p.neg p.mag) || ((p.kind == 3 || p.kind == 5 || p.kind == 6) && decide (p.raw.size ≤ 65536)) || (p.kind == 4 && p.raw.size == 16) || (p.kind == 7 && decide (p.items.length ≤ 1024))
mutual
def may : Prt → Bool
  | .mk k y b m r l => own1 (.mk k y b m r l) && own2 (.mk k y b m r l) && mayL l
def mayL : List Prt → Bool
  | [] => true
  | x :: r => may x && mayL r
end
theorem mayL_all (l : List Prt) : mayL l = l.all may := by
  induction l with
  | nil => rfl
  | cons a r ih => rw [mayL, ih]; rfl
theorem may_eq (p : Prt) : may p = (own1 p && own2 p && p.items.all may) := by
  cases p with | mk k y b m r l => rw [may, mayL_all]; rfl

mutual
def wt : Prt → Nat
  | .mk _ _ _ m r l => 16 + r.size + m.size + wtL l
def wtL : List Prt → Nat
  | [] => 0
  | x :: r => wt x + wtL r
end
theorem wtL_mem {x : Prt} {l : List Prt} (h : x ∈ l) : wt x ≤ wtL l := by
  induction l with
  | nil => simp at h
  | cons a r ih =>
    rw [wtL]
    rcases List.mem_cons.1 h with rfl | h
    · omega
    · have := ih h; omega
theorem wt_eq (p : Prt) : wt p = 16 + p.raw.size + p.mag.size + wtL p.items := by
  cases p with | mk k y b m r l => rw [wt]; rfl
theorem wt_ge (p : Prt) : 16 ≤ wt p := by rw [wt_eq]; omega
theorem wtL_len (l : List Prt) : 16 * l.length ≤ wtL l := by
  induction l with
  | nil => simp
  | cons a r ih => rw [wtL]; have := wt_ge a; simp; omega

/-- How the statements weigh: it ends above the bound. -/
def mostW : Nat := 67108864
mutual
def hvy : Prt → Nat → Nat → Nat
  | .mk _ _ _ m r l, n, d => if 300 < d then mostW + 1 else hvyL l (n + 16 + r.size + m.size) (d + 1)
def hvyL : List Prt → Nat → Nat → Nat
  | [], n, _ => n
  | x :: q, n, d => if n ≤ mostW then hvyL q (hvy x n d) d else n
end
theorem hvyL_above (l : List Prt) (n d : Nat) (h : mostW < n) : hvyL l n d = n := by
  cases l with
  | nil => rw [hvyL]
  | cons a r => rw [hvyL, if_neg (by omega)]
theorem hvy_wt : ∀ (p : Prt) (n d : Nat), n ≤ hvy p n d ∨ mostW < hvy p n d := by
  intro p
  induction p using Prt.ind with
  | h k y b m r l ih =>
    intro n d
    rw [hvy]
    split
    · right; omega
    · have : ∀ (q : List Prt), (∀ x ∈ q, x ∈ l) → ∀ n', n' ≤ hvyL q n' (d + 1) ∨ mostW < hvyL q n' (d + 1) := by
        intro q
        induction q with
        | nil => intro _ n'; left; rw [hvyL]; omega
        | cons a t iht =>
          intro hq n'
          rw [hvyL]
          split
          · rcases ih a (hq a (by simp)) n' (d + 1) with h | h
            · rcases iht (fun x hx => hq x (by simp [hx])) (hvy a n' (d + 1)) with h2 | h2
              · left; omega
              · right; exact h2
            · right; rw [hvyL_above _ _ _ h]; exact h
          · left; omega
      rcases this l (fun x hx => hx) (n + 16 + r.size + m.size) with h | h
      · left; omega
      · right; exact h
/-- What is not above the bound was weighed whole. -/
theorem hvy_small : ∀ (p : Prt) (n d : Nat), hvy p n d ≤ mostW → hvy p n d = n + wt p := by
  intro p
  induction p using Prt.ind with
  | h k y b m r l ih =>
    intro n d
    rw [hvy, wt]
    split
    · intro h; exfalso; omega
    · have : ∀ (q : List Prt), (∀ x ∈ q, x ∈ l) → ∀ n', hvyL q n' (d + 1) ≤ mostW → hvyL q n' (d + 1) = n' + wtL q := by
        intro q
        induction q with
        | nil => intro _ n' _; rw [hvyL, wtL]; omega
        | cons a t iht =>
          intro hq n'
          rw [hvyL, wtL]
          split
          · intro h
            by_cases h1 : mostW < hvy a n' (d + 1)
            · rw [hvyL_above _ _ _ h1] at h; omega
            · have e1 := ih a (hq a (by simp)) n' (d + 1) (by omega)
              have e2 := iht (fun x hx => hq x (by simp [hx])) (hvy a n' (d + 1)) h
              rw [e2, e1]; omega
          · intro h; omega
      intro h
      rw [this l (fun x hx => hx) _ h]
      omega
end Go.Vf

namespace Go.Proofs.YtgefbgpfjbbeaaaGreatDoor
open Go.RowKit Go.Vf

/-! ### blocks -/
def Blk (W : World) (B : Nat) (t : TypeId) (cs : Array Value) : Prop := W.heap[B]? = some (.cells cs t (0, 0))
theorem Blk.lt {W : World} {B : Nat} {t : TypeId} {cs : Array Value} (h : Blk W B t cs) : B < W.heap.size := (Array.getElem?_eq_some_iff.1 h).1
theorem Blk.cell {W : World} {B : Nat} {t : TypeId} {cs : Array Value} (h : Blk W B t cs) (j : Nat) : W.cell? ⟨B, j, none⟩ = cs[j]? := by simp [World.cell?, show W.heap[B]? = _ from h]
theorem Blk.frozen {W : World} {B : Nat} {t : TypeId} {cs : Array Value} (h : Blk W B t cs) (j : Nat) : W.frozen? ⟨B, j, none⟩ = false := by simp [World.frozen?, show W.heap[B]? = _ from h]
theorem Blk.new (W : World) (t : TypeId) (cs : Array Value) : Blk (W.alloc (.cells cs t)) W.heap.size t cs := heap_alloc_new W _
theorem Blk.below {W W' : World} {B n : Nat} {t : TypeId} {cs : Array Value} (h : Blk W B t cs) (hb : Below n W W') (hB : B < n) : Blk W' B t cs := (hb.block B hB).trans h
theorem Blk.old {w w' : World} {b : Nat} {t : TypeId} {cs : Array Value} (h : Blk w b t cs) (hb : Below w.heap.size w w') : Blk w' b t cs := h.below hb h.lt
theorem Blk.set {W : World} {B : Nat} {t : TypeId} {cs : Array Value} (j : Nat) (v : Value) (h : Blk W B t cs) : Blk (W.setCell ⟨B, j, none⟩ v) B t (cs.setIfInBounds j v) := by
  obtain ⟨hlt, hk⟩ := Array.getElem?_eq_some_iff.1 h
  show (W.heap.modify B _)[B]? = _
  rw [Array.getElem?_eq_getElem (by rw [Array.size_modify]; exact hlt), Array.getElem_modify_self, hk]
  rfl
theorem Blk.other {W : World} {B : Nat} {t : TypeId} {cs : Array Value} (h : Blk W B t cs) {p : Addr} (hp : B ≠ p.block) (v : Value) : Blk (W.setCell p v) B t cs := (Below.heap_setCell W p v B hp).trans h
theorem alloc_size (W : World) (o : Obj) : (W.alloc o).heap.size = W.heap.size + 1 := by show (W.heap.push _).size = _; simp

/-- The six cells of a part, its items at a. -/
def cellsP (p : Prt) (a : Option Addr) (c : Nat) : Array Value := #[.int .u8 p.kind, .bool p.yes, .bool p.neg, .string p.mag, .string p.raw, .slice a p.items.length c]
/-- A part as a value. -/
def pV (p : Prt) (a : Option Addr) (c : Nat) : Value := .agg #[.int .u8 p.kind, .bool p.yes, .bool p.neg, .string p.mag, .string p.raw, .slice a p.items.length c]

/-- The six cells at that place. -/
structure Row6 (w : World) (b off : Nat) (p : Prt) (a : Option Addr) (c : Nat) : Prop where
  c0 : w.cell? ⟨b, off, none⟩ = some (.int .u8 p.kind)
  c1 : w.cell? ⟨b, off + 1, none⟩ = some (.bool p.yes)
  c2 : w.cell? ⟨b, off + 2, none⟩ = some (.bool p.neg)
  c3 : w.cell? ⟨b, off + 3, none⟩ = some (.string p.mag)
  c4 : w.cell? ⟨b, off + 4, none⟩ = some (.string p.raw)
  c5 : w.cell? ⟨b, off + 5, none⟩ = some (.slice a p.items.length c)

theorem Blk.row6 {w : World} {b : Nat} {t : TypeId} {k : Int} {y n : Bool} {m r : ByteArray} {l : List Prt} {a : Option Addr} {c : Nat} (h : Blk w b t #[.int .u8 k, .bool y, .bool n, .string m, .string r, .slice a l.length c]) : Row6 w b 0 (.mk k y n m r l) a c :=
  ⟨h.cell 0, h.cell 1, h.cell 2, h.cell 3, h.cell 4, h.cell 5⟩
theorem Blk.c6 {w : World} {b : Nat} {t : TypeId} {a0 a1 a2 a3 a4 a5 : Value} (h : Blk w b t #[a0, a1, a2, a3, a4, a5]) :
    (w.cell? ⟨b, 0, none⟩ = some a0 ∧ w.cell? ⟨b, 1, none⟩ = some a1 ∧ w.cell? ⟨b, 2, none⟩ = some a2 ∧ w.cell? ⟨b, 3, none⟩ = some a3 ∧ w.cell? ⟨b, 4, none⟩ = some a4 ∧ w.cell? ⟨b, 5, none⟩ = some a5) :=
  ⟨h.cell 0, h.cell 1, h.cell 2, h.cell 3, h.cell 4, h.cell 5⟩
/-- The items of p lie at a, in blocks from lo on, below n₀; and so on within. -/
inductive PIn (w : World) (lo n₀ : Nat) : Prt → Option Addr → Prop where
  | nil {p : Prt} {a : Option Addr} : p.items = [] → PIn w lo n₀ p a
  | cons {p : Prt} {b off : Nat} (A : Nat → Option Addr) (C : Nat → Nat) : lo ≤ b → b < n₀ → (∀ j (hj : j < p.items.length), Row6 w b (off + j * 6) p.items[j] (A j) (C j)) →
      (∀ j (hj : j < p.items.length), PIn w lo n₀ p.items[j] (A j)) → PIn w lo n₀ p (some ⟨b, off, none⟩)

theorem Row6.below {w w' : World} {b off n : Nat} {p : Prt} {a : Option Addr} {c : Nat} (h : Row6 w b off p a c) (hb : Below n w w') (hn : b < n) : Row6 w' b off p a c := by
  have q : ∀ k, w'.cell? ⟨b, k, none⟩ = w.cell? ⟨b, k, none⟩ := fun k => hb.cell (p := ⟨b, k, none⟩) hn
  exact ⟨(q _).trans h.c0, (q _).trans h.c1, (q _).trans h.c2, (q _).trans h.c3, (q _).trans h.c4, (q _).trans h.c5⟩
theorem PIn.keep {w w' : World} {lo n₀ n : Nat} {p : Prt} {a : Option Addr} (h : PIn w lo n₀ p a) (hb : Below n w w') (hn : n₀ ≤ n) : PIn w' lo n₀ p a := by
  induction h with
  | nil h => exact .nil h
  | cons A C hlo hlt hr _ ih => exact .cons A C hlo hlt (fun j hj => (hr j hj).below hb (by omega)) ih
theorem cell_of_block {w w' : World} {h : Nat} (e : w'.heap[h]? = w.heap[h]?) (k : Nat) : w'.cell? ⟨h, k, none⟩ = w.cell? ⟨h, k, none⟩ := by
  unfold World.cell?
  simp only [e]
theorem PIn.keep' {w w' : World} {lo n₀ : Nat} {p : Prt} {a : Option Addr} (h : PIn w lo n₀ p a) (hb : ∀ b, lo ≤ b → b < n₀ → w'.heap[b]? = w.heap[b]?) : PIn w' lo n₀ p a := by
  induction h with
  | nil h => exact .nil h
  | cons A C hlo hlt hr _ ih =>
    refine .cons A C hlo hlt (fun j hj => ?_) ih
    have q := fun k => cell_of_block (hb _ hlo hlt) k
    obtain ⟨h0, h1, h2, h3, h4, h5⟩ := hr j hj
    exact ⟨(q _).trans h0, (q _).trans h1, (q _).trans h2, (q _).trans h3, (q _).trans h4, (q _).trans h5⟩
theorem PIn.mono {w : World} {lo lo' n₀ n : Nat} {p : Prt} {a : Option Addr} (h : PIn w lo n₀ p a) (hn : n₀ ≤ n) (hlo : lo' ≤ lo) : PIn w lo' n p a := by
  induction h with
  | nil h => exact .nil h
  | cons A C h1 hlt hr _ ih => exact .cons A C (by omega) (by omega) hr ih
theorem PIn.at {w : World} {lo n₀ : Nat} {p : Prt} {a : Option Addr} (h : PIn w lo n₀ p a) {j : Nat} (hj : j < p.items.length) : ∃ b off aj cj, a = some ⟨b, off, none⟩ ∧ lo ≤ b ∧ b < n₀ ∧ Row6 w b (off + j * 6) p.items[j] aj cj ∧ PIn w lo n₀ p.items[j] aj := by
  cases h with
  | nil h => rw [h] at hj; simp at hj
  | cons A C hlo hlt hr hin => exact ⟨_, _, A j, C j, rfl, hlo, hlt, hr j hj, hin j hj⟩

end Go.Proofs.YtgefbgpfjbbeaaaGreatDoor

namespace Go.Proofs.YtgefbgpfjbbeaaaGreatDoor
open Go.RowKit Go.Vf

/-- Strings and lists that a machine bears. -/
inductive Fits : Prt → Prop where
  | mk {p : Prt} : 0 ≤ p.kind → p.raw.size ≤ 281474976710656 → p.mag.size ≤ 281474976710656 → p.items.length ≤ 281474976710656 → (∀ x ∈ p.items, Fits x) → Fits p
theorem Fits.pos {p : Prt} (h : Fits p) : 0 ≤ p.kind := by cases h; assumption
theorem Fits.raw {p : Prt} (h : Fits p) : p.raw.size ≤ 281474976710656 := by cases h; assumption
theorem Fits.mag {p : Prt} (h : Fits p) : p.mag.size ≤ 281474976710656 := by cases h; assumption
theorem Fits.len {p : Prt} (h : Fits p) : p.items.length ≤ 281474976710656 := by cases h; assumption
theorem Fits.mem {p x : Prt} (h : Fits p) (hx : x ∈ p.items) : Fits x := by cases h; rename_i h1; exact h1 x hx


end Go.Proofs.YtgefbgpfjbbeaaaGreatDoor
