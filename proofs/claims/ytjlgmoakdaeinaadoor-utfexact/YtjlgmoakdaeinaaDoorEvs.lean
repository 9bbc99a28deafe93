/- What utf.characters tells, one by one, and blocks of cells (lemmas of the verifier's own). -/
import Derived.Test.YtjlgmoakdaeinaaDoorPoint
import Derived.RangeFuncNested
import Derived.RangeFuncBound
import Derived.RangeFuncCalls
import Derived.RangeFuncLeaves
import Derived.Shelf.Abstract
import Derived.Shelf.RegionOpen
import Derived.WalkKit
import Derived.OwnWalkIn
import Derived.TacticsInMore
import Derived.LoopNIn
import Derived.LoopIn
namespace Go.Vf

/-- The places and points of characters, one behind the other. -/
def pl : Nat → List Nat → List (Nat × Int)
  | _, [] => []
  | at_, p :: ps => (at_, (p : Int)) :: pl (at_ + (enc p).length) ps

theorem pl_append (at_ : Nat) (a b : List Nat) : pl at_ (a ++ b) = pl at_ a ++ pl (at_ + (encs a).length) b := by
  induction a generalizing at_ with
  | nil => simp [pl, encs]
  | cons p ps ih => simp [pl, encs, ih, Nat.add_assoc]

theorem pl_length (at_ : Nat) (ps : List Nat) : (pl at_ ps).length = ps.length := by
  induction ps generalizing at_ with
  | nil => rfl
  | cons p ps ih => simp [pl, ih]

theorem pl_snd (at_ : Nat) (ps : List Nat) : (pl at_ ps).map (·.2) = ps.map (fun p : Nat => (p : Int)) := by
  induction ps generalizing at_ with
  | nil => rfl
  | cons p ps ih => simp [pl, ih]

theorem pl_pos {at_ : Nat} {ps : List Nat} {x : Nat × Int} (h : x ∈ pl at_ ps) : 0 ≤ x.2 := by
  have : x.2 ∈ (pl at_ ps).map (·.2) := List.mem_map_of_mem h
  rw [pl_snd] at this
  obtain ⟨p, _, hp⟩ := List.mem_map.1 this
  omega

/-- All that is told of a text of these characters, with that behind them. -/
def full (ps : List Nat) (rest : List UInt8) : List (Nat × Int) := pl 0 ps ++ (if rest = [] then [] else [((encs ps).length, -1)])

theorem full_length (ps : List Nat) (rest : List UInt8) : (full ps rest).length ≤ (encs ps ++ rest).length := by
  have := encs_length_ge ps
  unfold full
  rw [List.length_append, pl_length, List.length_append]
  cases rest with
  | nil => simp; omega
  | cons c t => simp; omega

theorem full_nil (ps : List Nat) : full ps [] = pl 0 ps := by simp [full]
theorem full_broken (ps : List Nat) {rest : List UInt8} (h : rest ≠ []) : full ps rest = pl 0 ps ++ [((encs ps).length, -1)] := by simp [full, h]

theorem full_prefix (ps1 ps2 : List Nat) (rest : List UInt8) : pl 0 ps1 <+: full (ps1 ++ ps2) rest := by
  unfold full; rw [pl_append, List.append_assoc]; exact List.prefix_append _ _

/-- What no longer goes on ended at what is none: it is all. -/
theorem full_end {ps : List Nat} {rest : List UInt8} {ini : List (Nat × Int)} {x : Nat × Int} (h : ini ++ [x] <+: full ps rest) (hx : x.2 = -1) : rest ≠ [] ∧ x.1 = (encs ps).length ∧ ini = pl 0 ps := by
  unfold full at h
  by_cases hr : rest = []
  · rw [if_pos hr, List.append_nil] at h
    have : x ∈ pl 0 ps := h.subset (by simp)
    have := pl_pos this
    omega
  · rw [if_neg hr] at h
    obtain ⟨t, ht⟩ := h
    rcases List.eq_nil_or_concat t with rfl | ⟨t', y, rfl⟩
    · rw [List.append_nil] at ht
      obtain ⟨h1, h2⟩ := List.append_inj' ht rfl
      simp only [List.cons.injEq, and_true] at h2
      exact ⟨hr, by rw [h2], h1⟩
    · rw [List.concat_eq_append, ← List.append_assoc] at ht
      obtain ⟨h1, h2⟩ := List.append_inj' ht rfl
      have : x ∈ pl 0 ps := by rw [← h1]; simp
      have := pl_pos this
      omega

end Go.Vf
namespace Go.Proofs.YtjlgmoakdaeinaaDoor
open Go.RowKit Go.Vf Go.Shelf

/-- A block of cells of its own. -/
def Blk (W : World) (B : Nat) (t : TypeId) (cs : Array Value) : Prop := W.heap[B]? = some (.cells cs t (0, 0))

theorem Blk.lt {W : World} {B : Nat} {t : TypeId} {cs : Array Value} (h : Blk W B t cs) : B < W.heap.size := (Array.getElem?_eq_some_iff.1 h).1
theorem Blk.cell {W : World} {B : Nat} {t : TypeId} {cs : Array Value} (h : Blk W B t cs) (j : Nat) : W.cell? ⟨B, j, none⟩ = cs[j]? := by simp [World.cell?, show W.heap[B]? = _ from h]
theorem Blk.frozen {W : World} {B : Nat} {t : TypeId} {cs : Array Value} (h : Blk W B t cs) (j : Nat) : W.frozen? ⟨B, j, none⟩ = false := by simp [World.frozen?, show W.heap[B]? = _ from h]
theorem Blk.new (W : World) (t : TypeId) (cs : Array Value) : Blk (W.alloc (.cells cs t)) W.heap.size t cs := World.alloc_heap_new W _
theorem Blk.below {W W' : World} {B n : Nat} {t : TypeId} {cs : Array Value} (h : Blk W B t cs) (hb : Below n W W') (hB : B < n) : Blk W' B t cs := (hb.block B hB).trans h
theorem Blk.set {W : World} {B : Nat} {t : TypeId} {cs : Array Value} (j : Nat) (v : Value) (h : Blk W B t cs) : Blk (W.setCell ⟨B, j, none⟩ v) B t (cs.setIfInBounds j v) := by
  obtain ⟨hlt, hk⟩ := Array.getElem?_eq_some_iff.1 h
  show (W.heap.modify B _)[B]? = _
  rw [Array.getElem?_eq_getElem (by rw [Array.size_modify]; exact hlt), Array.getElem_modify_self, hk]
  rfl
theorem Blk.put7 {W : World} {B : Nat} {t : TypeId} {a b c d e f g : Value} (h : Blk W B t #[a, b, c, d, e, f, g]) (a' b' c' d' e' f' g' : Value) : Blk (put7 W B a' b' c' d' e' f' g') B t #[a', b', c', d', e', f', g'] := by
  have := ((((((h.set 0 a').set 1 b').set 2 c').set 3 d').set 4 e').set 5 f').set 6 g'
  simp only [List.setIfInBounds_toArray, List.set_cons_zero, List.set_cons_succ] at this
  exact this

/-- What a loop's body keeps of which the iterator speaks: what lay ahead, texts and rows. -/
def Kpt (n₀ : Nat) (A B : World) : Prop := Below n₀ A B ∧ ∀ k t cs, t = 48 ∨ t = 9 → Blk A k t cs → Blk B k t cs

theorem Kpt.refl (n₀ : Nat) (A : World) : Kpt n₀ A A := ⟨Below.refl _ _, fun _ _ _ _ h => h⟩
theorem Kpt.trans {n₀ : Nat} {A B C : World} (h : Kpt n₀ A B) (k : Kpt n₀ B C) : Kpt n₀ A C := ⟨h.1.trans k.1, fun i t cs ht hi => k.2 i t cs ht (h.2 i t cs ht hi)⟩
theorem Kpt.putObj {n₀ : Nat} {w : World} (hn : n₀ ≤ w.heap.size) (W : World) (l : Nat) (o o' : Obj) (hl : w.heap.size ≤ l) (ho : W.heap[l]? = some o) (hc : o.isCells = false) (_ : o.isWalk = false) : Kpt n₀ W (W.putObj l o') := by
  refine ⟨?_, fun k t cs _ hk => ?_⟩
  · exact (Below.refl n₀ W).grown (grownBy_putObj' W l o') (by have := (Array.getElem?_eq_some_iff.1 ho).1; omega) (fun k e => by cases e; omega)
  · have hne : k ≠ l := by
      rintro rfl
      rw [show W.heap[k]? = _ from hk] at ho
      cases ho
      cases hc
    exact (World.putObj_heap_other hne).trans hk

theorem grown_of_below {A B : World} (h : Below A.heap.size A B) : A.grownBy B none := ⟨h.os, h.tape, h.output, h.size, fun k hk _ => h.block k hk⟩

theorem put7_def (w : World) (h : Nat) (a b c d e f g : Value) : ((((((w.setCell ⟨h, 0, none⟩ a).setCell ⟨h, 1, none⟩ b).setCell ⟨h, 2, none⟩ c).setCell ⟨h, 3, none⟩ d).setCell ⟨h, 4, none⟩ e).setCell ⟨h, 5, none⟩ f).setCell ⟨h, 6, none⟩ g = put7 w h a b c d e f g := rfl

/-- The cells of a row in a block. -/
def rowCs (k : Nat) : Array Value := #[.int .u8 ((utab k).first : Int), .int .u8 ((utab k).last : Int), .int .u8 ((utab k).low : Int), .int .u8 ((utab k).high : Int), .int .i64 ((utab k).size : Int), .int .i64 ((utab k).least : Int), .int .i64 ((utab k).most : Int)]

theorem row_stored (w : World) (cs : Array Value) (hcs : cs = #[.int .u8 0, .int .u8 0, .int .u8 0, .int .u8 0, .int .i64 0, .int .i64 0, .int .i64 0]) (a b c d e f g : Value) :
    Blk (put7 (w.alloc (.cells cs 48)) w.heap.size a b c d e f g) w.heap.size 48 #[a, b, c, d, e, f, g] ∧ Below w.heap.size w (put7 (w.alloc (.cells cs 48)) w.heap.size a b c d e f g) := by
  subst hcs
  exact ⟨(Blk.new w 48 _).put7 _ _ _ _ _ _ _, below_put7 ((Below.refl _ _).alloc (Nat.le_refl _) _) (Nat.le_refl _) _ _ _ _ _ _ _⟩

/-- The text's box and the row's, in the world behind a call. -/
theorem keep_two {w w' : World} {Bs b : Nat} {s : Value} {a0 a1 a2 a3 a4 a5 a6 : Value} (hb : Below w.heap.size w w')
    (h : w.cell? ⟨Bs, 0, none⟩ = some s ∧ w.cell? ⟨b, 0, none⟩ = some a0 ∧ w.cell? ⟨b, 1, none⟩ = some a1 ∧ w.cell? ⟨b, 2, none⟩ = some a2 ∧ w.cell? ⟨b, 3, none⟩ = some a3 ∧ w.cell? ⟨b, 4, none⟩ = some a4 ∧ w.cell? ⟨b, 5, none⟩ = some a5 ∧ w.cell? ⟨b, 6, none⟩ = some a6 ∧ Bs < w.heap.size ∧ b < w.heap.size) :
    w'.cell? ⟨Bs, 0, none⟩ = some s ∧ w'.cell? ⟨b, 0, none⟩ = some a0 ∧ w'.cell? ⟨b, 1, none⟩ = some a1 ∧ w'.cell? ⟨b, 2, none⟩ = some a2 ∧ w'.cell? ⟨b, 3, none⟩ = some a3 ∧ w'.cell? ⟨b, 4, none⟩ = some a4 ∧ w'.cell? ⟨b, 5, none⟩ = some a5 ∧ w'.cell? ⟨b, 6, none⟩ = some a6 ∧ Bs < w'.heap.size ∧ b < w'.heap.size := by
  obtain ⟨h0, h1, h2, h3, h4, h5, h6, h7, l1, l2⟩ := h
  exact ⟨(hb.cell (p := ⟨Bs, 0, none⟩) l1).trans h0, (hb.cell (p := ⟨b, 0, none⟩) l2).trans h1, (hb.cell (p := ⟨b, 1, none⟩) l2).trans h2, (hb.cell (p := ⟨b, 2, none⟩) l2).trans h3, (hb.cell (p := ⟨b, 3, none⟩) l2).trans h4, (hb.cell (p := ⟨b, 4, none⟩) l2).trans h5, (hb.cell (p := ⟨b, 5, none⟩) l2).trans h6, (hb.cell (p := ⟨b, 6, none⟩) l2).trans h7, Nat.lt_of_lt_of_le l1 hb.size, Nat.lt_of_lt_of_le l2 hb.size⟩

end Go.Proofs.YtjlgmoakdaeinaaDoor
