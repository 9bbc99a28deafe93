/- Nodes in memory; what compares keys; the height of a node (contracts; nothing is claimed here). -/
import Derived.Test.YtklnnkdcnaieoaaMth
import Derived.Test.YtklnnkdcnaieoaaProg
import Derived.WalkKit
import Derived.WalkSpells
import Derived.WalkLawsBesides
import Derived.WalkMore
import Derived.BigFrame
import Derived.Deep.Cut
import Derived.Deep.LoopGhost
import Derived.Deep.RegionWith
import Derived.Deep.RegionHeld
import Derived.Deep.RegionHeldLaw
import Derived.Deep.QuietTactic
import Derived.Deep.OwnRows
import Derived.Below
import Derived.Laws.Rows
import Derived.OwnWalk
import Derived.Lib.Strings
import Derived.Lib.SliceRun
import Derived.Lib.Bytealg
namespace Go.Proofs.Ytklnnkdcnaieoaa
open Go.RowKit Go.Vf

/-! ### blocks -/
def Blk (W : World) (B : Nat) (t : TypeId) (cs : Array Value) : Prop := W.heap[B]? = some (.cells cs t (0, 0))
theorem Blk.lt {W : World} {B : Nat} {t : TypeId} {cs : Array Value} (h : Blk W B t cs) : B < W.heap.size := (Array.getElem?_eq_some_iff.1 h).1
theorem Blk.cell {W : World} {B : Nat} {t : TypeId} {cs : Array Value} (h : Blk W B t cs) (j : Nat) : W.cell? ⟨B, j, none⟩ = cs[j]? := by simp [World.cell?, show W.heap[B]? = _ from h]
theorem Blk.frozen {W : World} {B : Nat} {t : TypeId} {cs : Array Value} (h : Blk W B t cs) (j : Nat) : W.frozen? ⟨B, j, none⟩ = false := by simp [World.frozen?, show W.heap[B]? = _ from h]
theorem Blk.new (W : World) (t : TypeId) (cs : Array Value) : Blk (W.alloc (.cells cs t)) W.heap.size t cs := heap_alloc_new W _
theorem Blk.below {W W' : World} {B n : Nat} {t : TypeId} {cs : Array Value} (h : Blk W B t cs) (hb : Below n W W') (hB : B < n) : Blk W' B t cs := (hb.block B hB).trans h
theorem Blk.old {w w' : World} {b : Nat} {t : TypeId} {cs : Array Value} (h : Blk w b t cs) (hb : Below w.heap.size w w') : Blk w' b t cs := h.below hb h.lt
theorem Blk.set {W : World} {B : Nat} {t : TypeId} {cs : Array Value} (j : Nat) (v : Value) (h : Blk W B t cs) : Blk (W.setCell ⟨B, j, none⟩ v) B t (cs.setIfInBounds j v) := by
  obtain ⟨hlt, hk⟩ := Array.getElem?_eq_some_iff.1 h
  show (W.heap.modify B _)[B]? = _
  rw [Array.getElem?_eq_getElem (by rw [Array.size_modify]; exact hlt), Array.getElem_modify_self, hk]
  rfl
theorem Blk.other {W : World} {B : Nat} {t : TypeId} {cs : Array Value} (h : Blk W B t cs) {p : Addr} (hp : B ≠ p.block) (v : Value) : Blk (W.setCell p v) B t cs := (Below.heap_setCell W p v B hp).trans h
theorem alloc_size (W : World) (o : Obj) : (W.alloc o).heap.size = W.heap.size + 1 := by show (W.heap.push _).size = _; simp
theorem Blk.c1 {w : World} {b : Nat} {t : TypeId} {a0 : Value} (h : Blk w b t #[a0]) : w.cell? ⟨b, 0, none⟩ = some a0 := h.cell 0
theorem Blk.c2 {w : World} {b : Nat} {t : TypeId} {a0 a1 : Value} (h : Blk w b t #[a0, a1]) : w.cell? ⟨b, 0, none⟩ = some a0 ∧ w.cell? ⟨b, 1, none⟩ = some a1 := ⟨h.cell 0, h.cell 1⟩
theorem Blk.c3 {w : World} {b : Nat} {t : TypeId} {a0 a1 a2 : Value} (h : Blk w b t #[a0, a1, a2]) : w.cell? ⟨b, 0, none⟩ = some a0 ∧ w.cell? ⟨b, 1, none⟩ = some a1 ∧ w.cell? ⟨b, 2, none⟩ = some a2 := ⟨h.cell 0, h.cell 1, h.cell 2⟩
theorem Blk.c5 {w : World} {b : Nat} {t : TypeId} {a0 a1 a2 a3 a4 : Value} (h : Blk w b t #[a0, a1, a2, a3, a4]) :
    w.cell? ⟨b, 0, none⟩ = some a0 ∧ w.cell? ⟨b, 1, none⟩ = some a1 ∧ w.cell? ⟨b, 2, none⟩ = some a2 ∧ w.cell? ⟨b, 3, none⟩ = some a3 ∧ w.cell? ⟨b, 4, none⟩ = some a4 :=
  ⟨h.cell 0, h.cell 1, h.cell 2, h.cell 3, h.cell 4⟩

theorem wpAnyH_takeD {P : Program} {md : Region.Mode} {ops : Array Oper} {Q : Exit → Act → World → Prop} {S : World → Prop} {i : Nat} {oi : Oper} {v : Value} {fuel : Nat} {listed : Array Bool} {a : Act} {w : World} (d : Option Nat) (hi : ops[i]? = some oi) (hd : oi.dst = d)
    (hs : Region.noSelect ops = true) (hf : Region.free md ops listed i = true) (hr : (Region.ready md ops listed).contains i = true)
    (hQ : ∀ c a w, Q (.panic c) (a.put oi.dst v) w → Q (.panic c) a w) (hy : YieldsIf P ops S oi v a) (hS : S w)
    (h : wpAnyH P md ops Q S fuel (listed.setIfInBounds i true) (a.put d v) w) : wpAnyH P md ops Q S (fuel + 1) listed a w := by
  subst hd
  exact wpAnyH_take hi hs hf hr hQ hy hS h

/-! ### trees -/
/-- A tree of nodes: each with its block. -/
inductive Tr where
  | leaf
  | node (b : Nat) (k v : ByteArray) (l r : Tr)
namespace Tr
def ptr : Tr → Option Addr
  | leaf => none
  | node b _ _ _ _ => some ⟨b, 0, none⟩
def ht : Tr → Nat
  | leaf => 0
  | node _ _ _ l r => 1 + max l.ht r.ht
def toL : Tr → List Pr
  | leaf => []
  | node _ k v l r => l.toL ++ (k, v) :: r.toL
theorem ht_le : ∀ T : Tr, T.ht ≤ T.toL.length
  | leaf => Nat.le_refl _
  | node _ _ _ l r => by
    have h1 := ht_le l
    have h2 := ht_le r
    simp only [ht, toL, List.length_append, List.length_cons]
    omega
end Tr
/-- The five cells of a node. -/
def cellsN (k v : ByteArray) (l r : Tr) : Array Value := #[.string k, .string v, .pointer l.ptr, .pointer r.ptr, .int .i64 ((1 + max l.ht r.ht : Nat) : Int)]
/-- The tree lies in memory. -/
def TAt (w : World) : Tr → Prop
  | .leaf => True
  | .node b k v l r => Blk w b 66 (cellsN k v l r) ∧ TAt w l ∧ TAt w r
/-- All nodes stay. -/
structure KeepN (w w' : World) : Prop where
  size : w.heap.size ≤ w'.heap.size
  node : ∀ b cs, Blk w b 66 cs → Blk w' b 66 cs
theorem KeepN.refl (w : World) : KeepN w w := ⟨Nat.le_refl _, fun _ _ h => h⟩
theorem KeepN.trans {a b c : World} (h : KeepN a b) (k : KeepN b c) : KeepN a c := ⟨Nat.le_trans h.size k.size, fun x cs q => k.node x cs (h.node x cs q)⟩
theorem KeepN.of {w w' : World} (h : Below w.heap.size w w') : KeepN w w' := ⟨h.size, fun _ _ q => q.old h⟩
theorem TAt.keep {w w' : World} (h : KeepN w w') : ∀ {T : Tr}, TAt w T → TAt w' T
  | .leaf, _ => trivial
  | .node _ _ _ _ _, ⟨h1, h2, h3⟩ => ⟨h.node _ _ h1, TAt.keep h h2, TAt.keep h h3⟩
theorem TAt.old {w w' : World} {T : Tr} (h : TAt w T) (hb : Below w.heap.size w w') : TAt w' T := h.keep (.of hb)
theorem TAt.cells {w : World} {b : Nat} {k v : ByteArray} {l r : Tr} (h : TAt w (.node b k v l r)) :
    w.cell? ⟨b, 0, none⟩ = some (.string k) ∧ w.cell? ⟨b, 1, none⟩ = some (.string v) ∧ w.cell? ⟨b, 2, none⟩ = some (.pointer l.ptr) ∧ w.cell? ⟨b, 3, none⟩ = some (.pointer r.ptr) ∧ w.cell? ⟨b, 4, none⟩ = some (.int .i64 ((1 + max l.ht r.ht : Nat) : Int)) := h.1.c5

/-- All but one block stays. -/
structure Oth (B : Nat) (w w' : World) : Prop where
  size : w.heap.size ≤ w'.heap.size
  block : ∀ k, k < w.heap.size → k ≠ B → w'.heap[k]? = w.heap[k]?
theorem Oth.refl (B : Nat) (w : World) : Oth B w w := ⟨Nat.le_refl _, fun _ _ _ => rfl⟩
theorem Oth.trans {B : Nat} {a b c : World} (h : Oth B a b) (k : Oth B b c) : Oth B a c := ⟨Nat.le_trans h.size k.size, fun x hx hn => (k.block x (Nat.lt_of_lt_of_le hx h.size) hn).trans (h.block x hx hn)⟩
theorem Oth.of {B : Nat} {w w' : World} (h : Below w.heap.size w w') : Oth B w w' := ⟨h.size, fun k hk _ => h.block k hk⟩
theorem Oth.setCell {B : Nat} {w w' : World} (h : Oth B w w') (j : Nat) (v : Value) : Oth B w (w'.setCell ⟨B, j, none⟩ v) := by
  have e : (w'.setCell ⟨B, j, none⟩ v).heap.size = w'.heap.size := by show (w'.heap.modify _ _).size = _; simp
  exact ⟨by rw [e]; exact h.size, fun k hk hn => (Below.heap_setCell w' ⟨B, j, none⟩ v k hn).trans (h.block k hk hn)⟩
theorem Oth.blk {B b : Nat} {w w' : World} {t : TypeId} {cs : Array Value} (h : Oth B w w') (hb : Blk w b t cs) (hn : b ≠ B) : Blk w' b t cs := (h.block b hb.lt hn).trans hb
theorem Blk.apart {w : World} {b c : Nat} {t u : TypeId} {cs ds : Array Value} (h : Blk w b t cs) (k : Blk w c u ds) (hn : t ≠ u) : b ≠ c := by
  rintro rfl
  have e := h.symm.trans k
  injection e with e
  injection e with _ e
  exact hn e
theorem KeepN.oth {B : Nat} {w w' : World} {t : TypeId} {cs : Array Value} (h : Oth B w w') (hB : Blk w B t cs) (ht : (66 : TypeId) ≠ t) : KeepN w w' := ⟨h.size, fun _ _ q => h.blk q (q.apart hB ht)⟩

/-! ### comparing -/
theorem compareBytes_eq : ∀ (a b : List UInt8), Lib.compareBytes a b = cmpL a b
  | [], [] => rfl
  | [], _ :: _ => rfl
  | _ :: _, [] => rfl
  | x :: a, y :: b => by
    have ih := compareBytes_eq a b
    simp only [Lib.compareBytes, cmpL, ih]
theorem cmpStr_any (a b : ByteArray) (w : World) : Calls Try.prog 50 #[.string a, .string b] w fun e w' => e = .returned (.int .i64 (sd a b)) ∧ w = w' := by
  have hx : (callFunc 52 #[.string a, .string b]).run Try.prog w = .ok (.value (.int .i64 (sd a b))) w := by
    rw [run_callFunc_extern Try.func52 (by kernel_rfl) (by kernel_rfl) (by kernel_rfl) (e := Extern.BytealgCompare.compare) (by kernel_rfl), Lib.run_compareString, compareBytes_eq]
    rfl
  go_enter Try.func50, Try.ntmps50
  go_wp2
  go_ret
  exact ⟨rfl, rfl⟩
theorem scompare_any (a b : ByteArray) (w : World) : Calls Try.prog 44 #[.string a, .string b] w fun e w' => e = .returned (.int .i64 (sd a b)) ∧ w = w' := by
  go_enter Try.func44, Try.ntmps44
  go_wp2_with fail
  refine (cmpStr_any a b _).mono ?_
  rintro e w1 ⟨rfl, rfl⟩
  go_wp2
  go_ret
  exact ⟨rfl, rfl⟩
/-- The function that leads to a key. -/
theorem toward1_any (k m : ByteArray) (b : Nat) (w : World) (h : w.cell? ⟨b, 0, none⟩ = some (.string k)) : Calls Try.prog 43 #[.string m, .pointer (some ⟨b, 0, none⟩)] w fun e w' => e = .returned (.int .i64 (sd k m)) ∧ w = w' := by
  go_enter Try.func43, Try.ntmps43
  go_wp2_with fail
  refine (scompare_any k m _).mono ?_
  rintro e w1 ⟨rfl, rfl⟩
  go_wp2
  go_ret
  exact ⟨rfl, rfl⟩
theorem toward_any (k : ByteArray) (w : World) : Calls Try.prog 32 #[.string k] w fun e w' => e = .returned (.func (.func 43) #[] #[.pointer (some ⟨w.heap.size, 0, none⟩)]) ∧ w' = w.alloc (.cells #[.string k] 9) := by
  go_enter Try.func32, Try.ntmps32
  go_wp2
  go_ret
  exact ⟨rfl, rfl⟩
/-- The function that leads into a span. -/
theorem into1_any (m f t : ByteArray) (o : Bool) (b : Nat) (w : World) (c0 : w.cell? ⟨b, 0, none⟩ = some (.string f)) (c1 : w.cell? ⟨b, 1, none⟩ = some (.string t)) (c2 : w.cell? ⟨b, 2, none⟩ = some (.bool o)) :
    Calls Try.prog 48 #[.string m, .pointer (some ⟨b, 0, none⟩)] w fun e w' => e = .returned (.int .i64 (way f t o m)) ∧ w = w' := by
  obtain ⟨A, hA⟩ : ∃ A, way f t o m = A := ⟨_, rfl⟩
  have hw : Hid (A = if lt m f = true then 1 else if o = false ∧ lt m t = false then -1 else 0) := hA.symm
  rw [hA]
  clear hA
  go_enter Try.func48, Try.ntmps48
  cases h1 : lt m f with
  | true =>
    have h1' : Op.bytesLess m.toList f.toList = true := h1
    go_wp2
    go_ret
    refine ⟨?_, rfl⟩
    rw [hw, h1]
    rfl
  | false =>
    have h1' : Op.bytesLess m.toList f.toList = false := h1
    cases o with
    | true =>
      go_wp2
      go_ret
      refine ⟨?_, rfl⟩
      rw [hw, h1]
      rfl
    | false =>
      cases h2 : lt m t with
      | true =>
        have h2' : Op.bytesLess m.toList t.toList = true := h2
        go_wp2
        go_ret
        refine ⟨?_, rfl⟩
        rw [hw, h1, h2]
        rfl
      | false =>
        have h2' : Op.bytesLess m.toList t.toList = false := h2
        go_wp2
        go_ret
        refine ⟨?_, rfl⟩
        rw [hw, h1, h2]
        rfl
theorem into_any (f t : ByteArray) (o : Bool) (w : World) : Calls Try.prog 38 #[.agg #[.string f, .string t, .bool o]] w fun e w' => e = .returned (.func (.func 48) #[] #[.pointer (some ⟨w.heap.size, 0, none⟩)]) ∧ w' = w.alloc (.cells #[.string f, .string t, .bool o] 29) := by
  go_enter Try.func38, Try.ntmps38
  go_wp2
  go_ret
  exact ⟨rfl, rfl⟩
theorem height_any (T : Tr) (w : World) (h : TAt w T) : Calls Try.prog 49 #[.pointer T.ptr] w fun e w' => e = .returned (.int .i64 (T.ht : Int)) ∧ w = w' := by
  cases T with
  | leaf =>
    show Calls Try.prog 49 #[.pointer none] w fun e w' => e = .returned (.int .i64 0) ∧ w = w'
    go_enter Try.func49, Try.ntmps49
    go_wp2
    go_ret
    exact ⟨rfl, rfl⟩
  | node b k v l r =>
    show Calls Try.prog 49 #[.pointer (some ⟨b, 0, none⟩)] w fun e w' => e = .returned (.int .i64 ((1 + max l.ht r.ht : Nat) : Int)) ∧ w = w'
    obtain ⟨_, _, _, _, c4⟩ := h.cells
    generalize ((1 + max l.ht r.ht : Nat) : Int) = H at *
    go_enter Try.func49, Try.ntmps49
    go_wp2
    go_ret
    exact ⟨rfl, rfl⟩
end Go.Proofs.Ytklnnkdcnaieoaa
