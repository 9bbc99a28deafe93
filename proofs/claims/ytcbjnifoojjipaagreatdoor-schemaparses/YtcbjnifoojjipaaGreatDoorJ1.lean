/- Contracts and lemmas (nothing is claimed here). -/
import Derived.WalkKit
import Derived.Test.YtcbjnifoojjipaaGreatDoorProg
import Derived.WalkSpells
import Derived.WalkLawsBesides
import Derived.WalkMore
import Derived.BigFrame
import Derived.Deep.Cut
import Derived.Deep.LoopGhost
import Derived.Deep.RegionWith
import Derived.Deep.RegionHeld
import Derived.Deep.RegionHeldLaw
import Derived.Deep.QuietTactic
import Derived.Deep.OwnRows
import Derived.Below
import Derived.Laws.Rows
import Derived.OwnWalk
import Derived.Lib.Strings
import Derived.Lib.SliceRun
import Derived.Laws.BytesArg
import Derived.Stop.Asserts
namespace Go.Vf
structure Own where
  name : ByteArray
  kind : Int
  down : Bool
  nulls : Int
  bnd : Bool
  ln : Bool
  lm : ByteArray
  hn : Bool
  hm : ByteArray
  most : Int
  str : Int
  shf : Bool
  bck : Bool
inductive Fld where
  | mk (o : Own) (l : List Fld)
namespace Fld
def own : Fld → Own | mk o _ => o
def fields : Fld → List Fld | mk _ l => l
end Fld
theorem Fld.ind {C : Fld → Prop} (h : ∀ o l, (∀ x ∈ l, C x) → C (.mk o l)) : ∀ p, C p
  | .mk o l => h o l fun x _ => Fld.ind h x
termination_by p => SizeOf.sizeOf p
decreasing_by
  simp_wf
  have := List.sizeOf_lt_of_mem ‹x ∈ l›
  omega
def isSmallU (c : UInt8) : Bool := decide (97 ≤ c.toNat) && decide (c.toNat ≤ 122)
def isDigU (c : UInt8) : Bool := decide (48 ≤ c.toNat) && decide (c.toNat ≤ 57)
def isNameC (c : UInt8) : Bool := isSmallU c || isDigU c || c == 45
def isNameL : List UInt8 → Bool
  | [] => false
  | c :: r => decide ((c :: r).length ≤ 16) && isSmallU c && r.all isNameC
def isNameS (s : ByteArray) : Bool := isNameL s.data.toList
def maySayO (q : Bool) (o : Own) (n : Nat) : Bool :=
  decide (1 ≤ o.kind) && decide (o.kind ≤ 7) && decide (o.nulls ≤ 2) &&
  (if o.kind = 2 then (if o.bnd then q else !o.ln && o.lm.size == 0 && !o.hn && o.hm.size == 0) else !o.bnd && !o.ln && o.lm.size == 0 && !o.hn && o.hm.size == 0) &&
  (if o.kind = 3 ∨ o.kind = 5 then decide (0 ≤ o.most) && decide (o.most ≤ 65536) else o.most == 0) &&
  (if o.kind = 6 then decide (1 ≤ o.str) && decide (o.str ≤ 4) && (decide (o.str < 4) || o.shf) else o.str == 0 && !o.shf && !o.bck) &&
  (o.kind == 7 || n == 0)
def seeF (Q : Own → Bool) (path : Nat) (count : Nat) (ahead : List Fld) (f : Fld) : Int :=
  if 64 < count then 116 else if 16 < path then 114 else if isNameS f.own.name = false then 111
  else if ahead.any (fun g => decide (g.own.name = f.own.name)) then 112
  else if maySayO (Q f.own) f.own f.fields.length = false then 113
  else if f.own.kind = 7 ∧ f.fields = [] then 115 else 0
inductive Tr where
  | ok (n : Nat)
  | bad (code : Int) (path : List Int) (n : Nat)
def tourL (Q : Own → Bool) (P : List Int) (ahead : List Fld) (n : Nat) : List Fld → Tr
  | [] => .ok n
  | .mk o l :: r =>
    let e := seeF Q (P.length + 1) (n + 1) ahead (.mk o l)
    if e = 0 then
      match tourL Q (P ++ [(ahead.length : Int)]) [] (n + 1) l with
      | .ok m => tourL Q P (ahead ++ [.mk o l]) m r
      | .bad c p m => .bad c p m
    else .bad e (P ++ [(ahead.length : Int)]) (n + 1)
termination_by l => SizeOf.sizeOf l
theorem tourL_nil (Q : Own → Bool) (P : List Int) (ahead : List Fld) (n : Nat) : tourL Q P ahead n [] = .ok n := by rw [tourL]
theorem tourL_bad (Q : Own → Bool) (P : List Int) (ahead : List Fld) (n : Nat) (f : Fld) (r : List Fld) (h : seeF Q (P.length + 1) (n + 1) ahead f ≠ 0) : tourL Q P ahead n (f :: r) = .bad (seeF Q (P.length + 1) (n + 1) ahead f) (P ++ [(ahead.length : Int)]) (n + 1) := by
  obtain ⟨o, l⟩ := f
  rw [tourL]
  simp only [h, if_false]
theorem tourL_in (Q : Own → Bool) (P : List Int) (ahead : List Fld) (n : Nat) (f : Fld) (r : List Fld) (h : seeF Q (P.length + 1) (n + 1) ahead f = 0) {c : Int} {p : List Int} {m : Nat} (hb : tourL Q (P ++ [(ahead.length : Int)]) [] (n + 1) f.fields = .bad c p m) : tourL Q P ahead n (f :: r) = .bad c p m := by
  obtain ⟨o, l⟩ := f
  rw [tourL]
  simp only [h, if_true]
  rw [show tourL Q (P ++ [(ahead.length : Int)]) [] (n + 1) l = .bad c p m from hb]
theorem tourL_on (Q : Own → Bool) (P : List Int) (ahead : List Fld) (n : Nat) (f : Fld) (r : List Fld) (h : seeF Q (P.length + 1) (n + 1) ahead f = 0) {m : Nat} (hb : tourL Q (P ++ [(ahead.length : Int)]) [] (n + 1) f.fields = .ok m) : tourL Q P ahead n (f :: r) = tourL Q P (ahead ++ [f]) m r := by
  obtain ⟨o, l⟩ := f
  rw [tourL]
  simp only [h, if_true]
  rw [show tourL Q (P ++ [(ahead.length : Int)]) [] (n + 1) l = .ok m from hb]
def chkS (Q : Own → Bool) (limit : Int) (l : List Fld) : Int × List Int :=
  if limit < 1 ∨ 65536 < limit then (113, []) else if l = [] then (115, []) else
  match tourL Q [] [] 0 l with
  | .ok _ => (0, [])
  | .bad c p _ => (c, p)
end Go.Vf
namespace Go.Vf
inductive Prt where
  | mk (kind : Int) (yes below : Bool) (mag raw : ByteArray) (items : List Prt)
namespace Prt
def kind : Prt → Int | mk k _ _ _ _ _ => k
def yes : Prt → Bool | mk _ y _ _ _ _ => y
def neg : Prt → Bool | mk _ _ b _ _ _ => b
def mag : Prt → ByteArray | mk _ _ _ m _ _ => m
def raw : Prt → ByteArray | mk _ _ _ _ r _ => r
def items : Prt → List Prt | mk _ _ _ _ _ l => l
end Prt
def numOk (b : Bool) (m : ByteArray) : Bool := decide (m.size ≤ 255) && !((m.data.toList.isEmpty && b) || m.data.toList.head? == some 0)
def isRawK (k : Int) : Bool := k == 3 || k == 4 || k == 5 || k == 6
def own1 (p : Prt) : Bool :=
  (p.kind == 1 || !p.yes) && (p.kind == 2 || (!p.neg && p.mag.size == 0)) && (isRawK p.kind || p.raw.size == 0) && (p.kind == 7 || p.items.length == 0)
def own2 (p : Prt) : Bool :=
  p.kind == 0 || p.kind == 1 || (p.kind == 2 && numOk p.neg p.mag) || ((p.kind == 3 || p.kind == 5 || p.kind == 6) && decide (p.raw.size ≤ 65536)) || (p.kind == 4 && p.raw.size == 16) || (p.kind == 7 && decide (p.items.length ≤ 1024))
mutual
def may : Prt → Bool
  | .mk k y b m r l => own1 (.mk k y b m r l) && own2 (.mk k y b m r l) && mayL l
def mayL : List Prt → Bool
  | [] => true
  | x :: r => may x && mayL r
end
end Go.Vf
namespace Go.Proofs.YtcbjnifoojjipaaGreatDoor
open Go.RowKit Go.Vf
def Blk (W : World) (B : Nat) (t : TypeId) (cs : Array Value) : Prop := W.heap[B]? = some (.cells cs t (0, 0))
theorem sA {α : Type} (l : List α) (i : Nat) (a : α) : l.toArray.setIfInBounds i a = (l.set i a).toArray := List.setIfInBounds_toArray ..
theorem sB {α : Type} {x : α} {l : List α} {a : α} : (x :: l).set 0 a = a :: l := List.set_cons_zero ..
theorem sC {α : Type} {x : α} {l : List α} {n : Nat} {a : α} : (x :: l).set (n + 1) a = x :: l.set n a := List.set_cons_succ ..
theorem Blk.lt {W : World} {B : Nat} {t : TypeId} {cs : Array Value} (h : Blk W B t cs) : B < W.heap.size := (Array.getElem?_eq_some_iff.1 h).1
theorem Blk.cell {W : World} {B : Nat} {t : TypeId} {cs : Array Value} (h : Blk W B t cs) (j : Nat) : W.cell? ⟨B, j, none⟩ = cs[j]? := by simp [World.cell?, show W.heap[B]? = _ from h]
theorem Blk.frozen {W : World} {B : Nat} {t : TypeId} {cs : Array Value} (h : Blk W B t cs) (j : Nat) : W.frozen? ⟨B, j, none⟩ = false := by simp [World.frozen?, show W.heap[B]? = _ from h]
theorem Blk.new (W : World) (t : TypeId) (cs : Array Value) : Blk (W.alloc (.cells cs t)) W.heap.size t cs := heap_alloc_new W _
theorem Blk.below {W W' : World} {B n : Nat} {t : TypeId} {cs : Array Value} (h : Blk W B t cs) (hb : Below n W W') (hB : B < n) : Blk W' B t cs := (hb.block B hB).trans h
theorem Blk.old {w w' : World} {b : Nat} {t : TypeId} {cs : Array Value} (h : Blk w b t cs) (hb : Below w.heap.size w w') : Blk w' b t cs := h.below hb h.lt
theorem Blk.set {W : World} {B : Nat} {t : TypeId} {cs : Array Value} (j : Nat) (v : Value) (h : Blk W B t cs) : Blk (W.setCell ⟨B, j, none⟩ v) B t (cs.setIfInBounds j v) := by
  obtain ⟨hlt, hk⟩ := Array.getElem?_eq_some_iff.1 h
  show (W.heap.modify B _)[B]? = _
  rw [Array.getElem?_eq_getElem (by rw [Array.size_modify]; exact hlt), Array.getElem_modify_self, hk]
  rfl
theorem Blk.other {W : World} {B : Nat} {t : TypeId} {cs : Array Value} (h : Blk W B t cs) {p : Addr} (hp : B ≠ p.block) (v : Value) : Blk (W.setCell p v) B t cs := (Below.heap_setCell W p v B hp).trans h
theorem alloc_size (W : World) (o : Obj) : (W.alloc o).heap.size = W.heap.size + 1 := by show (W.heap.push _).size = _; simp
theorem cell_of_block {w w' : World} {h : Nat} (e : w'.heap[h]? = w.heap[h]?) (k : Nat) : w'.cell? ⟨h, k, none⟩ = w.cell? ⟨h, k, none⟩ := by
  unfold World.cell?
  simp only [e]
end Go.Proofs.YtcbjnifoojjipaaGreatDoor
