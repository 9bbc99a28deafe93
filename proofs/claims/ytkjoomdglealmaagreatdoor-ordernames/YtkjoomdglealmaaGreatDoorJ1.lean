/- Contracts and lemmas (nothing is claimed here). -/
import Derived.Test.YtkjoomdglealmaaGreatDoorRows
import Derived.Lay
import Derived.ProofKit
import Derived.OpenShut
import Derived.Stop.Joined
import Derived.WalkKit
import Derived.Test.YtkjoomdglealmaaGreatDoorProg
import Derived.WalkSpells
import Derived.WalkLawsBesides
import Derived.WalkMore
import Derived.BigFrame
import Derived.Deep.Cut
import Derived.Deep.LoopGhost
import Derived.Deep.RegionWith
import Derived.Deep.RegionHeld
import Derived.Deep.RegionHeldLaw
import Derived.Deep.QuietTactic
import Derived.Deep.OwnRows
import Derived.Below
import Derived.Laws.Rows
import Derived.OwnWalk
import Derived.Lib.Strings
import Derived.Lib.SliceRun
import Derived.Laws.BytesArg
import Derived.Stop.Asserts
namespace Go.Proofs.YtkjoomdglealmaaGreatDoor
open Go.ChangeShapes Go.WideShapes Go.ChangeAt Go.RowKit
theorem fitFields_facts : joinedFacts Tryz.pinned.checked.prog 4 Tryz.f4 Rows.fitFieldsSpec Rows.fitFieldsRow = true := by kernel_rfl
end Go.Proofs.YtkjoomdglealmaaGreatDoor

namespace Go.Vf

inductive Prt where
  | mk (kind : Int) (yes below : Bool) (mag raw : ByteArray) (items : List Prt)

namespace Prt
def kind : Prt → Int | mk k _ _ _ _ _ => k
def yes : Prt → Bool | mk _ y _ _ _ _ => y
def neg : Prt → Bool | mk _ _ b _ _ _ => b
def mag : Prt → ByteArray | mk _ _ _ m _ _ => m
def raw : Prt → ByteArray | mk _ _ _ _ r _ => r
def items : Prt → List Prt | mk _ _ _ _ _ l => l
end Prt

theorem Prt.ind {C : Prt → Prop} (h : ∀ k y b m r l, (∀ x ∈ l, C x) → C (.mk k y b m r l)) : ∀ p, C p
  | .mk k y b m r l => h k y b m r l fun x _ => Prt.ind h x
termination_by p => SizeOf.sizeOf p
decreasing_by
  simp_wf
  have := List.sizeOf_lt_of_mem ‹x ∈ l›
  omega

mutual
def dep : Prt → Nat
  | .mk k _ _ _ _ l => if k = 7 then depL l + 1 else 0
def depL : List Prt → Nat
  | [] => 0
  | x :: r => max (dep x) (depL r)
end
theorem depL_mem {x : Prt} {l : List Prt} (h : x ∈ l) : dep x ≤ depL l := by
  induction l with
  | nil => simp at h
  | cons a r ih =>
    rw [depL]
    rcases List.mem_cons.1 h with rfl | h
    · omega
    · have := ih h; omega
theorem depL_snoc (l : List Prt) (x : Prt) : depL (l ++ [x]) = max (depL l) (dep x) := by
  induction l with
  | nil => simp [depL]
  | cons a r ih => rw [List.cons_append, depL, depL, ih]; omega
theorem depL_take (l : List Prt) (k : Nat) (hk : k < l.length) : depL (l.take (k + 1)) = max (depL (l.take k)) (dep l[k]) := by
  rw [List.take_succ_eq_append_getElem hk, depL_snoc]

def deeper : Nat → Prt → Bool
  | 0, p => decide (p.kind = 7)
  | n + 1, p => decide (p.kind = 7) && p.items.any (deeper n)
theorem deeper0 (k : Int) (y n : Bool) (m r : ByteArray) (l : List Prt) : deeper 0 (.mk k y n m r l) = (k == 7) := rfl
theorem deeperS (d : Nat) (k : Int) (y n : Bool) (m r : ByteArray) (l : List Prt) : deeper (d + 1) (.mk k y n m r l) = ((k == 7) && l.any (deeper d)) := rfl
theorem deeper_dep : ∀ (n : Nat) (p : Prt), deeper n p = decide (n < dep p)
  | 0, .mk k y b m r l => by
    rw [deeper, Prt.kind, dep]
    by_cases h : k = 7 <;> simp [h]
  | n + 1, .mk k y b m r l => by
    rw [deeper, Prt.kind, dep, Prt.items]
    by_cases h : k = 7
    · simp only [h, decide_true, Bool.true_and, if_true]
      rw [Bool.eq_iff_iff]
      simp only [List.any_eq_true, decide_eq_true_eq]
      constructor
      · rintro ⟨x, hx, hd⟩
        rw [deeper_dep n x] at hd
        have := depL_mem hx
        have := of_decide_eq_true hd
        omega
      · intro hd
        have : ∀ l : List Prt, n < depL l → ∃ x ∈ l, n < dep x := by
          intro l
          induction l with
          | nil => intro h; simp [depL] at h
          | cons a q ih =>
            intro h
            rw [depL] at h
            by_cases h1 : n < dep a
            · exact ⟨a, by simp, h1⟩
            · obtain ⟨x, hx, hn⟩ := ih (by omega)
              exact ⟨x, by simp [hx], hn⟩
        obtain ⟨x, hx, hn⟩ := this l (by omega)
        exact ⟨x, hx, by rw [deeper_dep n x]; exact decide_eq_true hn⟩
    · simp [h]

def numOk (b : Bool) (m : ByteArray) : Bool := decide (m.size ≤ 255) && !((m.data.toList.isEmpty && b) || m.data.toList.head? == some 0)
def isRawK (k : Int) : Bool := k == 3 || k == 4 || k == 5 || k == 6
def own1 (p : Prt) : Bool :=
  (p.kind == 1 || !p.yes) && (p.kind == 2 || (!p.neg && p.mag.size == 0)) && (isRawK p.kind || p.raw.size == 0) && (p.kind == 7 || p.items.length == 0)
def own2 (p : Prt) : Bool :=
  p.kind == 0 || p.kind == 1 || (p.kind == 2 && numOk p.neg p.mag) || ((p.kind == 3 || p.kind == 5 || p.kind == 6) && decide (p.raw.size ≤ 65536)) || (p.kind == 4 && p.raw.size == 16) || (p.kind == 7 && decide (p.items.length ≤ 1024))
mutual
def may : Prt → Bool
  | .mk k y b m r l => own1 (.mk k y b m r l) && own2 (.mk k y b m r l) && mayL l
def mayL : List Prt → Bool
  | [] => true
  | x :: r => may x && mayL r
end
theorem mayL_all (l : List Prt) : mayL l = l.all may := by
  induction l with
  | nil => rfl
  | cons a r ih => rw [mayL, ih]; rfl
theorem may_eq (p : Prt) : may p = (own1 p && own2 p && p.items.all may) := by
  cases p with | mk k y b m r l => rw [may, mayL_all]; rfl

def mostW : Nat := 67108864
mutual
def hvy : Prt → Nat → Nat → Nat
  | .mk _ _ _ m r l, n, d => if 300 < d then mostW + 1 else hvyL l (n + 16 + r.size + m.size) (d + 1)
def hvyL : List Prt → Nat → Nat → Nat
  | [], n, _ => n
  | x :: q, n, d => if n ≤ mostW then hvyL q (hvy x n d) d else n
end
end Go.Vf

namespace Go.Proofs.YtkjoomdglealmaaGreatDoor
open Go.RowKit Go.Vf

/-! ### blocks -/
def Blk (W : World) (B : Nat) (t : TypeId) (cs : Array Value) : Prop := W.heap[B]? = some (.cells cs t (0, 0))
theorem Blk.lt {W : World} {B : Nat} {t : TypeId} {cs : Array Value} (h : Blk W B t cs) : B < W.heap.size := (Array.getElem?_eq_some_iff.1 h).1
theorem Blk.cell {W : World} {B : Nat} {t : TypeId} {cs : Array Value} (h : Blk W B t cs) (j : Nat) : W.cell? ⟨B, j, none⟩ = cs[j]? := by simp [World.cell?, show W.heap[B]? = _ from h]
theorem Blk.frozen {W : World} {B : Nat} {t : TypeId} {cs : Array Value} (h : Blk W B t cs) (j : Nat) : W.frozen? ⟨B, j, none⟩ = false := by simp [World.frozen?, show W.heap[B]? = _ from h]
theorem Blk.new (W : World) (t : TypeId) (cs : Array Value) : Blk (W.alloc (.cells cs t)) W.heap.size t cs := heap_alloc_new W _
theorem Blk.below {W W' : World} {B n : Nat} {t : TypeId} {cs : Array Value} (h : Blk W B t cs) (hb : Below n W W') (hB : B < n) : Blk W' B t cs := (hb.block B hB).trans h
theorem Blk.old {w w' : World} {b : Nat} {t : TypeId} {cs : Array Value} (h : Blk w b t cs) (hb : Below w.heap.size w w') : Blk w' b t cs := h.below hb h.lt
theorem Blk.set {W : World} {B : Nat} {t : TypeId} {cs : Array Value} (j : Nat) (v : Value) (h : Blk W B t cs) : Blk (W.setCell ⟨B, j, none⟩ v) B t (cs.setIfInBounds j v) := by
  obtain ⟨hlt, hk⟩ := Array.getElem?_eq_some_iff.1 h
  show (W.heap.modify B _)[B]? = _
  rw [Array.getElem?_eq_getElem (by rw [Array.size_modify]; exact hlt), Array.getElem_modify_self, hk]
  rfl
theorem Blk.other {W : World} {B : Nat} {t : TypeId} {cs : Array Value} (h : Blk W B t cs) {p : Addr} (hp : B ≠ p.block) (v : Value) : Blk (W.setCell p v) B t cs := (Below.heap_setCell W p v B hp).trans h
theorem alloc_size (W : World) (o : Obj) : (W.alloc o).heap.size = W.heap.size + 1 := by show (W.heap.push _).size = _; simp

def pV (p : Prt) (a : Option Addr) (c : Nat) : Value := .agg #[.int .u8 p.kind, .bool p.yes, .bool p.neg, .string p.mag, .string p.raw, .slice a p.items.length c]

structure Row6 (w : World) (b off : Nat) (p : Prt) (a : Option Addr) (c : Nat) : Prop where
  c0 : w.cell? ⟨b, off, none⟩ = some (.int .u8 p.kind)
  c1 : w.cell? ⟨b, off + 1, none⟩ = some (.bool p.yes)
  c2 : w.cell? ⟨b, off + 2, none⟩ = some (.bool p.neg)
  c3 : w.cell? ⟨b, off + 3, none⟩ = some (.string p.mag)
  c4 : w.cell? ⟨b, off + 4, none⟩ = some (.string p.raw)
  c5 : w.cell? ⟨b, off + 5, none⟩ = some (.slice a p.items.length c)

theorem Blk.c6 {w : World} {b : Nat} {t : TypeId} {a0 a1 a2 a3 a4 a5 : Value} (h : Blk w b t #[a0, a1, a2, a3, a4, a5]) :
    (w.cell? ⟨b, 0, none⟩ = some a0 ∧ w.cell? ⟨b, 1, none⟩ = some a1 ∧ w.cell? ⟨b, 2, none⟩ = some a2 ∧ w.cell? ⟨b, 3, none⟩ = some a3 ∧ w.cell? ⟨b, 4, none⟩ = some a4 ∧ w.cell? ⟨b, 5, none⟩ = some a5) :=
  ⟨h.cell 0, h.cell 1, h.cell 2, h.cell 3, h.cell 4, h.cell 5⟩
inductive PIn (w : World) (lo n₀ : Nat) : Prt → Option Addr → Prop where
  | nil {p : Prt} {a : Option Addr} : p.items = [] → PIn w lo n₀ p a
  | cons {p : Prt} {b off : Nat} (A : Nat → Option Addr) (C : Nat → Nat) : lo ≤ b → b < n₀ → (∀ j (hj : j < p.items.length), Row6 w b (off + j * 6) p.items[j] (A j) (C j)) →
      (∀ j (hj : j < p.items.length), PIn w lo n₀ p.items[j] (A j)) → PIn w lo n₀ p (some ⟨b, off, none⟩)

theorem Row6.below {w w' : World} {b off n : Nat} {p : Prt} {a : Option Addr} {c : Nat} (h : Row6 w b off p a c) (hb : Below n w w') (hn : b < n) : Row6 w' b off p a c := by
  have q : ∀ k, w'.cell? ⟨b, k, none⟩ = w.cell? ⟨b, k, none⟩ := fun k => hb.cell (p := ⟨b, k, none⟩) hn
  exact ⟨(q _).trans h.c0, (q _).trans h.c1, (q _).trans h.c2, (q _).trans h.c3, (q _).trans h.c4, (q _).trans h.c5⟩
theorem PIn.keep {w w' : World} {lo n₀ n : Nat} {p : Prt} {a : Option Addr} (h : PIn w lo n₀ p a) (hb : Below n w w') (hn : n₀ ≤ n) : PIn w' lo n₀ p a := by
  induction h with
  | nil h => exact .nil h
  | cons A C hlo hlt hr _ ih => exact .cons A C hlo hlt (fun j hj => (hr j hj).below hb (by omega)) ih
theorem cell_of_block {w w' : World} {h : Nat} (e : w'.heap[h]? = w.heap[h]?) (k : Nat) : w'.cell? ⟨h, k, none⟩ = w.cell? ⟨h, k, none⟩ := by
  unfold World.cell?
  simp only [e]
theorem PIn.keep' {w w' : World} {lo n₀ : Nat} {p : Prt} {a : Option Addr} (h : PIn w lo n₀ p a) (hb : ∀ b, lo ≤ b → b < n₀ → w'.heap[b]? = w.heap[b]?) : PIn w' lo n₀ p a := by
  induction h with
  | nil h => exact .nil h
  | cons A C hlo hlt hr _ ih =>
    refine .cons A C hlo hlt (fun j hj => ?_) ih
    have q := fun k => cell_of_block (hb _ hlo hlt) k
    obtain ⟨h0, h1, h2, h3, h4, h5⟩ := hr j hj
    exact ⟨(q _).trans h0, (q _).trans h1, (q _).trans h2, (q _).trans h3, (q _).trans h4, (q _).trans h5⟩
theorem PIn.mono {w : World} {lo lo' n₀ n : Nat} {p : Prt} {a : Option Addr} (h : PIn w lo n₀ p a) (hn : n₀ ≤ n) (hlo : lo' ≤ lo) : PIn w lo' n p a := by
  induction h with
  | nil h => exact .nil h
  | cons A C h1 hlt hr _ ih => exact .cons A C (by omega) (by omega) hr ih
theorem PIn.at {w : World} {lo n₀ : Nat} {p : Prt} {a : Option Addr} (h : PIn w lo n₀ p a) {j : Nat} (hj : j < p.items.length) : ∃ b off aj cj, a = some ⟨b, off, none⟩ ∧ lo ≤ b ∧ b < n₀ ∧ Row6 w b (off + j * 6) p.items[j] aj cj ∧ PIn w lo n₀ p.items[j] aj := by
  cases h with
  | nil h => rw [h] at hj; simp at hj
  | cons A C hlo hlt hr hin => exact ⟨_, _, A j, C j, rfl, hlo, hlt, hr j hj, hin j hj⟩

end Go.Proofs.YtkjoomdglealmaaGreatDoor

namespace Go.Proofs.YtkjoomdglealmaaGreatDoor
open Go.RowKit Go.Vf

inductive Fits : Prt → Prop where
  | mk {p : Prt} : 0 ≤ p.kind → p.raw.size ≤ 281474976710656 → p.mag.size ≤ 281474976710656 → p.items.length ≤ 281474976710656 → (∀ x ∈ p.items, Fits x) → Fits p
theorem Fits.pos {p : Prt} (h : Fits p) : 0 ≤ p.kind := by cases h; assumption
theorem Fits.raw {p : Prt} (h : Fits p) : p.raw.size ≤ 281474976710656 := by cases h; assumption
theorem Fits.mag {p : Prt} (h : Fits p) : p.mag.size ≤ 281474976710656 := by cases h; assumption
theorem Fits.len {p : Prt} (h : Fits p) : p.items.length ≤ 281474976710656 := by cases h; assumption
theorem Fits.mem {p x : Prt} (h : Fits p) (hx : x ∈ p.items) : Fits x := by cases h; rename_i h1; exact h1 x hx

theorem hvy_le : ∀ (p : Prt), Fits p → ∀ (n d : Nat), n ≤ mostW → hvy p n d ≤ 600000000000000 := by
  intro p
  induction p using Prt.ind with
  | h k y b m r l ih =>
    intro hf n d hn
    have hr := hf.raw
    have hm := hf.mag
    simp only [Prt.raw, Prt.mag] at hr hm
    rw [hvy]
    have hW : mostW = 67108864 := rfl
    split
    · omega
    · have : ∀ (q : List Prt), (∀ x ∈ q, x ∈ l) → ∀ n', n' ≤ 600000000000000 → hvyL q n' (d + 1) ≤ 600000000000000 := by
        intro q
        induction q with
        | nil => intro _ n' h; rw [hvyL]; exact h
        | cons a t iht =>
          intro hq n' h
          rw [hvyL]
          split
          · exact iht (fun x hx => hq x (by simp [hx])) _ (ih a (hq a (by simp)) (hf.mem (hq a (by simp))) n' (d + 1) (by assumption))
          · exact h
      exact this l (fun x hx => hx) _ (by omega)

set_option maxHeartbeats 1000000 in
set_option maxRecDepth 20000 in
theorem heavy_any : ∀ (p : Prt), Fits p → ∀ (a : Option Addr) (c n d lo n₀ : Nat) (w : World), n₀ ≤ w.heap.size → PIn w lo n₀ p a → n ≤ mostW → d ≤ 301 →
    Calls Tryz.prog 38 #[pV p a c, .int .i64 n, .int .i64 d] w fun e w' => e = .returned (.int .i64 (hvy p n d : Nat)) ∧ Below w.heap.size w w' := by
  intro p
  induction p using Prt.ind with
  | h k y b m r l ih =>
    intro hf a c n d lo n₀ w hn₀ hin hn hd
    have hr := hf.raw
    have hm := hf.mag
    have hl := hf.len
    have hW : mostW = 67108864 := rfl
    have hn' : n ≤ 67108864 := hn
    clear hn
    simp only [Prt.raw, Prt.mag, Prt.items] at hr hm hl
    unfold pV
    simp only [Prt.kind, Prt.yes, Prt.neg, Prt.mag, Prt.raw, Prt.items]
    have hb0 := Blk.new w 30 #[.int .u8 k, .bool y, .bool b, .string m, .string r, .slice a l.length c]
    have hb1 := (Below.refl w.heap.size w).alloc (Nat.le_refl _) (.cells #[.int .u8 k, .bool y, .bool b, .string m, .string r, .slice a l.length c] 30)
    by_cases h300 : 300 < d
    · have hR : hvy (.mk k y b m r l) n d = 67108865 := by rw [hvy, if_pos h300]; rfl
      rw [hR]
      have t0 : decide ((300 : Int) < (d : Int)) = true := by simp; omega
      clear ih hin hf hR
      go_enter Tryz.func38, Tryz.ntmps38
      go_wp2_with fail
      go_ret
      exact ⟨rfl, hb1⟩
    · have hR : hvy (.mk k y b m r l) n d = hvyL l (n + 16 + r.size + m.size) (d + 1) := by rw [hvy, if_neg h300]
      generalize hvy (.mk k y b m r l) n d = R at hR ⊢
      have HR : Hid (R = hvyL l (n + 16 + r.size + m.size) (d + 1)) := hR
      clear hR
      have t0 : decide ((300 : Int) < (d : Int)) = false := by simp; omega
      have hin1 := hin.keep hb1 hn₀
      have hb2 : (w.alloc (.cells #[.int .u8 k, .bool y, .bool b, .string m, .string r, .slice a l.length c] 30)).heap.size = w.heap.size + 1 := alloc_size _ _
      obtain ⟨c0, c1, c2, c3, c4, c5⟩ := hb0.c6
      have HW : Hid (mostW = 67108864) := hW
      clear hW
      go_enter Tryz.func38, Tryz.ntmps38
      go_wp2_with fail
      generalize w.alloc (.cells #[.int .u8 k, .bool y, .bool b, .string m, .string r, .slice a l.length c] 30) = w1 at hb0 hb1 hin1 hb2 c0 c1 c2 c3 c4 c5 ⊢
      clear c0 c1 c2 c3 c4 c5
      go_loopw [1, 7] (fun x i wr => ∃ (j s : Nat), j ≤ l.length ∧ i = .int .i64 j ∧ x = .int .i64 s ∧ s ≤ 600000000000000 ∧ Hid (R = hvyL (l.drop j) s (d + 1)) ∧ Below w1.heap.size w1 wr) (fun _ i _ => l.length - (intOf i).toNat)
      case atStart => exact ⟨0, n + 16 + r.size + m.size, by omega, rfl, by simp, by have := HW.out; omega, HR, Below.refl _ _⟩
      case round =>
        clear HR
        obtain ⟨j, s, hj, rfl, rfl, hs, HS, hbel⟩ := hrel
        obtain ⟨c0, c1, c2, c3, c4, c5⟩ := (hb0.below hbel hb0.lt).c6
        have hbb : Below w.heap.size w wr := hb1.trans (hbel.mono (by omega))
        have hsz := hbb.size
        by_cases hlt : j < l.length
        · have hdr : l.drop j = l[j] :: l.drop (j + 1) := List.drop_eq_getElem_cons hlt
          by_cases hms : s ≤ mostW
          · have hR2 : Hid (R = hvyL (l.drop (j + 1)) (hvy l[j] s (d + 1)) (d + 1)) := by
              show _ = _
              rw [HS.out, hdr, hvyL, if_pos hms]
            have t1 : decide ((s : Int) ≤ 67108864) = true := by have := HW.out; simp; omega
            obtain ⟨bb, off, aj, cj, ha, _, _, hrow, hinj⟩ := (hin1.keep hbel (by omega)).at hlt
            simp only [Prt.items] at ha hrow hinj
            subst ha
            obtain ⟨r0, r1, r2, r3, r4, r5⟩ := hrow
            have hcall := ih l[j] (List.getElem_mem hlt) (hf.mem (List.getElem_mem hlt)) aj cj s (d + 1) lo n₀ wr (by omega) hinj hms (by omega)
            have hle := hvy_le l[j] (hf.mem (List.getElem_mem hlt)) s (d + 1) hms
            unfold pV at hcall
            clear hdr HS ih hin hf hin1 hinj
            generalize l[j] = x at *
            go_wp2_with fail
            refine hcall.mono ?_
            rintro _ w2 ⟨rfl, hb3⟩
            go_wp2_with fail
            go_roundw
            case rel => exact ⟨j + 1, _, by omega, by simp, rfl, hle, hR2, hbel.trans (hb3.mono hbel.size)⟩
            case measure => simp only [intOf]; omega
          · have hRs : R = s := by
              rw [HS.out, hdr, hvyL, if_neg hms]
            have t1 : decide ((s : Int) ≤ 67108864) = false := by have := HW.out; simp; omega
            clear hdr HS ih hin hf hin1
            go_wp2_with fail
            go_ret
            exact ⟨by rw [hRs]; rfl, hbb⟩
        · have hRs : R = s := by
            rw [HS.out, List.drop_of_length_le (by omega), hvyL]
          clear HS ih hin hf hin1
          go_wp2_with fail
          go_ret
          exact ⟨by rw [hRs]; rfl, hbb⟩

theorem weight_any (p : Prt) (hf : Fits p) (a : Option Addr) (c n lo n₀ : Nat) (w : World) (hn₀ : n₀ ≤ w.heap.size) (hin : PIn w lo n₀ p a) (hn : n ≤ mostW) :
    Calls Tryz.prog 10 #[pV p a c, .int .i64 n] w fun e w' => e = .returned (.int .i64 (hvy p n 0 : Nat)) ∧ Below w.heap.size w w' := by
  have hb1 := (Below.refl w.heap.size w).alloc (Nat.le_refl _) (.cells #[.int .u8 p.kind, .bool p.yes, .bool p.neg, .string p.mag, .string p.raw, .slice a p.items.length c] 30)
  have hc := heavy_any p hf a c n 0 lo n₀ _ (Nat.le_trans hn₀ hb1.size) (hin.keep hb1 hn₀) hn (by omega)
  unfold pV at hc ⊢
  clear hin hn hf
  go_enter Tryz.func10, Tryz.ntmps10
  go_wp2_with fail
  refine hc.mono ?_
  rintro _ w2 ⟨rfl, hb3⟩
  go_wp2_with fail
  go_ret
  exact ⟨rfl, hb1.trans (hb3.mono hb1.size)⟩
end Go.Proofs.YtkjoomdglealmaaGreatDoor

namespace Go.Proofs.YtkjoomdglealmaaGreatDoor
open Go.RowKit Go.Vf

theorem any_drop (f : Prt → Bool) (l : List Prt) (k : Nat) (h : k < l.length) : (l.drop k).any f = (f l[k] || (l.drop (k + 1)).any f) := by
  rw [List.drop_eq_getElem_cons h, List.any_cons]
set_option maxHeartbeats 1000000 in
set_option maxRecDepth 20000 in
theorem rdeeper_any : ∀ (d : Nat), d ≤ 1000 → ∀ (p : Prt), Fits p → ∀ (a : Option Addr) (c lo n₀ : Nat) (w : World), n₀ ≤ w.heap.size → PIn w lo n₀ p a →
    Calls Tryz.prog 40 #[pV p a c, .int .i64 d] w fun e w' => e = .returned (.bool (deeper d p)) ∧ Below w.heap.size w w' := by
  intro d
  induction d with
  | zero =>
    intro _ p hf a c lo n₀ w hn₀ hin
    cases p with | mk k y b m r l =>
    rw [deeper0]
    unfold pV
    simp only [Prt.kind, Prt.yes, Prt.neg, Prt.mag, Prt.raw, Prt.items]
    have hb1 := (Below.refl w.heap.size w).alloc (Nat.le_refl _) (.cells #[.int .u8 k, .bool y, .bool b, .string m, .string r, .slice a l.length c] 30)
    by_cases h7 : k = 7
    · subst h7
      clear hin hf
      go_enter Tryz.func40, Tryz.ntmps40
      go_wp2_with fail
      go_ret
      exact ⟨rfl, hb1⟩
    · have t0 : (k != 7) = true := by simpa using h7
      have t1 : (k == 7) = false := by simpa using h7
      rw [t1]
      clear hin hf
      go_enter Tryz.func40, Tryz.ntmps40
      go_wp2_with fail
      go_ret
      exact ⟨rfl, hb1⟩
  | succ d ih =>
    intro hd p hf a c lo n₀ w hn₀ hin
    cases p with | mk k y b m r l =>
    have hl := hf.len
    simp only [Prt.items] at hl
    rw [deeperS]
    unfold pV
    simp only [Prt.kind, Prt.yes, Prt.neg, Prt.mag, Prt.raw, Prt.items]
    have hb0 := Blk.new w 30 #[.int .u8 k, .bool y, .bool b, .string m, .string r, .slice a l.length c]
    have hb1 := (Below.refl w.heap.size w).alloc (Nat.le_refl _) (.cells #[.int .u8 k, .bool y, .bool b, .string m, .string r, .slice a l.length c] 30)
    by_cases h7 : k = 7
    · subst h7
      rw [show (((7 : Int) == 7) && l.any (deeper d)) = l.any (deeper d) by simp]
      generalize hR : l.any (deeper d) = R
      have HR : Hid (R = (l.drop 0).any (deeper d)) := hR.symm
      clear hR
      have hD1 : ((d + 1 : Nat) : Int) - 1 = (d : Int) := by omega
      have hD2 : (1 : Int) ≤ ((d + 1 : Nat) : Int) ∧ ((d + 1 : Nat) : Int) ≤ 1001 := by omega
      generalize ((d + 1 : Nat) : Int) = D at hD1 hD2 ⊢
      obtain ⟨hD3, hD4⟩ := hD2
      have t2 : decide (D < 1) = false := by simp; omega
      have hin1 := hin.keep hb1 hn₀
      have hb2 : (w.alloc (.cells #[.int .u8 7, .bool y, .bool b, .string m, .string r, .slice a l.length c] 30)).heap.size = w.heap.size + 1 := alloc_size _ _
      obtain ⟨c0, c1, c2, c3, c4, c5⟩ := hb0.c6
      go_enter Tryz.func40, Tryz.ntmps40
      go_wp2_with fail
      generalize w.alloc (.cells #[.int .u8 7, .bool y, .bool b, .string m, .string r, .slice a l.length c] 30) = w1 at hb0 hb1 hin1 hb2 c0 c1 c2 c3 c4 c5 ⊢
      clear c0 c1 c2 c3 c4 c5
      go_loopw [5] (fun i wr => ∃ (j : Nat), j ≤ l.length ∧ i = .int .i64 j ∧ Hid (R = (l.drop j).any (deeper d)) ∧ Below w1.heap.size w1 wr) (fun i _ => l.length - (intOf i).toNat)
      case atStart => exact ⟨0, by omega, rfl, HR, Below.refl _ _⟩
      case round =>
        clear HR
        obtain ⟨j, hj, rfl, HS, hbel⟩ := hrel
        obtain ⟨c0, c1, c2, c3, c4, c5⟩ := (hb0.below hbel hb0.lt).c6
        have hbb : Below w.heap.size w wr := hb1.trans (hbel.mono (by omega))
        have hsz := hbb.size
        by_cases hlt : j < l.length
        · have HD : Hid (R = (deeper d l[j] || (l.drop (j + 1)).any (deeper d))) := by
            show _ = _
            rw [HS.out, any_drop _ _ _ hlt]
          obtain ⟨bb, off, aj, cj, ha, _, _, hrow, hinj⟩ := (hin1.keep hbel (by omega)).at hlt
          simp only [Prt.items] at ha hrow hinj
          subst ha
          obtain ⟨r0, r1, r2, r3, r4, r5⟩ := hrow
          have hfj := hf.mem (p := .mk 7 y b m r l) (List.getElem_mem hlt)
          clear HS hin hf hin1
          generalize l[j] = x at *
          have hbx := hbel
          have hcall := ih (by omega) x hfj aj cj lo n₀ wr (by omega) hinj
          unfold pV at hcall
          clear ih hinj
          go_wp2_with fail
          refine hcall.mono ?_
          rintro _ w2 ⟨rfl, hb3⟩
          have hb4 : Below w1.heap.size w1 w2 := hbx.trans (hb3.mono hbx.size)
          cases hq : deeper d x with
          | true =>
            have hRn : R = true := by rw [HD.out, hq]; rfl
            clear HD hq
            go_wp2_with fail
            go_ret
            exact ⟨by rw [hRn]; rfl, hb1.trans (hb4.mono (by omega))⟩
          | false =>
            have HD2 : Hid (R = (l.drop (j + 1)).any (deeper d)) := by
              show _ = _
              rw [HD.out, hq]; rfl
            clear HD hq
            go_wp2_with fail
            go_roundw
            case rel => exact ⟨j + 1, by omega, by simp, HD2, hb4⟩
            case measure => simp only [intOf]; omega
        · have hRn : R = false := by rw [HS.out, List.drop_of_length_le (by omega)]; rfl
          clear HS ih hin hf hin1
          go_wp2_with fail
          go_ret
          exact ⟨by rw [hRn]; rfl, hbb⟩
    · have t0 : (k != 7) = true := by simpa using h7
      have t1 : (k == 7) = false := by simpa using h7
      rw [t1, Bool.false_and]
      clear hin hf ih
      go_enter Tryz.func40, Tryz.ntmps40
      go_wp2_with fail
      go_ret
      exact ⟨rfl, hb1⟩

set_option maxHeartbeats 1000000 in
set_option maxRecDepth 20000 in
theorem deeper_any : ∀ (d : Nat), d ≤ 1000 → ∀ (p : Prt), Fits p → ∀ (a : Option Addr) (c lo n₀ : Nat) (w : World), n₀ ≤ w.heap.size → PIn w lo n₀ p a →
    Calls Tryz.prog 42 #[pV p a c, .int .i64 d] w fun e w' => e = .returned (.bool (deeper d p)) ∧ Below w.heap.size w w' := by
  intro d
  induction d with
  | zero =>
    intro _ p hf a c lo n₀ w hn₀ hin
    cases p with | mk k y b m r l =>
    rw [deeper0]
    unfold pV
    simp only [Prt.kind, Prt.yes, Prt.neg, Prt.mag, Prt.raw, Prt.items]
    have hb1 := (Below.refl w.heap.size w).alloc (Nat.le_refl _) (.cells #[.int .u8 k, .bool y, .bool b, .string m, .string r, .slice a l.length c] 30)
    by_cases h7 : k = 7
    · subst h7
      clear hin hf
      go_enter Tryz.func42, Tryz.ntmps42
      go_wp2_with fail
      go_ret
      exact ⟨rfl, hb1⟩
    · have t0 : (k != 7) = true := by simpa using h7
      have t1 : (k == 7) = false := by simpa using h7
      rw [t1]
      clear hin hf
      go_enter Tryz.func42, Tryz.ntmps42
      go_wp2_with fail
      go_ret
      exact ⟨rfl, hb1⟩
  | succ d ih =>
    intro hd p hf a c lo n₀ w hn₀ hin
    cases p with | mk k y b m r l =>
    have hl := hf.len
    simp only [Prt.items] at hl
    rw [deeperS]
    unfold pV
    simp only [Prt.kind, Prt.yes, Prt.neg, Prt.mag, Prt.raw, Prt.items]
    have hb0 := Blk.new w 30 #[.int .u8 k, .bool y, .bool b, .string m, .string r, .slice a l.length c]
    have hb1 := (Below.refl w.heap.size w).alloc (Nat.le_refl _) (.cells #[.int .u8 k, .bool y, .bool b, .string m, .string r, .slice a l.length c] 30)
    by_cases h7 : k = 7
    · subst h7
      rw [show (((7 : Int) == 7) && l.any (deeper d)) = l.any (deeper d) by simp]
      generalize hR : l.any (deeper d) = R
      have HR : Hid (R = (l.drop 0).any (deeper d)) := hR.symm
      clear hR
      have hD1 : ((d + 1 : Nat) : Int) - 1 = (d : Int) := by omega
      have hD2 : (1 : Int) ≤ ((d + 1 : Nat) : Int) ∧ ((d + 1 : Nat) : Int) ≤ 1001 := by omega
      generalize ((d + 1 : Nat) : Int) = D at hD1 hD2 ⊢
      obtain ⟨hD3, hD4⟩ := hD2
      have t2 : (D == 0) = false := beq_eq_false_iff_ne.2 (by omega)
      have hin1 := hin.keep hb1 hn₀
      have hb2 : (w.alloc (.cells #[.int .u8 7, .bool y, .bool b, .string m, .string r, .slice a l.length c] 30)).heap.size = w.heap.size + 1 := alloc_size _ _
      obtain ⟨c0, c1, c2, c3, c4, c5⟩ := hb0.c6
      go_enter Tryz.func42, Tryz.ntmps42
      go_wp2_with fail
      generalize w.alloc (.cells #[.int .u8 7, .bool y, .bool b, .string m, .string r, .slice a l.length c] 30) = w1 at hb0 hb1 hin1 hb2 c0 c1 c2 c3 c4 c5 ⊢
      clear c0 c1 c2 c3 c4 c5
      go_loopw [15] (fun i wr => ∃ (j : Nat), j ≤ l.length ∧ i = .int .i64 j ∧ Hid (R = (l.drop j).any (deeper d)) ∧ Below w1.heap.size w1 wr) (fun i _ => l.length - (intOf i).toNat)
      case atStart => exact ⟨0, by omega, rfl, HR, Below.refl _ _⟩
      case round =>
        clear HR
        obtain ⟨j, hj, rfl, HS, hbel⟩ := hrel
        obtain ⟨c0, c1, c2, c3, c4, c5⟩ := (hb0.below hbel hb0.lt).c6
        have hbb : Below w.heap.size w wr := hb1.trans (hbel.mono (by omega))
        have hsz := hbb.size
        by_cases hlt : j < l.length
        · have HD : Hid (R = (deeper d l[j] || (l.drop (j + 1)).any (deeper d))) := by
            show _ = _
            rw [HS.out, any_drop _ _ _ hlt]
          obtain ⟨bb, off, aj, cj, ha, _, _, hrow, hinj⟩ := (hin1.keep hbel (by omega)).at hlt
          simp only [Prt.items] at ha hrow hinj
          subst ha
          obtain ⟨r0, r1, r2, r3, r4, r5⟩ := hrow
          have hfj := hf.mem (p := .mk 7 y b m r l) (List.getElem_mem hlt)
          clear HS hin hf hin1
          generalize l[j] = x at *
          have hbx := hbel.alloc hbel.size (.cells #[.int .u8 x.kind, .bool x.yes, .bool x.neg, .string x.mag, .string x.raw, .slice aj x.items.length cj] 30)
          have hby := (Below.refl wr.heap.size wr).alloc (Nat.le_refl _) (.cells #[.int .u8 x.kind, .bool x.yes, .bool x.neg, .string x.mag, .string x.raw, .slice aj x.items.length cj] 30)
          have hbz := hby.size
          have hcall := ih (by omega) x hfj aj cj lo n₀ _ (Nat.le_trans (by omega) hbz) (hinj.keep hby (by omega))
          clear hby hbz
          unfold pV at hcall
          clear ih hinj
          go_wp2_with fail
          refine hcall.mono ?_
          rintro _ w2 ⟨rfl, hb3⟩
          have hb4 : Below w1.heap.size w1 w2 := hbx.trans (hb3.mono hbx.size)
          cases hq : deeper d x with
          | true =>
            have hRn : R = true := by rw [HD.out, hq]; rfl
            clear HD hq
            go_wp2_with fail
            go_ret
            exact ⟨by rw [hRn]; rfl, hb1.trans (hb4.mono (by omega))⟩
          | false =>
            have HD2 : Hid (R = (l.drop (j + 1)).any (deeper d)) := by
              show _ = _
              rw [HD.out, hq]; rfl
            clear HD hq
            go_wp2_with fail
            go_roundw
            case rel => exact ⟨j + 1, by omega, by simp, HD2, hb4⟩
            case measure => simp only [intOf]; omega
        · have hRn : R = false := by rw [HS.out, List.drop_of_length_le (by omega)]; rfl
          clear HS ih hin hf hin1
          go_wp2_with fail
          go_ret
          exact ⟨by rw [hRn]; rfl, hbb⟩
    · have t0 : (k != 7) = true := by simpa using h7
      have t1 : (k == 7) = false := by simpa using h7
      rw [t1, Bool.false_and]
      clear hin hf ih
      go_enter Tryz.func42, Tryz.ntmps42
      go_wp2_with fail
      go_ret
      exact ⟨rfl, hb1⟩
end Go.Proofs.YtkjoomdglealmaaGreatDoor
