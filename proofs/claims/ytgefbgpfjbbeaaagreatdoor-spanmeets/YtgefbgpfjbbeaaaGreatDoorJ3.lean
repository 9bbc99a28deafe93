/- Contracts and lemmas (nothing is claimed here). -/
import Derived.WalkKit
import Derived.Test.YtgefbgpfjbbeaaaGreatDoorJ1
import Derived.Test.YtgefbgpfjbbeaaaGreatDoorChk
namespace Go.Vf

/-- What a field says, but for its own fields. -/
structure Own where
  name : ByteArray
  kind : Int
  down : Bool
  nulls : Int
  bnd : Bool
  ln : Bool
  lm : ByteArray
  hn : Bool
  hm : ByteArray
  most : Int
  str : Int
  shf : Bool
  bck : Bool

inductive Fld where
  | mk (o : Own) (l : List Fld)
namespace Fld
def own : Fld → Own | mk o _ => o
def fields : Fld → List Fld | mk _ l => l
end Fld

theorem Fld.ind {C : Fld → Prop} (h : ∀ o l, (∀ x ∈ l, C x) → C (.mk o l)) : ∀ p, C p
  | .mk o l => h o l fun x _ => Fld.ind h x
termination_by p => SizeOf.sizeOf p
decreasing_by
  simp_wf
  have := List.sizeOf_lt_of_mem ‹x ∈ l›
  omega

def isSmallU (c : UInt8) : Bool := decide (97 ≤ c.toNat) && decide (c.toNat ≤ 122)
def isDigU (c : UInt8) : Bool := decide (48 ≤ c.toNat) && decide (c.toNat ≤ 57)
def isNameC (c : UInt8) : Bool := isSmallU c || isDigU c || c == 45
def isNameL : List UInt8 → Bool
  | [] => false
  | c :: r => decide ((c :: r).length ≤ 16) && isSmallU c && r.all isNameC
def isNameS (s : ByteArray) : Bool := isNameL s.data.toList

/-- How two numbers stand, and whether they may be: nat's Compare. -/
structure CmpF where
  f : Bool → ByteArray → Bool → ByteArray → Int × Int

/-- Whether all that a field says may be; q: whether its bounds may be. -/
def maySayO (q : Bool) (o : Own) (n : Nat) : Bool :=
  decide (1 ≤ o.kind) && decide (o.kind ≤ 7) && decide (o.nulls ≤ 2) &&
  (if o.kind = 2 then (if o.bnd then q else !o.ln && o.lm.size == 0 && !o.hn && o.hm.size == 0) else !o.bnd && !o.ln && o.lm.size == 0 && !o.hn && o.hm.size == 0) &&
  (if o.kind = 3 ∨ o.kind = 5 then decide (0 ≤ o.most) && decide (o.most ≤ 65536) else o.most == 0) &&
  (if o.kind = 6 then decide (1 ≤ o.str) && decide (o.str ≤ 4) && (decide (o.str < 4) || o.shf) else o.str == 0 && !o.shf && !o.bck) &&
  (o.kind == 7 || n == 0)

/-- The first thing that is wrong with a field, with those ahead of it. -/
def seeF (Q : Own → Bool) (path : Nat) (count : Nat) (ahead : List Fld) (f : Fld) : Int :=
  if 64 < count then 116 else if 16 < path then 114 else if isNameS f.own.name = false then 111
  else if ahead.any (fun g => decide (g.own.name = f.own.name)) then 112
  else if maySayO (Q f.own) f.own f.fields.length = false then 113
  else if f.own.kind = 7 ∧ f.fields = [] then 115 else 0

/-- What a tour comes to: how many it has gone through; or what is wrong, where, and how many up to there. -/
inductive Tr where
  | ok (n : Nat)
  | bad (code : Int) (path : List Int) (n : Nat)

def tourL (Q : Own → Bool) (P : List Int) (ahead : List Fld) (n : Nat) : List Fld → Tr
  | [] => .ok n
  | .mk o l :: r =>
    let e := seeF Q (P.length + 1) (n + 1) ahead (.mk o l)
    if e = 0 then
      match tourL Q (P ++ [(ahead.length : Int)]) [] (n + 1) l with
      | .ok m => tourL Q P (ahead ++ [.mk o l]) m r
      | .bad c p m => .bad c p m
    else .bad e (P ++ [(ahead.length : Int)]) (n + 1)
termination_by l => SizeOf.sizeOf l

theorem tourL_nil (Q : Own → Bool) (P : List Int) (ahead : List Fld) (n : Nat) : tourL Q P ahead n [] = .ok n := by rw [tourL]
theorem tourL_bad (Q : Own → Bool) (P : List Int) (ahead : List Fld) (n : Nat) (f : Fld) (r : List Fld) (h : seeF Q (P.length + 1) (n + 1) ahead f ≠ 0) : tourL Q P ahead n (f :: r) = .bad (seeF Q (P.length + 1) (n + 1) ahead f) (P ++ [(ahead.length : Int)]) (n + 1) := by
  obtain ⟨o, l⟩ := f
  rw [tourL]
  simp only [h, if_false]
theorem tourL_in (Q : Own → Bool) (P : List Int) (ahead : List Fld) (n : Nat) (f : Fld) (r : List Fld) (h : seeF Q (P.length + 1) (n + 1) ahead f = 0) {c : Int} {p : List Int} {m : Nat} (hb : tourL Q (P ++ [(ahead.length : Int)]) [] (n + 1) f.fields = .bad c p m) : tourL Q P ahead n (f :: r) = .bad c p m := by
  obtain ⟨o, l⟩ := f
  rw [tourL]
  simp only [h, if_true]
  rw [show tourL Q (P ++ [(ahead.length : Int)]) [] (n + 1) l = .bad c p m from hb]
theorem tourL_on (Q : Own → Bool) (P : List Int) (ahead : List Fld) (n : Nat) (f : Fld) (r : List Fld) (h : seeF Q (P.length + 1) (n + 1) ahead f = 0) {m : Nat} (hb : tourL Q (P ++ [(ahead.length : Int)]) [] (n + 1) f.fields = .ok m) : tourL Q P ahead n (f :: r) = tourL Q P (ahead ++ [f]) m r := by
  obtain ⟨o, l⟩ := f
  rw [tourL]
  simp only [h, if_true]
  rw [show tourL Q (P ++ [(ahead.length : Int)]) [] (n + 1) l = .ok m from hb]

/-- What is wrong with a schema: the number (0: nothing), the path. -/
def chkS (Q : Own → Bool) (limit : Int) (l : List Fld) : Int × List Int :=
  if limit < 1 ∨ 65536 < limit then (113, []) else if l = [] then (115, []) else
  match tourL Q [] [] 0 l with
  | .ok _ => (0, [])
  | .bad c p _ => (c, p)

end Go.Vf

namespace Go.Proofs.YtgefbgpfjbbeaaaGreatDoor
open Go.RowKit Go.Vf

/-- The fourteen cells of a field, its own fields at a. -/
def cellsF (o : Own) (a : Option Addr) (n c : Nat) : Array Value := #[.string o.name, .int .u8 o.kind, .bool o.down, .int .u8 o.nulls, .bool o.bnd, .bool o.ln, .string o.lm, .bool o.hn, .string o.hm, .int .i64 o.most, .int .i64 o.str, .bool o.shf, .bool o.bck, .slice a n c]
/-- A field as a value. -/
def fV (o : Own) (a : Option Addr) (n c : Nat) : Value := .agg #[.string o.name, .int .u8 o.kind, .bool o.down, .int .u8 o.nulls, .bool o.bnd, .bool o.ln, .string o.lm, .bool o.hn, .string o.hm, .int .i64 o.most, .int .i64 o.str, .bool o.shf, .bool o.bck, .slice a n c]

/-- The fourteen cells at that place. -/
structure RowF (w : World) (b off : Nat) (o : Own) (a : Option Addr) (n c : Nat) : Prop where
  c0 : w.cell? ⟨b, off, none⟩ = some (.string o.name)
  c1 : w.cell? ⟨b, off + 1, none⟩ = some (.int .u8 o.kind)
  c2 : w.cell? ⟨b, off + 2, none⟩ = some (.bool o.down)
  c3 : w.cell? ⟨b, off + 3, none⟩ = some (.int .u8 o.nulls)
  c4 : w.cell? ⟨b, off + 4, none⟩ = some (.bool o.bnd)
  c5 : w.cell? ⟨b, off + 5, none⟩ = some (.bool o.ln)
  c6 : w.cell? ⟨b, off + 6, none⟩ = some (.string o.lm)
  c7 : w.cell? ⟨b, off + 7, none⟩ = some (.bool o.hn)
  c8 : w.cell? ⟨b, off + 8, none⟩ = some (.string o.hm)
  c9 : w.cell? ⟨b, off + 9, none⟩ = some (.int .i64 o.most)
  c10 : w.cell? ⟨b, off + 10, none⟩ = some (.int .i64 o.str)
  c11 : w.cell? ⟨b, off + 11, none⟩ = some (.bool o.shf)
  c12 : w.cell? ⟨b, off + 12, none⟩ = some (.bool o.bck)
  c13 : w.cell? ⟨b, off + 13, none⟩ = some (.slice a n c)

theorem Blk.rowF {w : World} {b : Nat} {t : TypeId} {o : Own} {a : Option Addr} {n c : Nat} (h : Blk w b t (cellsF o a n c)) : RowF w b 0 o a n c :=
  ⟨h.cell 0, h.cell 1, h.cell 2, h.cell 3, h.cell 4, h.cell 5, h.cell 6, h.cell 7, h.cell 8, h.cell 9, h.cell 10, h.cell 11, h.cell 12, h.cell 13⟩
theorem Blk.c14 {w : World} {b : Nat} {t : TypeId} {a0 a1 a2 a3 a4 a5 a6 a7 a8 a9 a10 a11 a12 a13 : Value} (h : Blk w b t #[a0, a1, a2, a3, a4, a5, a6, a7, a8, a9, a10, a11, a12, a13]) :
    (w.cell? ⟨b, 0, none⟩ = some a0 ∧ w.cell? ⟨b, 1, none⟩ = some a1 ∧ w.cell? ⟨b, 2, none⟩ = some a2 ∧ w.cell? ⟨b, 3, none⟩ = some a3 ∧ w.cell? ⟨b, 4, none⟩ = some a4 ∧ w.cell? ⟨b, 5, none⟩ = some a5 ∧ w.cell? ⟨b, 6, none⟩ = some a6 ∧ w.cell? ⟨b, 7, none⟩ = some a7 ∧ w.cell? ⟨b, 8, none⟩ = some a8 ∧ w.cell? ⟨b, 9, none⟩ = some a9 ∧ w.cell? ⟨b, 10, none⟩ = some a10 ∧ w.cell? ⟨b, 11, none⟩ = some a11 ∧ w.cell? ⟨b, 12, none⟩ = some a12 ∧ w.cell? ⟨b, 13, none⟩ = some a13) :=
  ⟨h.cell 0, h.cell 1, h.cell 2, h.cell 3, h.cell 4, h.cell 5, h.cell 6, h.cell 7, h.cell 8, h.cell 9, h.cell 10, h.cell 11, h.cell 12, h.cell 13⟩
/-- The fields lie at a, in blocks from lo on, below n₀; and so on within. -/
inductive FIn (w : World) (lo n₀ : Nat) : List Fld → Option Addr → Prop where
  | nil {a : Option Addr} : FIn w lo n₀ [] a
  | cons {l : List Fld} {b off : Nat} (A : Nat → Option Addr) (C : Nat → Nat) : lo ≤ b → b < n₀ → (∀ j (hj : j < l.length), RowF w b (off + j * 14) l[j].own (A j) l[j].fields.length (C j)) →
      (∀ j (hj : j < l.length), l[j].fields.length ≤ C j) → (∀ j (hj : j < l.length), FIn w lo n₀ l[j].fields (A j)) → FIn w lo n₀ l (some ⟨b, off, none⟩)

theorem RowF.of {w w' : World} {b off : Nat} {o : Own} {a : Option Addr} {n c : Nat} (h : RowF w b off o a n c) (q : ∀ k, w'.cell? ⟨b, k, none⟩ = w.cell? ⟨b, k, none⟩) : RowF w' b off o a n c :=
  ⟨(q _).trans h.c0, (q _).trans h.c1, (q _).trans h.c2, (q _).trans h.c3, (q _).trans h.c4, (q _).trans h.c5, (q _).trans h.c6, (q _).trans h.c7, (q _).trans h.c8, (q _).trans h.c9, (q _).trans h.c10, (q _).trans h.c11, (q _).trans h.c12, (q _).trans h.c13⟩
theorem RowF.below {w w' : World} {b off n' : Nat} {o : Own} {a : Option Addr} {n c : Nat} (h : RowF w b off o a n c) (hb : Below n' w w') (hn : b < n') : RowF w' b off o a n c :=
  h.of fun k => hb.cell (p := ⟨b, k, none⟩) hn
theorem FIn.keep {w w' : World} {lo n₀ n : Nat} {l : List Fld} {a : Option Addr} (h : FIn w lo n₀ l a) (hb : Below n w w') (hn : n₀ ≤ n) : FIn w' lo n₀ l a := by
  induction h with
  | nil => exact .nil
  | cons A C hlo hlt hr hc _ ih => exact .cons A C hlo hlt (fun j hj => (hr j hj).below hb (by omega)) hc ih
theorem FIn.keep' {w w' : World} {lo n₀ : Nat} {l : List Fld} {a : Option Addr} (h : FIn w lo n₀ l a) (hb : ∀ b, lo ≤ b → b < n₀ → w'.heap[b]? = w.heap[b]?) : FIn w' lo n₀ l a := by
  induction h with
  | nil => exact .nil
  | cons A C hlo hlt hr hc _ ih => exact .cons A C hlo hlt (fun j hj => (hr j hj).of fun k => cell_of_block (hb _ hlo hlt) k) hc ih
theorem FIn.mono {w : World} {lo lo' n₀ n : Nat} {l : List Fld} {a : Option Addr} (h : FIn w lo n₀ l a) (hn : n₀ ≤ n) (hlo : lo' ≤ lo) : FIn w lo' n l a := by
  induction h with
  | nil => exact .nil
  | cons A C h1 hlt hr hc _ ih => exact .cons A C (by omega) (by omega) hr hc ih
theorem FIn.atC {w : World} {lo n₀ : Nat} {l : List Fld} {a : Option Addr} (h : FIn w lo n₀ l a) {j : Nat} (hj : j < l.length) : ∃ b off aj cj, a = some ⟨b, off, none⟩ ∧ lo ≤ b ∧ b < n₀ ∧ RowF w b (off + j * 14) l[j].own aj l[j].fields.length cj ∧ FIn w lo n₀ l[j].fields aj ∧ l[j].fields.length ≤ cj := by
  cases h with
  | nil => simp at hj
  | cons A C hlo hlt hr hc hin => exact ⟨_, _, A j, C j, rfl, hlo, hlt, hr j hj, hin j hj, hc j hj⟩
theorem FIn.at {w : World} {lo n₀ : Nat} {l : List Fld} {a : Option Addr} (h : FIn w lo n₀ l a) {j : Nat} (hj : j < l.length) : ∃ b off aj cj, a = some ⟨b, off, none⟩ ∧ lo ≤ b ∧ b < n₀ ∧ RowF w b (off + j * 14) l[j].own aj l[j].fields.length cj ∧ FIn w lo n₀ l[j].fields aj := by
  obtain ⟨b, off, aj, cj, h1, h2, h3, h4, h5, _⟩ := h.atC hj
  exact ⟨b, off, aj, cj, h1, h2, h3, h4, h5⟩
theorem FIn.take {w : World} {lo n₀ : Nat} {l : List Fld} {a : Option Addr} (h : FIn w lo n₀ l a) (m : Nat) : FIn w lo n₀ (l.take m) a := by
  cases h with
  | nil => rw [List.take_nil]; exact .nil
  | cons A C hlo hlt hr hc hin =>
    have e : ∀ j (hj : j < (l.take m).length), (l.take m)[j] = l[j]'(by rw [List.length_take] at hj; omega) := fun j hj => List.getElem_take
    refine .cons A C hlo hlt (fun j hj => ?_) (fun j hj => ?_) (fun j hj => ?_)
    · rw [e j hj]; exact hr j _
    · rw [e j hj]; exact hc j _
    · rw [e j hj]; exact hin j _
/-- Sizes that a machine bears. -/
structure OwnFits (B : Nat) (o : Own) : Prop where
  k0 : 0 ≤ o.kind
  k1 : o.kind < 256
  n0 : 0 ≤ o.nulls
  n1 : o.nulls < 256
  nm : o.name.size ≤ B
  lm : o.lm.size ≤ B
  hm : o.hm.size ≤ B
  m0 : -9223372036854775808 ≤ o.most
  m1 : o.most < 9223372036854775808
  s0 : -9223372036854775808 ≤ o.str
  s1 : o.str < 9223372036854775808
inductive FitsF (B : Nat) : Fld → Prop where
  | mk {f : Fld} : OwnFits B f.own → f.fields.length ≤ B → (∀ x ∈ f.fields, FitsF B x) → FitsF B f
theorem FitsF.own {B : Nat} {f : Fld} (h : FitsF B f) : OwnFits B f.own := by cases h; assumption
theorem FitsF.len {B : Nat} {f : Fld} (h : FitsF B f) : f.fields.length ≤ B := by cases h; assumption
theorem FitsF.mem {B : Nat} {f : Fld} (h : FitsF B f) {x : Fld} (hx : x ∈ f.fields) : FitsF B x := by cases h with | mk _ _ h => exact h x hx

end Go.Proofs.YtgefbgpfjbbeaaaGreatDoor

namespace Go.Proofs.YtgefbgpfjbbeaaaGreatDoor
open Go.RowKit Go.Vf

theorem isSmall_any (c : UInt8) (w : World) : Calls Tryz.prog 147 #[.int .u8 (c.toNat : Int)] w fun e w' => e = .returned (.bool (isSmallU c)) ∧ w = w' := by
  have hc := c.toNat_lt
  by_cases h1 : 97 ≤ c.toNat
  · by_cases h2 : c.toNat ≤ 122
    · have hR : isSmallU c = true := by simp [isSmallU, h1, h2]
      have t2 : decide ((c.toNat : Int) ≤ 122) = true := by simp; omega
      rw [hR]
      go_enter Tryz.func147, Tryz.ntmps147
      go_wp2
      go_ret
      exact ⟨rfl, rfl⟩
    · have hR : isSmallU c = false := by simp [isSmallU, h2]
      have t2 : decide ((c.toNat : Int) ≤ 122) = false := by simp; omega
      rw [hR]
      go_enter Tryz.func147, Tryz.ntmps147
      go_wp2
      go_ret
      exact ⟨rfl, rfl⟩
  · have hR : isSmallU c = false := by simp [isSmallU, h1]
    rw [hR]
    go_enter Tryz.func147, Tryz.ntmps147
    go_wp2
    go_ret
    exact ⟨rfl, rfl⟩
theorem isDigit_any (c : UInt8) (w : World) : Calls Tryz.prog 148 #[.int .u8 (c.toNat : Int)] w fun e w' => e = .returned (.bool (isDigU c)) ∧ w = w' := by
  have hc := c.toNat_lt
  by_cases h1 : 48 ≤ c.toNat
  · by_cases h2 : c.toNat ≤ 57
    · have hR : isDigU c = true := by simp [isDigU, h1, h2]
      have t2 : decide ((c.toNat : Int) ≤ 57) = true := by simp; omega
      rw [hR]
      go_enter Tryz.func148, Tryz.ntmps148
      go_wp2
      go_ret
      exact ⟨rfl, rfl⟩
    · have hR : isDigU c = false := by simp [isDigU, h2]
      have t2 : decide ((c.toNat : Int) ≤ 57) = false := by simp; omega
      rw [hR]
      go_enter Tryz.func148, Tryz.ntmps148
      go_wp2
      go_ret
      exact ⟨rfl, rfl⟩
  · have hR : isDigU c = false := by simp [isDigU, h1]
    rw [hR]
    go_enter Tryz.func148, Tryz.ntmps148
    go_wp2
    go_ret
    exact ⟨rfl, rfl⟩
theorem isNameS_eq (s : ByteArray) (h : 0 < s.size) : isNameS s = (decide (s.size ≤ 16) && isSmallU s[0] && s.data.toList.all isNameC) := by
  have hl : s.data.toList = s[0] :: s.data.toList.drop 1 := by
    have := List.drop_eq_getElem_cons (l := s.data.toList) (i := 0) (by rw [← Lib.size_eq]; exact h)
    rw [List.drop_zero] at this
    exact this
  have hs : s.size = s.data.toList.length := Lib.size_eq s
  unfold isNameS
  rw [hs]
  generalize s.data.toList = L at hl
  rw [hl]
  simp only [isNameL, List.all_cons, List.length_cons]
  cases h : isSmallU s[0] with
  | false => simp
  | true => simp [isNameC, h]
theorem isNameS_nil (s : ByteArray) (h : s.size = 0) : isNameS s = false := by
  have : s.data.toList = [] := by
    have : s.data.toList.length = 0 := by rw [← Lib.size_eq]; exact h
    exact List.length_eq_zero_iff.1 this
  unfold isNameS
  rw [this]; rfl
theorem all_dropN {α : Type} (p : α → Bool) (l : List α) (j : Nat) (h : j < l.length) : (l.drop j).all p = (p l[j] && (l.drop (j + 1)).all p) := by
  rw [List.drop_eq_getElem_cons h]; rfl
theorem isName_any (s : ByteArray) (hs : s.size ≤ 281474976710656) (w : World) : Calls Tryz.prog 114 #[.string s] w fun e w' => e = .returned (.bool (isNameS s)) ∧ w = w' := by
  by_cases h0 : s.size = 0
  · have he : s.toList.isEmpty = true := by rw [empty_iff, h0]; rfl
    rw [isNameS_nil s h0]
    clear h0
    go_enter Tryz.func114, Tryz.ntmps114
    go_wp2
    go_ret
    exact ⟨rfl, rfl⟩
  · have hpos : 0 < s.size := by omega
    have he : s.toList.isEmpty = false := by rw [empty_iff]; simpa using h0
    rw [isNameS_eq s hpos]
    by_cases h16 : s.size ≤ 16
    · have hsm := isSmall_any s[0] w
      cases h1 : isSmallU s[0] with
      | false =>
        rw [h1] at hsm
        simp only [Bool.and_false, Bool.false_and]
        go_enter Tryz.func114, Tryz.ntmps114
        go_wp2_with fail
        refine hsm.mono ?_
        rintro _ _ ⟨rfl, rfl⟩
        go_wp2
        go_ret
        exact ⟨rfl, rfl⟩
      | true =>
        rw [h1] at hsm
        generalize hR : (decide (s.size ≤ 16) && true && s.data.toList.all isNameC) = R
        have HR : Hid (R = (s.data.toList.drop 0).all isNameC) := by
          show _ = _
          rw [← hR]; simp [h16]
        clear hR
        have hlen : s.data.toList.length = s.size := (Lib.size_eq s).symm
        go_enter Tryz.func114, Tryz.ntmps114
        go_wp2_with fail
        refine hsm.mono ?_
        rintro _ _ ⟨rfl, rfl⟩
        clear hsm h1
        go_wp2_with fail
        go_loopw [19] (fun i wr => ∃ (j : Nat), j ≤ s.size ∧ i = .int .i64 j ∧ Hid (R = (s.data.toList.drop j).all isNameC) ∧ w = wr) (fun i _ => s.size - (intOf i).toNat)
        case atStart => exact ⟨0, by omega, rfl, HR, rfl⟩
        case round =>
          clear HR
          obtain ⟨j, hj, rfl, HS, rfl⟩ := hrel
          by_cases hlt : j < s.size
          · have HD : Hid (R = (isNameC s[j] && (s.data.toList.drop (j + 1)).all isNameC)) := by
              show _ = _
              rw [HS.out, all_dropN _ _ _ (by omega)]; rfl
            have hsm := isSmall_any s[j] w
            have hdg := isDigit_any s[j] w
            have hc := (s[j]).toNat_lt
            clear HS hlen
            cases h1 : isSmallU s[j] with
            | true =>
              rw [h1] at hsm
              have HD2 : Hid (R = (s.data.toList.drop (j + 1)).all isNameC) := by
                show _ = _
                rw [HD.out, isNameC, h1]; rfl
              clear HD h1 hdg
              go_wp2_with fail
              refine hsm.mono ?_
              rintro _ _ ⟨rfl, rfl⟩
              go_wp2_with fail
              go_roundw
              case rel => exact ⟨j + 1, by omega, by simp, HD2, trivial⟩
              case measure => simp only [intOf]; omega
            | false =>
              rw [h1] at hsm
              cases h2 : isDigU s[j] with
              | true =>
                rw [h2] at hdg
                have HD2 : Hid (R = (s.data.toList.drop (j + 1)).all isNameC) := by
                  show _ = _
                  rw [HD.out, isNameC, h1, h2]; rfl
                clear HD h1 h2
                go_wp2_with fail
                refine hsm.mono ?_
                rintro _ _ ⟨rfl, rfl⟩
                go_wp2_with fail
                refine hdg.mono ?_
                rintro _ _ ⟨rfl, rfl⟩
                go_wp2_with fail
                go_roundw
                case rel => exact ⟨j + 1, by omega, by simp, HD2, trivial⟩
                case measure => simp only [intOf]; omega
              | false =>
                rw [h2] at hdg
                by_cases h3 : s[j] = 45
                · have HD2 : Hid (R = (s.data.toList.drop (j + 1)).all isNameC) := by
                    show _ = _
                    rw [HD.out, isNameC, h1, h2, h3]; rfl
                  have t3 : ((s[j].toNat : Int) != 45) = false := by rw [h3]; rfl
                  clear HD h1 h2 h3
                  go_wp2_with fail
                  refine hsm.mono ?_
                  rintro _ _ ⟨rfl, rfl⟩
                  go_wp2_with fail
                  refine hdg.mono ?_
                  rintro _ _ ⟨rfl, rfl⟩
                  go_wp2_with fail
                  go_roundw
                  case rel => exact ⟨j + 1, by omega, by simp, HD2, trivial⟩
                  case measure => simp only [intOf]; omega
                · have hRn : R = false := by
                    rw [HD.out, isNameC, h1, h2]
                    simp [h3]
                  have t3 : ((s[j].toNat : Int) != 45) = true := by
                    rw [bne_iff_ne]
                    intro e
                    have e' : s[j].toNat = 45 := by omega
                    exact h3 (UInt8.toNat.inj (by rw [e']; rfl))
                  clear HD h1 h2 h3
                  subst hRn
                  go_wp2_with fail
                  refine hsm.mono ?_
                  rintro _ _ ⟨rfl, rfl⟩
                  go_wp2_with fail
                  refine hdg.mono ?_
                  rintro _ _ ⟨rfl, rfl⟩
                  go_wp2_with fail
                  go_ret
                  exact ⟨rfl, rfl⟩
          · have hRn : R = true := by rw [HS.out, List.drop_of_length_le (by omega)]; rfl
            clear HS
            subst hRn
            go_wp2_with fail
            go_ret
            exact ⟨rfl, rfl⟩
    · have hR : (decide (s.size ≤ 16) && isSmallU s[0] && s.data.toList.all isNameC) = false := by simp [h16]
      rw [hR]
      clear hR
      go_enter Tryz.func114, Tryz.ntmps114
      go_wp2
      go_ret
      exact ⟨rfl, rfl⟩

end Go.Proofs.YtgefbgpfjbbeaaaGreatDoor
