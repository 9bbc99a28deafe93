/- Contracts and lemmas (nothing is claimed here). -/
import Derived.Test.YtfhpgmlfgjfknaaGreatDoorJ1
import Derived.Test.YtfhpgmlfgjfknaaGreatDoorChecked
import Derived.Deep.RegionHeld
namespace Go.Vf
structure URow where
  first : Nat
  last : Nat
  low : Nat
  high : Nat
  size : Nat
  least : Nat
  most : Nat
def utab : Nat → URow
  | 0 => ⟨0x00, 0x7f, 0x00, 0x00, 1, 0x0000, 0x007f⟩
  | 1 => ⟨0xc2, 0xdf, 0x80, 0xbf, 2, 0x0080, 0x07ff⟩
  | 2 => ⟨0xe0, 0xe0, 0xa0, 0xbf, 3, 0x0800, 0x0fff⟩
  | 3 => ⟨0xe1, 0xec, 0x80, 0xbf, 3, 0x1000, 0xcfff⟩
  | 4 => ⟨0xed, 0xed, 0x80, 0x9f, 3, 0xd000, 0xd7ff⟩
  | 5 => ⟨0xee, 0xef, 0x80, 0xbf, 3, 0xe000, 0xffff⟩
  | 6 => ⟨0xf0, 0xf0, 0x90, 0xbf, 4, 0x10000, 0x3ffff⟩
  | 7 => ⟨0xf1, 0xf3, 0x80, 0xbf, 4, 0x40000, 0xfffff⟩
  | _ => ⟨0xf4, 0xf4, 0x80, 0x8f, 4, 0x100000, 0x10ffff⟩
def rowBU (c : Nat) : Option Nat :=
  if c ≤ 0x7f then some 0 else if c < 0xc2 then none else if c ≤ 0xdf then some 1 else if c = 0xe0 then some 2 else if c ≤ 0xec then some 3 else if c = 0xed then some 4
  else if c ≤ 0xef then some 5 else if c = 0xf0 then some 6 else if c ≤ 0xf3 then some 7 else if c = 0xf4 then some 8 else none
def rowPU (n : Int) : Option Nat :=
  if n < 0 then none else if n ≤ 0x7f then some 0 else if n ≤ 0x7ff then some 1 else if n ≤ 0xfff then some 2 else if n ≤ 0xcfff then some 3 else if n ≤ 0xd7ff then some 4
  else if n < 0xe000 then none else if n ≤ 0xffff then some 5 else if n ≤ 0x3ffff then some 6 else if n ≤ 0xfffff then some 7 else if n ≤ 0x10ffff then some 8 else none
theorem utab_nine (Q : Nat → Prop) (h : ∀ k, k < 9 → Q k) : Q 0 ∧ Q 1 ∧ Q 2 ∧ Q 3 ∧ Q 4 ∧ Q 5 ∧ Q 6 ∧ Q 7 ∧ Q 8 :=
  ⟨h 0 (by decide), h 1 (by decide), h 2 (by decide), h 3 (by decide), h 4 (by decide), h 5 (by decide), h 6 (by decide), h 7 (by decide), h 8 (by decide)⟩
theorem cases_nine {k : Nat} (h : k < 9) : k = 0 ∨ k = 1 ∨ k = 2 ∨ k = 3 ∨ k = 4 ∨ k = 5 ∨ k = 6 ∨ k = 7 ∨ k = 8 := by omega
theorem rowB_hit {c k : Nat} (hk : k < 9) (h1 : (utab k).first ≤ c) (h2 : c ≤ (utab k).last) : rowBU c = some k := by
  rcases cases_nine hk with rfl | rfl | rfl | rfl | rfl | rfl | rfl | rfl | rfl <;> simp only [utab] at h1 h2 <;> unfold rowBU <;>
    repeat (first | rw [if_pos (by omega)] | rw [if_neg (by omega)])
theorem rowB_miss {c : Nat} (h : ∀ k, k < 9 → ¬ ((utab k).first ≤ c ∧ c ≤ (utab k).last)) : rowBU c = none := by
  obtain ⟨h0, h1, h2, h3, h4, h5, h6, h7, h8⟩ := utab_nine _ h
  simp only [utab] at h0 h1 h2 h3 h4 h5 h6 h7 h8
  unfold rowBU
  rw [if_neg (by omega)]
  by_cases a : c < 0xc2
  · rw [if_pos a]
  · rw [if_neg a]
    repeat rw [if_neg (by omega)]
theorem rowP_hit {n : Int} {k : Nat} (hk : k < 9) (h1 : ((utab k).least : Int) ≤ n) (h2 : n ≤ ((utab k).most : Int)) : rowPU n = some k := by
  rcases cases_nine hk with rfl | rfl | rfl | rfl | rfl | rfl | rfl | rfl | rfl <;> simp only [utab] at h1 h2 <;> unfold rowPU <;>
    repeat (first | rw [if_pos (by omega)] | rw [if_neg (by omega)])
theorem rowP_miss {n : Int} (h : ∀ k, k < 9 → ¬ (((utab k).least : Int) ≤ n ∧ n ≤ ((utab k).most : Int))) : rowPU n = none := by
  obtain ⟨h0, h1, h2, h3, h4, h5, h6, h7, h8⟩ := utab_nine _ h
  simp only [utab] at h0 h1 h2 h3 h4 h5 h6 h7 h8
  unfold rowPU
  by_cases a : n < 0
  · rw [if_pos a]
  · rw [if_neg a]
    by_cases b : n < 0xe000
    · repeat (first | rw [if_pos b] | rw [if_neg (by omega)])
    · repeat rw [if_neg (by omega)]
theorem rowB_lt {c k : Nat} (h : rowBU c = some k) : k < 9 ∧ (utab k).first ≤ c ∧ c ≤ (utab k).last := by
  unfold rowBU at h
  repeat' split at h
  all_goals (cases h <;> (simp only [utab]; omega))
def IsPt (p : Nat) : Prop := p < 0xd800 ∨ 0xe000 ≤ p ∧ p < 0x110000
def enc (p : Nat) : List UInt8 :=
  if p < 0x80 then [UInt8.ofNat p] else if p < 0x800 then [UInt8.ofNat (0xc0 + p / 64), UInt8.ofNat (0x80 + p % 64)]
  else if p < 0x10000 then [UInt8.ofNat (0xe0 + p / 4096), UInt8.ofNat (0x80 + p / 64 % 64), UInt8.ofNat (0x80 + p % 64)]
  else [UInt8.ofNat (0xf0 + p / 262144), UInt8.ofNat (0x80 + p / 4096 % 64), UInt8.ofNat (0x80 + p / 64 % 64), UInt8.ofNat (0x80 + p % 64)]
def encs : List Nat → List UInt8
  | [] => []
  | p :: ps => enc p ++ encs ps
theorem encs_append (a b : List Nat) : encs (a ++ b) = encs a ++ encs b := by
  induction a with
  | nil => rfl
  | cons p ps ih => simp [encs, ih]
theorem enc_pos (p : Nat) : 0 < (enc p).length := by unfold enc; split; simp; split; simp; split <;> simp
theorem enc_le (p : Nat) : (enc p).length ≤ 4 := by unfold enc; split; simp; split; simp; split <;> simp
theorem encs_length_ge (ps : List Nat) : ps.length ≤ (encs ps).length := by
  induction ps with
  | nil => simp
  | cons p ps ih => have := enc_pos p; simp [encs]; omega
theorem encs_length_le (ps : List Nat) : (encs ps).length ≤ 4 * ps.length := by
  induction ps with
  | nil => simp [encs]
  | cons p ps ih => have := enc_le p; simp [encs]; omega
def tailB (b : UInt8) : Bool := decide (128 ≤ b.toNat) && decide (b.toNat ≤ 191)
def secB (k : Nat) (l : List UInt8) : Bool := decide ((utab k).low ≤ (l[1]?.getD 0).toNat) && decide ((l[1]?.getD 0).toNat ≤ (utab k).high)
def wholeL (k : Nat) (l : List UInt8) : Bool := decide ((utab k).size ≤ l.length) && ((decide ((utab k).size ≤ 1) || secB k l) && ((l.take (utab k).size).drop 2).all tailB)
def noChar (l : List UInt8) : Prop := l ≠ [] ∧ ∀ k, rowBU (l[0]?.getD 0).toNat = some k → wholeL k l = false
def headOf (n : Nat) : Nat := if n = 2 then 0xc0 else if n = 3 then 0xe0 else if n = 4 then 0xf0 else 0
def accL (l : List UInt8) : Nat → Nat
  | 0 => 0
  | 1 => (l[0]?.getD 0).toNat - headOf l.length
  | i + 2 => accL l (i + 1) * 64 + ((l[i + 1]?.getD 0).toNat - 128)
theorem ofNat_toNat {n : Nat} (h : n < 256) : (UInt8.ofNat n).toNat = n := by simp [UInt8.toNat_ofNat']; omega
theorem enc_row {p : Nat} (hp : IsPt p) (t : List UInt8) : ∃ k, k < 9 ∧ rowBU ((enc p)[0]?.getD 0).toNat = some k ∧ rowPU p = some k ∧ (utab k).size = (enc p).length ∧ wholeL k (enc p ++ t) = true ∧ accL (enc p) (enc p).length = p := by
  have hb : (0 ≤ p ∧ p ≤ 0x7f) ∨ (0x80 ≤ p ∧ p ≤ 0x7ff) ∨ (0x800 ≤ p ∧ p ≤ 0xfff) ∨ (0x1000 ≤ p ∧ p ≤ 0xcfff) ∨ (0xd000 ≤ p ∧ p ≤ 0xd7ff) ∨ (0xe000 ≤ p ∧ p ≤ 0xffff) ∨ (0x10000 ≤ p ∧ p ≤ 0x3ffff) ∨ (0x40000 ≤ p ∧ p ≤ 0xfffff) ∨ (0x100000 ≤ p ∧ p ≤ 0x10ffff) := by
    unfold IsPt at hp; omega
  rcases hb with h | h | h | h | h | h | h | h | h
  · have e : enc p = [UInt8.ofNat p] := by unfold enc; rw [if_pos (by omega)]
    rw [e]
    refine ⟨0, by decide, ?_, rowP_hit (k := 0) (by decide) (by simp only [utab]; omega) (by simp only [utab]; omega), rfl, ?_, ?_⟩
    · simp only [List.getElem?_cons_zero, Option.getD_some]; rw [ofNat_toNat (by omega)]; exact rowB_hit (k := 0) (by decide) (by simp only [utab]; omega) (by simp only [utab]; omega)
    · simp [wholeL, utab]
    · show (UInt8.ofNat p).toNat - headOf 1 = p
      rw [ofNat_toNat (by omega)]
      exact Nat.sub_zero _
  · have e : enc p = [UInt8.ofNat (0xc0 + p / 64), UInt8.ofNat (0x80 + p % 64)] := by unfold enc; rw [if_neg (by omega), if_pos (by omega)]
    have e1 : (UInt8.ofNat (0xc0 + p / 64)).toNat = 0xc0 + p / 64 := ofNat_toNat (by omega)
    have e2 : (UInt8.ofNat (0x80 + p % 64)).toNat = 0x80 + p % 64 := ofNat_toNat (by omega)
    rw [e]
    refine ⟨1, by decide, ?_, rowP_hit (k := 1) (by decide) (by simp only [utab]; omega) (by simp only [utab]; omega), rfl, ?_, ?_⟩
    · simp only [List.getElem?_cons_zero, Option.getD_some]; rw [e1]; exact rowB_hit (k := 1) (by decide) (by simp only [utab]; omega) (by simp only [utab]; omega)
    · simp only [wholeL, secB, utab, List.cons_append, List.nil_append, List.length_cons, List.take_succ_cons, List.take_zero, List.drop_succ_cons, List.drop_nil, List.all_nil, List.getElem?_cons_succ, List.getElem?_cons_zero, Option.getD_some, e2]; simp; omega
    · show ((UInt8.ofNat (0xc0 + p / 64)).toNat - headOf 2) * 64 + ((UInt8.ofNat (0x80 + p % 64)).toNat - 128) = p
      rw [e1, e2, show headOf 2 = 0xc0 from rfl]; omega
  all_goals first
    | (have e : enc p = [UInt8.ofNat (0xe0 + p / 4096), UInt8.ofNat (0x80 + p / 64 % 64), UInt8.ofNat (0x80 + p % 64)] := by unfold enc; rw [if_neg (by omega), if_neg (by omega), if_pos (by omega)]
       have e1 : (UInt8.ofNat (0xe0 + p / 4096)).toNat = 0xe0 + p / 4096 := ofNat_toNat (by omega)
       have e2 : (UInt8.ofNat (0x80 + p / 64 % 64)).toNat = 0x80 + p / 64 % 64 := ofNat_toNat (by omega)
       have e3 : (UInt8.ofNat (0x80 + p % 64)).toNat = 0x80 + p % 64 := ofNat_toNat (by omega)
       rw [e]
       obtain ⟨k, hk, hk1, hk2, hk3, hk4, hk5, hk6, hk7⟩ : ∃ k, k < 9 ∧ (utab k).first ≤ 0xe0 + p / 4096 ∧ 0xe0 + p / 4096 ≤ (utab k).last ∧ (utab k).least ≤ p ∧ p ≤ (utab k).most ∧ (utab k).size = 3 ∧ (utab k).low ≤ 0x80 + p / 64 % 64 ∧ 0x80 + p / 64 % 64 ≤ (utab k).high := by
         first
           | exact ⟨2, by decide, by simp only [utab]; omega, by simp only [utab]; omega, by simp only [utab]; omega, by simp only [utab]; omega, rfl, by simp only [utab]; omega, by simp only [utab]; omega⟩
           | exact ⟨3, by decide, by simp only [utab]; omega, by simp only [utab]; omega, by simp only [utab]; omega, by simp only [utab]; omega, rfl, by simp only [utab]; omega, by simp only [utab]; omega⟩
           | exact ⟨4, by decide, by simp only [utab]; omega, by simp only [utab]; omega, by simp only [utab]; omega, by simp only [utab]; omega, rfl, by simp only [utab]; omega, by simp only [utab]; omega⟩
           | exact ⟨5, by decide, by simp only [utab]; omega, by simp only [utab]; omega, by simp only [utab]; omega, by simp only [utab]; omega, rfl, by simp only [utab]; omega, by simp only [utab]; omega⟩
       refine ⟨k, hk, ?_, rowP_hit hk (by omega) (by omega), hk5, ?_, ?_⟩
       · simp only [List.getElem?_cons_zero, Option.getD_some]; rw [e1]; exact rowB_hit hk hk1 hk2
       · simp only [wholeL, secB, hk5, List.cons_append, List.nil_append, List.length_cons, List.take_succ_cons, List.take_zero, List.drop_succ_cons, List.drop_zero, List.all_cons, List.all_nil, tailB, List.getElem?_cons_succ, List.getElem?_cons_zero, Option.getD_some, e2, e3]; simp; omega
       · show (((UInt8.ofNat (0xe0 + p / 4096)).toNat - headOf 3) * 64 + ((UInt8.ofNat (0x80 + p / 64 % 64)).toNat - 128)) * 64 + ((UInt8.ofNat (0x80 + p % 64)).toNat - 128) = p
         rw [e1, e2, e3, show headOf 3 = 0xe0 from rfl]; omega)
    | (have e : enc p = [UInt8.ofNat (0xf0 + p / 262144), UInt8.ofNat (0x80 + p / 4096 % 64), UInt8.ofNat (0x80 + p / 64 % 64), UInt8.ofNat (0x80 + p % 64)] := by unfold enc; rw [if_neg (by omega), if_neg (by omega), if_neg (by omega)]
       have e1 : (UInt8.ofNat (0xf0 + p / 262144)).toNat = 0xf0 + p / 262144 := ofNat_toNat (by omega)
       have e2 : (UInt8.ofNat (0x80 + p / 4096 % 64)).toNat = 0x80 + p / 4096 % 64 := ofNat_toNat (by omega)
       have e3 : (UInt8.ofNat (0x80 + p / 64 % 64)).toNat = 0x80 + p / 64 % 64 := ofNat_toNat (by omega)
       have e4 : (UInt8.ofNat (0x80 + p % 64)).toNat = 0x80 + p % 64 := ofNat_toNat (by omega)
       rw [e]
       obtain ⟨k, hk, hk1, hk2, hk3, hk4, hk5, hk6, hk7⟩ : ∃ k, k < 9 ∧ (utab k).first ≤ 0xf0 + p / 262144 ∧ 0xf0 + p / 262144 ≤ (utab k).last ∧ (utab k).least ≤ p ∧ p ≤ (utab k).most ∧ (utab k).size = 4 ∧ (utab k).low ≤ 0x80 + p / 4096 % 64 ∧ 0x80 + p / 4096 % 64 ≤ (utab k).high := by
         first
           | exact ⟨6, by decide, by simp only [utab]; omega, by simp only [utab]; omega, by simp only [utab]; omega, by simp only [utab]; omega, rfl, by simp only [utab]; omega, by simp only [utab]; omega⟩
           | exact ⟨7, by decide, by simp only [utab]; omega, by simp only [utab]; omega, by simp only [utab]; omega, by simp only [utab]; omega, rfl, by simp only [utab]; omega, by simp only [utab]; omega⟩
           | exact ⟨8, by decide, by simp only [utab]; omega, by simp only [utab]; omega, by simp only [utab]; omega, by simp only [utab]; omega, rfl, by simp only [utab]; omega, by simp only [utab]; omega⟩
       refine ⟨k, hk, ?_, rowP_hit hk (by omega) (by omega), hk5, ?_, ?_⟩
       · simp only [List.getElem?_cons_zero, Option.getD_some]; rw [e1]; exact rowB_hit hk hk1 hk2
       · simp only [wholeL, secB, hk5, List.cons_append, List.nil_append, List.length_cons, List.take_succ_cons, List.take_zero, List.drop_succ_cons, List.drop_zero, List.all_cons, List.all_nil, tailB, List.getElem?_cons_succ, List.getElem?_cons_zero, Option.getD_some, e2, e3, e4]; simp; omega
       · show ((((UInt8.ofNat (0xf0 + p / 262144)).toNat - headOf 4) * 64 + ((UInt8.ofNat (0x80 + p / 4096 % 64)).toNat - 128)) * 64 + ((UInt8.ofNat (0x80 + p / 64 % 64)).toNat - 128)) * 64 + ((UInt8.ofNat (0x80 + p % 64)).toNat - 128) = p
         rw [e1, e2, e3, e4, show headOf 4 = 0xf0 from rfl]; omega)
end Go.Vf
namespace Go.Proofs.YtfhpgmlfgjfknaaGreatDoor
open Go.RowKit Go.Vf
structure Tabs (w : World) : Prop where
  size : 2 ≤ w.heap.size
  r0 : ∀ k, k < 9 → w.cell? ⟨0, k * 7, none⟩ = some (.int .u8 ((utab k).first : Int))
  r1 : ∀ k, k < 9 → w.cell? ⟨0, k * 7 + 1, none⟩ = some (.int .u8 ((utab k).last : Int))
  r2 : ∀ k, k < 9 → w.cell? ⟨0, k * 7 + 2, none⟩ = some (.int .u8 ((utab k).low : Int))
  r3 : ∀ k, k < 9 → w.cell? ⟨0, k * 7 + 3, none⟩ = some (.int .u8 ((utab k).high : Int))
  r4 : ∀ k, k < 9 → w.cell? ⟨0, k * 7 + 4, none⟩ = some (.int .i64 ((utab k).size : Int))
  r5 : ∀ k, k < 9 → w.cell? ⟨0, k * 7 + 5, none⟩ = some (.int .i64 ((utab k).least : Int))
  r6 : ∀ k, k < 9 → w.cell? ⟨0, k * 7 + 6, none⟩ = some (.int .i64 ((utab k).most : Int))
  heads : ∀ k, k < 5 → w.cell? ⟨1, k, none⟩ = some (.int .u8 (headOf k : Int))
theorem Tabs.below {w w' : World} {B : Nat} (h : Tabs w) (hB : 2 ≤ B) (hb : Below B w w') : Tabs w' := by
  refine ⟨Nat.le_trans h.size hb.size, ?_, ?_, ?_, ?_, ?_, ?_, ?_, ?_⟩
  · exact fun k hk => (hb.cell (p := ⟨0, _, none⟩) (by show 0 < B; omega)).trans (h.r0 k hk)
  · exact fun k hk => (hb.cell (p := ⟨0, _, none⟩) (by show 0 < B; omega)).trans (h.r1 k hk)
  · exact fun k hk => (hb.cell (p := ⟨0, _, none⟩) (by show 0 < B; omega)).trans (h.r2 k hk)
  · exact fun k hk => (hb.cell (p := ⟨0, _, none⟩) (by show 0 < B; omega)).trans (h.r3 k hk)
  · exact fun k hk => (hb.cell (p := ⟨0, _, none⟩) (by show 0 < B; omega)).trans (h.r4 k hk)
  · exact fun k hk => (hb.cell (p := ⟨0, _, none⟩) (by show 0 < B; omega)).trans (h.r5 k hk)
  · exact fun k hk => (hb.cell (p := ⟨0, _, none⟩) (by show 0 < B; omega)).trans (h.r6 k hk)
  · exact fun k hk => (hb.cell (p := ⟨1, _, none⟩) (by show 1 < B; omega)).trans (h.heads k hk)
theorem Tabs.own {w w' : World} (h : Tabs w) (hb : Below w.heap.size w w') : Tabs w' := h.below h.size hb
def rowV (k : Nat) : Value := .agg #[.int .u8 ((utab k).first : Int), .int .u8 ((utab k).last : Int), .int .u8 ((utab k).low : Int), .int .u8 ((utab k).high : Int), .int .i64 ((utab k).size : Int), .int .i64 ((utab k).least : Int), .int .i64 ((utab k).most : Int)]
def noRowV : Value := .agg #[.int .u8 0, .int .u8 0, .int .u8 0, .int .u8 0, .int .i64 0, .int .i64 0, .int .i64 0]
structure Box7 (w : World) (h : Nat) (a b c d e f g : Value) : Prop where
  c0 : w.cell? ⟨h, 0, none⟩ = some a
  c1 : w.cell? ⟨h, 1, none⟩ = some b
  c2 : w.cell? ⟨h, 2, none⟩ = some c
  c3 : w.cell? ⟨h, 3, none⟩ = some d
  c4 : w.cell? ⟨h, 4, none⟩ = some e
  c5 : w.cell? ⟨h, 5, none⟩ = some f
  c6 : w.cell? ⟨h, 6, none⟩ = some g
  f0 : w.frozen? ⟨h, 0, none⟩ = false
  f1 : w.frozen? ⟨h, 1, none⟩ = false
  f2 : w.frozen? ⟨h, 2, none⟩ = false
  f3 : w.frozen? ⟨h, 3, none⟩ = false
  f4 : w.frozen? ⟨h, 4, none⟩ = false
  f5 : w.frozen? ⟨h, 5, none⟩ = false
  f6 : w.frozen? ⟨h, 6, none⟩ = false
  lt : h < w.heap.size
theorem Box7.new (w : World) (t : TypeId) (a b c d e f g : Value) : Box7 (w.alloc (.cells #[a, b, c, d, e, f, g] t)) w.heap.size a b c d e f g := by
  constructor <;> simp
def put7 (w : World) (h : Nat) (a b c d e f g : Value) : World :=
  ((((((w.setCell ⟨h, 0, none⟩ a).setCell ⟨h, 1, none⟩ b).setCell ⟨h, 2, none⟩ c).setCell ⟨h, 3, none⟩ d).setCell ⟨h, 4, none⟩ e).setCell ⟨h, 5, none⟩ f).setCell ⟨h, 6, none⟩ g
theorem Box7.put {w : World} {h : Nat} {a b c d e f g : Value} (x : Box7 w h a b c d e f g) (a' b' c' d' e' f' g' : Value) : Box7 (put7 w h a' b' c' d' e' f' g') h a' b' c' d' e' f' g' := by
  obtain ⟨c0, c1, c2, c3, c4, c5, c6, f0, f1, f2, f3, f4, f5, f6, hlt⟩ := x
  unfold put7
  constructor <;> first | (simp only [World.frozen?_setCell, f0, f1, f2, f3, f4, f5, f6]) | (simp [World.cell?_setCell_other, World.cell?_setCell_same, c0, c1, c2, c3, c4, c5, c6, hlt])
theorem below_put7 {B : Nat} {a w : World} {h : Nat} (hb : Below B a w) (hB : B ≤ h) (a' b' c' d' e' f' g' : Value) : Below B a (put7 w h a' b' c' d' e' f' g') := by
  unfold put7
  exact ((((((hb.setCell (p := ⟨h, 0, none⟩) hB _).setCell (p := ⟨h, 1, none⟩) hB _).setCell (p := ⟨h, 2, none⟩) hB _).setCell (p := ⟨h, 3, none⟩) hB _).setCell (p := ⟨h, 4, none⟩) hB _).setCell (p := ⟨h, 5, none⟩) hB _).setCell (p := ⟨h, 6, none⟩) hB _
theorem results27_run {tmps : Array Value} {w : World} {h : Nat} {a b c d e f g : Value} {x : Bool} (hx : Box7 w h a b c d e f g) (t2 : tmps[2]?.getD undef = .pointer (some ⟨h, 0, none⟩)) (t3 : tmps[3]?.getD undef = .bool x) :
    (results Tryz.f70 tmps).run Tryz.prog w = .ok (.tuple #[.agg #[a, b, c, d, e, f, g], .bool x]) w := by
  obtain ⟨c0, c1, c2, c3, c4, c5, c6, f0, f1, f2, f3, f4, f5, f6, hlt⟩ := hx
  simp [results, Tryz.results70, go_sem, t2, t3, c0, c1, c2, c3, c4, c5, c6]
set_option maxHeartbeats 1000000 in
set_option maxRecDepth 20000 in
theorem rowOfByte_any (c : UInt8) (w : World) (ht : Tabs w) :
    Calls Tryz.prog 70 #[.int .u8 (c.toNat : Int)] w fun e w' => (∃ R : Value, e = .returned (.tuple #[R, .bool (rowBU c.toNat).isSome]) ∧ (∀ k, rowBU c.toNat = some k → R = rowV k) ∧ (rowBU c.toNat = none → R = noRowV)) ∧ Below w.heap.size w w' := by
  have hx := Box7.new w 103 (.int .u8 0) (.int .u8 0) (.int .u8 0) (.int .u8 0) (.int .i64 0) (.int .i64 0) (.int .i64 0)
  have hb0 := (Below.refl w.heap.size w).alloc (Nat.le_refl _) (.cells #[.int .u8 0, .int .u8 0, .int .u8 0, .int .u8 0, .int .i64 0, .int .i64 0, .int .i64 0] 103)
  go_enter Tryz.func70, Tryz.ntmps70
  go_wp2
  go_loopw [5] (fun i wr => ∃ k : Nat, k ≤ 9 ∧ i = .int .i64 k ∧ (∀ j, j < k → ¬ ((utab j).first ≤ c.toNat ∧ c.toNat ≤ (utab j).last)) ∧ wr = w.alloc (.cells #[.int .u8 0, .int .u8 0, .int .u8 0, .int .u8 0, .int .i64 0, .int .i64 0, .int .i64 0] 103)) (fun i _ => 9 - (intOf i).toNat)
  case atStart => exact ⟨0, by omega, rfl, fun j hj => absurd hj (by omega), rfl⟩
  case round =>
    obtain ⟨k, hk, rfl, hno, rfl⟩ := hrel
    generalize w.alloc (.cells #[.int .u8 0, .int .u8 0, .int .u8 0, .int .u8 0, .int .i64 0, .int .i64 0, .int .i64 0] 103) = W at hx hb0 ⊢
    have hx2 := hx
    obtain ⟨c0, c1, c2, c3, c4, c5, c6, f0, f1, f2, f3, f4, f5, f6, hl⟩ := hx2
    by_cases hlt : k < 9
    · have ht2 := ht.own hb0
      have t0 := ht2.r0 k hlt
      have t1 := ht2.r1 k hlt
      have t2 := ht2.r2 k hlt
      have t3 := ht2.r3 k hlt
      have t4 := ht2.r4 k hlt
      have t5 := ht2.r5 k hlt
      have t6 := ht2.r6 k hlt
      clear ht ht2
      go_wp2
      · have hf : (utab k).first ≤ c.toNat := by assumption
        have hg : c.toNat ≤ (utab k).last := by assumption
        have hr : rowBU c.toNat = some k := rowB_hit hlt hf hg
        refine bodyPost_ret (results27_run (hx.put _ _ _ _ _ _ _) rfl rfl) rfl ⟨⟨rowV k, by rw [hr]; rfl, fun k' h' => by rw [hr] at h'; cases h'; rfl, fun h' => by rw [hr] at h'; cases h'⟩, ?_⟩
        exact below_put7 hb0 (Nat.le_refl _) _ _ _ _ _ _ _
      · have hg : ¬ (c.toNat ≤ (utab k).last) := by omega
        go_roundw
        case rel => exact ⟨k + 1, by omega, by go_num, fun j hj => (Nat.lt_succ_iff_lt_or_eq.1 hj).elim (hno j) (fun h => by subst h; exact fun h => hg h.2), trivial⟩
        case measure => simp [intOf]; omega
      · have hg : ¬ ((utab k).first ≤ c.toNat) := by omega
        go_roundw
        case rel => exact ⟨k + 1, by omega, by go_num, fun j hj => (Nat.lt_succ_iff_lt_or_eq.1 hj).elim (hno j) (fun h => by subst h; exact fun h => hg h.1), trivial⟩
        case measure => simp [intOf]; omega
    · go_wp2
      have hr : rowBU c.toNat = none := rowB_miss (fun j hj => hno j (by omega))
      refine bodyPost_ret (results27_run (hx.put _ _ _ _ _ _ _) rfl rfl) rfl ⟨⟨noRowV, by rw [hr]; rfl, fun k' h' => (by rw [hr] at h'; cases h'), fun _ => rfl⟩, ?_⟩
      exact below_put7 hb0 (Nat.le_refl _) _ _ _ _ _ _ _
theorem results22_run {tmps : Array Value} {w : World} {h : Nat} {a b c d e f g : Value} {x : Bool} (hx : Box7 w h a b c d e f g) (t2 : tmps[2]?.getD undef = .pointer (some ⟨h, 0, none⟩)) (t3 : tmps[3]?.getD undef = .bool x) :
    (results Tryz.f38 tmps).run Tryz.prog w = .ok (.tuple #[.agg #[a, b, c, d, e, f, g], .bool x]) w := by
  obtain ⟨c0, c1, c2, c3, c4, c5, c6, f0, f1, f2, f3, f4, f5, f6, hlt⟩ := hx
  simp [results, Tryz.results38, go_sem, t2, t3, c0, c1, c2, c3, c4, c5, c6]
set_option maxHeartbeats 1000000 in
set_option maxRecDepth 20000 in
theorem rowOfPoint_any (n : Int) (w : World) (ht : Tabs w) :
    Calls Tryz.prog 38 #[.int .i64 n] w fun e w' => (∃ R : Value, e = .returned (.tuple #[R, .bool (rowPU n).isSome]) ∧ (∀ k, rowPU n = some k → R = rowV k) ∧ (rowPU n = none → R = noRowV)) ∧ Below w.heap.size w w' := by
  have hx := Box7.new w 103 (.int .u8 0) (.int .u8 0) (.int .u8 0) (.int .u8 0) (.int .i64 0) (.int .i64 0) (.int .i64 0)
  have hb0 := (Below.refl w.heap.size w).alloc (Nat.le_refl _) (.cells #[.int .u8 0, .int .u8 0, .int .u8 0, .int .u8 0, .int .i64 0, .int .i64 0, .int .i64 0] 103)
  go_enter Tryz.func38, Tryz.ntmps38
  go_wp2
  go_loopw [5] (fun i wr => ∃ k : Nat, k ≤ 9 ∧ i = .int .i64 k ∧ (∀ j, j < k → ¬ (((utab j).least : Int) ≤ n ∧ n ≤ ((utab j).most : Int))) ∧ wr = w.alloc (.cells #[.int .u8 0, .int .u8 0, .int .u8 0, .int .u8 0, .int .i64 0, .int .i64 0, .int .i64 0] 103)) (fun i _ => 9 - (intOf i).toNat)
  case atStart => exact ⟨0, by omega, rfl, fun j hj => absurd hj (by omega), rfl⟩
  case round =>
    obtain ⟨k, hk, rfl, hno, rfl⟩ := hrel
    generalize w.alloc (.cells #[.int .u8 0, .int .u8 0, .int .u8 0, .int .u8 0, .int .i64 0, .int .i64 0, .int .i64 0] 103) = W at hx hb0 ⊢
    have hx2 := hx
    obtain ⟨c0, c1, c2, c3, c4, c5, c6, f0, f1, f2, f3, f4, f5, f6, hl⟩ := hx2
    by_cases hlt : k < 9
    · have ht2 := ht.own hb0
      have t0 := ht2.r0 k hlt
      have t1 := ht2.r1 k hlt
      have t2 := ht2.r2 k hlt
      have t3 := ht2.r3 k hlt
      have t4 := ht2.r4 k hlt
      have t5 := ht2.r5 k hlt
      have t6 := ht2.r6 k hlt
      clear ht ht2
      go_wp2
      · have hf : ((utab k).least : Int) ≤ n := by assumption
        have hg : n ≤ ((utab k).most : Int) := by assumption
        have hr : rowPU n = some k := rowP_hit hlt hf hg
        refine bodyPost_ret (results22_run (hx.put _ _ _ _ _ _ _) rfl rfl) rfl ⟨⟨rowV k, by rw [hr]; rfl, fun k' h' => by rw [hr] at h'; cases h'; rfl, fun h' => by rw [hr] at h'; cases h'⟩, ?_⟩
        exact below_put7 hb0 (Nat.le_refl _) _ _ _ _ _ _ _
      · have hg : ¬ (n ≤ ((utab k).most : Int)) := by omega
        go_roundw
        case rel => exact ⟨k + 1, by omega, by go_num, fun j hj => (Nat.lt_succ_iff_lt_or_eq.1 hj).elim (hno j) (fun h => by subst h; exact fun h => hg h.2), trivial⟩
        case measure => simp [intOf]; omega
      · have hg : ¬ (((utab k).least : Int) ≤ n) := by omega
        go_roundw
        case rel => exact ⟨k + 1, by omega, by go_num, fun j hj => (Nat.lt_succ_iff_lt_or_eq.1 hj).elim (hno j) (fun h => by subst h; exact fun h => hg h.1), trivial⟩
        case measure => simp [intOf]; omega
    · go_wp2
      have hr : rowPU n = none := rowP_miss (fun j hj => hno j (by omega))
      refine bodyPost_ret (results22_run (hx.put _ _ _ _ _ _ _) rfl rfl) rfl ⟨⟨noRowV, by rw [hr]; rfl, fun k' h' => (by rw [hr] at h'; cases h'), fun _ => rfl⟩, ?_⟩
      exact below_put7 hb0 (Nat.le_refl _) _ _ _ _ _ _ _
end Go.Proofs.YtfhpgmlfgjfknaaGreatDoor
