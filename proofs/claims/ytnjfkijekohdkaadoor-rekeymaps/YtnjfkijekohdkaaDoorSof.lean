/- Rows of parts that are filled one by one, each part's own rows apart (lemmas; nothing is claimed here). -/
import Derived.Test.YtnjfkijekohdkaaDoorWrt
import Derived.BigRegion
namespace Go.Proofs.YtnjfkijekohdkaaDoor
open Go.RowKit Go.Vf
/-- The bytes of the mark behind a row. -/
def markB : ByteArray := ⟨#[109, 97, 114, 107]⟩
/-- A part that was lent: as WIn, with room for two more behind each row, which is marked. -/
inductive LIn (w : World) : Nat → Nat → Prt → Option Addr → Nat → Prop where
  | row {lo n : Nat} {p : Prt} {b c : Nat} {cs : Array Value} (A : Nat → Option Addr) (C P : Nat → Nat) : lo ≤ b → b < P 0 → (∀ i j, i ≤ j → j ≤ p.items.length → P i ≤ P j) → P p.items.length ≤ n → Blk w b 29 cs → cs.size = c * 6 → c = p.items.length + 2 → p.items.length ≤ 33554432 →
      (∀ j, p.items.length ≤ j → j < p.items.length + 2 → w.cell? ⟨b, j * 6, none⟩ = some (.int .u8 99) ∧ w.cell? ⟨b, j * 6 + 4, none⟩ = some (.string markB)) →
      (∀ j (hj : j < p.items.length), Row6 w b (j * 6) p.items[j] (A j) (C j)) → (∀ j (hj : j < p.items.length), LIn w (P j) (P (j + 1)) p.items[j] (A j) (C j)) → LIn w lo n p (some ⟨b, 0, none⟩) c
theorem LIn.keep {w w' : World} {lo n : Nat} {p : Prt} {a : Option Addr} {c : Nat} (h : LIn w lo n p a c) (hk : ∀ b, lo ≤ b → b < n → w'.heap[b]? = w.heap[b]?) : LIn w' lo n p a c := by
  induction h with
  | @row lo n p b c cs A C P h1 h2 h3 h4 h5 h6 h7 hmx hmk h8 h9 ih =>
    have hb : b < n := by have := h3 0 _ (Nat.zero_le _) (Nat.le_refl _); omega
    have e := hk b h1 hb
    have q := fun k => cell_of_block e k
    refine .row A C P h1 h2 h3 h4 (e.trans h5) h6 h7 hmx (fun j q1 q2 => ⟨(q _).trans (hmk j q1 q2).1, (q _).trans (hmk j q1 q2).2⟩) (fun j hj => ?_) (fun j hj => ih j hj fun b' q1 q2 => hk b' ?_ ?_)
    · obtain ⟨r0, r1, r2, r3, r4, r5⟩ := h8 j hj
      exact ⟨(q _).trans r0, (q _).trans r1, (q _).trans r2, (q _).trans r3, (q _).trans r4, (q _).trans r5⟩
    · have := h3 0 j (Nat.zero_le _) (by omega); omega
    · have := h3 (j + 1) _ hj (Nat.le_refl _); omega
theorem LIn.win {w : World} {lo n : Nat} {p : Prt} {a : Option Addr} {c : Nat} (h : LIn w lo n p a c) : WIn w lo n p a c := by
  induction h with
  | @row lo n p b c cs A C P h1 h2 h3 h4 h5 h6 h7 hmx hmk h8 h9 ih => exact .row A C P h1 h2 h3 h4 h5 h6 (by omega) (by omega) h8 ih
theorem WIn.pin {w : World} {lo n : Nat} {p : Prt} {a : Option Addr} {c : Nat} (h : WIn w lo n p a c) : PIn w lo n p a := by
  induction h with
  | none h => exact .nil h
  | @row lo n p b cap cs A C P h1 h2 h3 h4 h5 h6 h7 hmx h8 h9 ih =>
    have h0 := h3 0 _ (Nat.zero_le _) (Nat.le_refl _)
    refine .cons A C h1 (by omega) (fun j hj => by rw [Nat.zero_add]; exact h8 j hj) (fun j hj => (ih j hj).mono ?_ ?_)
    · have := h3 (j + 1) _ hj (Nat.le_refl _); omega
    · have := h3 0 j (Nat.zero_le _) (by omega); omega
theorem WIn.lower {w : World} {lo lo' n n' : Nat} {p : Prt} {a : Option Addr} {c : Nat} (h : WIn w lo n p a c) (hl : lo' ≤ lo) (hn : n ≤ n') : WIn w lo' n' p a c := by
  cases h with
  | none h => exact .none h
  | row A C P h1 h2 h3 h4 h5 h6 h7 hmx h8 h9 => exact .row A C P (by omega) h2 h3 (by omega) h5 h6 h7 hmx h8 h9
theorem LIn.lower {w : World} {lo lo' n n' : Nat} {p : Prt} {a : Option Addr} {c : Nat} (h : LIn w lo n p a c) (hl : lo' ≤ lo) (hn : n ≤ n') : LIn w lo' n' p a c := by
  cases h with
  | row A C P h1 h2 h3 h4 h5 h6 h7 hmx hmk h8 h9 => exact .row A C P (by omega) h2 h3 (by omega) h5 h6 h7 hmx hmk h8 h9
/-- What is said of each item's rows. -/
structure Rowy (Q : World → Nat → Nat → Prt → Option Addr → Nat → Prop) : Prop where
  keep : ∀ {w w' : World} {lo n : Nat} {p : Prt} {a : Option Addr} {c : Nat}, Q w lo n p a c → (∀ b, lo ≤ b → b < n → w'.heap[b]? = w.heap[b]?) → Q w' lo n p a c
  lower : ∀ {w : World} {lo lo' n n' : Nat} {p : Prt} {a : Option Addr} {c : Nat}, Q w lo n p a c → lo' ≤ lo → n ≤ n' → Q w lo' n' p a c
theorem rowyW : Rowy WIn := ⟨fun h hk => h.keep hk, fun h a b => h.lower a b⟩
theorem rowyL : Rowy LIn := ⟨fun h hk => h.keep hk, fun h a b => h.lower a b⟩
/-- The first j parts of a row are there. -/
structure SofarQ (Q : World → Nat → Nat → Prt → Option Addr → Nat → Prop) (w : World) (h0 j : Nat) (cs : Array Value) (l : List Prt) (cap : Nat) (A : Nat → Option Addr) (C P : Nat → Nat) : Prop where
  blk : Blk w h0 29 cs
  size : cs.size = cap * 6
  p0 : h0 < P 0
  mono : ∀ i k, i ≤ k → k ≤ j → P i ≤ P k
  top : P j ≤ w.heap.size
  row : ∀ i (hi : i < l.length), i < j → Row6 w h0 (i * 6) l[i] (A i) (C i)
  win : ∀ i (hi : i < l.length), i < j → Q w (P i) (P (i + 1)) l[i] (A i) (C i)
theorem SofarQ.step {Q : World → Nat → Nat → Prt → Option Addr → Nat → Prop} (hQ : Rowy Q) {w w3 : World} {h0 j cap : Nat} {cs : Array Value} {l : List Prt} {A : Nat → Option Addr} {C P : Nat → Nat} {x : Prt} {ax : Option Addr} {cx : Nat} (hS : SofarQ Q w h0 j cs l cap A C P) (hj : j < cap) (hx : ∀ h : j < l.length, l[j] = x)
    (hb : Below w.heap.size w w3) (hp : Q w3 w.heap.size w3.heap.size x ax cx) :
    SofarQ Q (set6 w3 h0 (j * 6) (.int .u8 x.kind) (.bool x.yes) (.bool x.neg) (.string x.mag) (.string x.raw) (.slice ax x.items.length cx)) h0 (j + 1)
      ((((((cs.setIfInBounds (j * 6) (.int .u8 x.kind)).setIfInBounds (j * 6 + 1) (.bool x.yes)).setIfInBounds (j * 6 + 2) (.bool x.neg)).setIfInBounds (j * 6 + 3) (.string x.mag)).setIfInBounds (j * 6 + 4) (.string x.raw)).setIfInBounds (j * 6 + 5) (.slice ax x.items.length cx)) l cap
      (fun i => if i = j then ax else A i) (fun i => if i = j then cx else C i) (fun i => if i = j + 1 then w3.heap.size else P i) := by
  have hB3 := hS.blk.old hb
  have hB4 := set6_blk hB3 (j * 6) (.int .u8 x.kind) (.bool x.yes) (.bool x.neg) (.string x.mag) (.string x.raw) (.slice ax x.items.length cx)
  have hcs := hS.size
  have hp0 := hS.p0
  have htop := hS.top
  have hs := hb.size
  have hm0 := hS.mono 0 j (Nat.zero_le _) (Nat.le_refl _)
  have hk : ∀ {q : Prt} {lo hi : Nat} {aq : Option Addr} {cq : Nat}, Q w3 lo hi q aq cq → h0 < lo → Q (set6 w3 h0 (j * 6) (.int .u8 x.kind) (.bool x.yes) (.bool x.neg) (.string x.mag) (.string x.raw) (.slice ax x.items.length cx)) lo hi q aq cq := by
    intro q lo hi aq cq hq h1
    exact hQ.keep hq (fun b q1 q2 => set6_other (by omega))
  refine ⟨hB4, by simp [hcs], by simp; omega, fun i k h1 h2 => ?_, by simp [set6_size], fun i hi hij => ?_, fun i hi hij => ?_⟩
  · by_cases e : k = j + 1
    · subst e
      by_cases e2 : i = j + 1
      · simp [e2]
      · simp only [e2, if_false, if_true]
        have := hS.mono i j (by omega) (Nat.le_refl _)
        omega
    · have e2 : i ≠ j + 1 := by omega
      simp only [e, e2, if_false]
      exact hS.mono i k h1 (by omega)
  · by_cases e : i = j
    · subst e
      simp only [if_true]
      rw [hx hi]
      obtain ⟨d0, d1, d2, d3, d4, d5⟩ := six_in (cs := cs) (k := i * 6) (by omega) (.int .u8 x.kind) (.bool x.yes) (.bool x.neg) (.string x.mag) (.string x.raw) (.slice ax x.items.length cx)
      exact ⟨(hB4.cell _).trans d0, (hB4.cell _).trans d1, (hB4.cell _).trans d2, (hB4.cell _).trans d3, (hB4.cell _).trans d4, (hB4.cell _).trans d5⟩
    · simp only [e, if_false]
      have hr := hS.row i hi (by omega)
      have q : ∀ k, k ≤ 5 → (set6 w3 h0 (j * 6) (.int .u8 x.kind) (.bool x.yes) (.bool x.neg) (.string x.mag) (.string x.raw) (.slice ax x.items.length cx)).cell? ⟨h0, i * 6 + k, none⟩ = w.cell? ⟨h0, i * 6 + k, none⟩ := fun k hk => by
        rw [hB4.cell, hS.blk.cell, six_out (by omega)]
      exact ⟨(q 0 (by omega)).trans hr.c0, (q 1 (by omega)).trans hr.c1, (q 2 (by omega)).trans hr.c2, (q 3 (by omega)).trans hr.c3, (q 4 (by omega)).trans hr.c4, (q 5 (by omega)).trans hr.c5⟩
  · by_cases e : i = j
    · subst e
      simp only [if_true, show ¬ i = i + 1 by omega, if_false]
      rw [hx hi]
      exact hk (hQ.lower hp htop (Nat.le_refl _)) (by omega)
    · have e2 : ¬ i = j + 1 := by omega
      have e3 : ¬ i + 1 = j + 1 := by omega
      simp only [e, e2, e3, if_false]
      have hm1 := hS.mono 0 i (Nat.zero_le _) (by omega)
      have hm2 := hS.mono (i + 1) j (by omega) (Nat.le_refl _)
      exact hk (hQ.keep (hS.win i hi (by omega)) (fun b q1 q2 => hb.block b (by omega))) (by omega)
theorem run_make27c (n c : Nat) (hc : n ≤ c) (hn : c ≤ 1099511627776) (w : World) : (Instr.makeSlice 27 (.int .i64 (n : Int)) (.int .i64 (c : Int))).run Tryd.prog w = .ok (.slice (some ⟨w.heap.size, 0, none⟩) n c) (w.alloc (.cells (madeCells #[.int .u8 0, .bool false, .bool false, .string ⟨#[]⟩, .string ⟨#[]⟩, .slice none 0 0] (c * 6)) 29)) := by
  obtain ⟨i, hi, hzz⟩ := Option.map_eq_some_iff.1 info27p
  simp only [Prod.mk.injEq] at hzz
  obtain ⟨hz, hs, hb⟩ := hzz
  have := run_make (P := Tryd.prog) w 27 29 i _ Tryd.underlying27 hi hz .i64 .i64 (n : Int) (c : Int) (by omega) (by omega) (by rw [hb]; omega) (by omega)
  rw [hs] at this
  simpa [Value.cells] using this
end Go.Proofs.YtnjfkijekohdkaaDoor
