/- What the document's Put does (contracts; nothing is claimed here). -/
import Derived.Test.YtklnnkdcnaieoaaRfg
import Derived.Test.YtklnnkdcnaieoaaPta
namespace Go.Proofs.Ytklnnkdcnaieoaa
open Go.RowKit Go.Vf

/-- All blocks but a box and a row stay. -/
structure Frm (C : Nat) (o : Option Nat) (w w' : World) : Prop where
  size : w.heap.size ≤ w'.heap.size
  block : ∀ k, k < w.heap.size → k ≠ C → some k ≠ o → w'.heap[k]? = w.heap[k]?
theorem Frm.of {C : Nat} {o : Option Nat} {w w' : World} (h : Below w.heap.size w w') : Frm C o w w' := ⟨h.size, fun k hk _ _ => h.block k hk⟩
theorem Frm.trans {C : Nat} {o o' : Option Nat} {a b c : World} (h : Frm C o a b) (k : Frm C o' b c) (hf : ∀ g, o' = some g → o = some g ∨ a.heap.size ≤ g) : Frm C o a c :=
  ⟨Nat.le_trans h.size k.size, fun x hx hC ho => (k.block x (Nat.lt_of_lt_of_le hx h.size) hC (fun e => by
    rcases hf x e.symm with q | q
    · exact ho q.symm
    · omega)).trans (h.block x hx hC ho)⟩
theorem Frm.blk {C : Nat} {o : Option Nat} {w w' : World} {b : Nat} {t : TypeId} {cs : Array Value} (h : Frm C o w w') (hb : Blk w b t cs) (h1 : b ≠ C) (h2 : some b ≠ o) : Blk w' b t cs := (h.block b hb.lt h1 h2).trans hb
/-- The document's shelf has changed to these pairs. -/
structure RChd (C base : Nat) (v : Value) (M : List Pr) (w w' : World) (v' : Value) : Prop where
  at_ : RfAt w' C base v' M
  own : ∀ g, v'.ownBlock = some g → v.ownBlock = some g ∨ w.heap.size ≤ g
  frm : Frm C v.ownBlock w w'
  low : Below base w w'
def RChg (C base : Nat) (v : Value) (b : Bool) (M : List Pr) (w : World) (e : Ending) (w' : World) : Prop := e = .returned (.bool b) ∧ ∃ v', RChd C base v M w w' v'

theorem PRow.mono {w : World} {b b' : Nat} {v : Value} {l : List Pr} (h : PRow w b v l) (hb : b' ≤ b) : PRow w b' v l := by
  refine ⟨h.1, ?_⟩
  rcases h.2 with h0 | ⟨g, cap, cur, e, hbg, hr⟩
  · exact .inl h0
  · exact .inr ⟨g, cap, cur, e, Nat.le_trans hb hbg, hr⟩
theorem PRow.own {w : World} {b : Nat} {v : Value} {l : List Pr} (h : PRow w b v l) {g : Nat} (hg : v.ownBlock = some g) : b ≤ g ∧ g < w.heap.size := by
  rcases h.2 with ⟨rfl, _⟩ | ⟨g', cap, cur, rfl, hbg, hgc, _⟩
  · cases hg
  · injection hg with hg
    subst hg
    exact ⟨hbg, (Array.getElem?_eq_some_iff.1 hgc).1⟩
theorem addp (b off j : Nat) : (⟨b, off, none⟩ : Addr).add j = ⟨b, off + j, none⟩ := by
  unfold Addr.add
  split
  · rename_i h; subst h; rfl
  · rfl
theorem addb (p : Addr) (j : Nat) : (p.add j).block = p.block := by
  unfold Addr.add
  split <;> rfl
/-- A part of a row, to read from. -/
def Cut (w : World) (v : Value) (l : List Pr) : Prop := (v = .slice none 0 0 ∧ l = []) ∨ ∃ p c, v = .slice (some p) l.length c ∧ ∀ j u, (cellsP l)[j]? = some u → w.cell? (p.add j) = some u
/-- append(low, part...). -/
theorem append_cut {w : World} {b1 : Nat} {v1 v2 : Value} {l1 l2 : List Pr} (h1 : PRow w b1 v1 l1) (h2 : Cut w v2 l2) (hl : l1.length + l2.length ≤ 4294967296) (hb : b1 ≤ w.heap.size) :
    ∃ v' w', (Builtin.append_ #[39, 39] 39 #[v1, v2]).run Try.prog w = .ok v' w' ∧ PRow w' b1 v' (l1 ++ l2) ∧ w.grownBy w' v1.ownBlock := by
  obtain ⟨i0, hi, hz0, hz1, hz2⟩ := info_parts Try.info45
  rcases h2 with ⟨rfl, rfl⟩ | ⟨p, c, rfl, hnews⟩
  · obtain ⟨a, c, e1⟩ := h1.shape
    have hle : l1.length ≤ c := by
      rcases h1.2 with ⟨q, q0⟩ | ⟨g, cap, cur, q, _, _, q1, _⟩
      · rw [q0]; exact Nat.zero_le _
      · rw [q] at e1; injection e1 with _ _ e3; omega
    subst e1
    refine ⟨_, w, run_append_nothing (P := Try.prog) w 39 39 39 45 i0 Try.underlying39 hi a l1.length c hle (.slice none 0 0) ?_, by simpa using h1, ⟨rfl, rfl, rfl, Nat.le_refl _, fun _ _ _ => rfl⟩⟩
    exact Src.ofNil w Try.underlying39 0
  · obtain ⟨v', w', r0, r1, r2, _⟩ := run_append_own (P := Try.prog) w b1 39 39 45 i0 _ 2 32 Try.underlying39 hi hz0 hz1 hz2 rfl (by decide) v1 l1.length (cellsP l1) h1 p l2.length c (cellsP l2) (cellsP_len l2) hnews (cellsP_one l2) (by unfold maxLen; omega) (by omega) hb
    refine ⟨v', w', r0, ?_, r2⟩
    unfold PRow
    rw [cellsP_append, List.length_append]
    exact r1
theorem below_grown {w w' : World} {n : Nat} {o : Option Nat} (h : w.grownBy w' o) (ho : ∀ g, o = some g → n ≤ g) (hn : n ≤ w.heap.size) : Below n w w' :=
  ⟨h.os, h.tape, h.output, h.size, fun k hk => h.block k (by omega) (fun e => by have := ho k e.symm; omega)⟩
theorem cellsP_take (l : List Pr) (k : Nat) : cellsP (l.take k) = (cellsP l).take (k * 2) := by
  induction l generalizing k with
  | nil => simp [cellsP]
  | cons p r ih =>
    cases k with
    | zero => simp [cellsP]
    | succ k =>
      have e : cellsP (p :: r) = .string p.1 :: .string p.2 :: cellsP r := rfl
      have e2 : cellsP (p :: r.take k) = .string p.1 :: .string p.2 :: cellsP (r.take k) := rfl
      rw [List.take_succ_cons, e, e2, show (k + 1) * 2 = k * 2 + 1 + 1 by omega, List.take_succ_cons, List.take_succ_cons, ih]
theorem cellsP_drop (l : List Pr) (k : Nat) : cellsP (l.drop k) = (cellsP l).drop (k * 2) := by
  induction l generalizing k with
  | nil => simp [cellsP]
  | cons p r ih =>
    cases k with
    | zero => simp
    | succ k =>
      have e : cellsP (p :: r) = .string p.1 :: .string p.2 :: cellsP r := rfl
      rw [List.drop_succ_cons, e, show (k + 1) * 2 = k * 2 + 1 + 1 by omega, List.drop_succ_cons, List.drop_succ_cons, ih]
/-- The cells of a row. -/
theorem PRow.cells {w : World} {base g n c : Nat} {l : List Pr} (h : PRow w base (.slice (some ⟨g, 0, none⟩) n c) l) : ∀ j u, (cellsP l)[j]? = some u → w.cell? ⟨g, j, none⟩ = some u := by
  rcases h.2 with ⟨e, _⟩ | ⟨g', cap, cur, e, _, hg, _, _, _, ht⟩
  · cases e
  · injection e with e _ _
    injection e with e
    injection e with e
    subst e
    intro j u hj
    have hB : Blk w g 45 cur := hg
    rw [hB.cell j]
    rw [← ht, List.getElem?_take] at hj
    split at hj
    · simpa using hj
    · cases hj
theorem cut_take {w : World} {base g n c : Nat} {l : List Pr} (h : PRow w base (.slice (some ⟨g, 0, none⟩) n c) l) (k : Nat) (hk : k ≤ l.length) (c' : Nat) : Cut w (.slice (some ⟨g, 0, none⟩) k c') (l.take k) := by
  refine .inr ⟨_, c', by rw [List.length_take, Nat.min_eq_left hk], fun j u hj => ?_⟩
  rw [cellsP_take, List.getElem?_take] at hj
  split at hj
  · rw [addp]; simpa using h.cells j u hj
  · cases hj
theorem cut_drop {w : World} {base g n c : Nat} {l : List Pr} (h : PRow w base (.slice (some ⟨g, 0, none⟩) n c) l) (k m : Nat) (hm : m = l.length - k) (c' : Nat) : Cut w (.slice (some ⟨g, k * 2, none⟩) m c') (l.drop k) := by
  refine .inr ⟨_, c', by rw [List.length_drop, hm], fun j u hj => ?_⟩
  rw [cellsP_drop, List.getElem?_drop] at hj
  rw [addp]
  exact h.cells _ u hj
theorem Cut.old {w w' : World} {v : Value} {l : List Pr} {n : Nat} (h : Cut w v l) (hb : Below n w w') (hv : ∀ g, v.ownBlock = some g → g < n) : Cut w' v l := by
  rcases h with h | ⟨p, c, rfl, hc⟩
  · exact .inl h
  · exact .inr ⟨p, c, rfl, fun j u hj => (hb.cell (p := p.add j) (by rw [addb]; exact hv p.block rfl)).trans (hc j u hj)⟩
theorem cut_one {w : World} {k v : ByteArray} : Cut (w.alloc (.cells #[.string k, .string v] 45)) (.slice (some ⟨w.heap.size, 0, none⟩) 1 1) [(k, v)] :=
  .inr ⟨_, 1, rfl, World.news_of_block (cs := #[.string k, .string v]) (t := 45) (fr := (0, 0)) (heap_alloc_new w _)⟩
/-- A pair's value written over. -/
theorem PRow.set {w : World} {base g n c : Nat} {l : List Pr} (h : PRow w base (.slice (some ⟨g, 0, none⟩) n c) l) (k : Nat) (hk : k < l.length) (v : ByteArray) : PRow (w.setCell ⟨g, k * 2 + 1, none⟩ (.string v)) base (.slice (some ⟨g, 0, none⟩) n c) (l.set k (l[k].1, v)) := by
  have ec : cellsP (l.set k (l[k].1, v)) = (cellsP l).set (k * 2 + 1) (.string v) := by
    clear h
    induction l generalizing k with
    | nil => simp at hk
    | cons p r ih =>
      cases k with
      | zero => rfl
      | succ k =>
        have hk' : k < r.length := by simpa using hk
        have e : cellsP (p :: r) = .string p.1 :: .string p.2 :: cellsP r := rfl
        have e2 : cellsP (p :: r.set k (r[k].1, v)) = .string p.1 :: .string p.2 :: cellsP (r.set k (r[k].1, v)) := rfl
        have := ih k (by simpa using hk)
        rw [List.set_cons_succ, List.getElem_cons_succ, e2, this, e, show (k + 1) * 2 + 1 = k * 2 + 1 + 1 + 1 by omega, List.set_cons_succ, List.set_cons_succ]
  refine ⟨by rw [cellsP_len], ?_⟩
  rcases h.2 with ⟨e, _⟩ | ⟨g', cap, cur, e, hb, hg, hnc, hcm, hcs, ht⟩
  · cases e
  · injection e with e e2 e3
    injection e with e
    injection e with e
    subst e e2 e3
    have hB : Blk w g 45 cur := hg
    refine .inr ⟨g, c, cur.setIfInBounds (k * 2 + 1) (.string v), by rw [List.length_set], hb, hB.set _ _, by rw [List.length_set]; exact hnc, hcm, by simpa using hcs, ?_⟩
    rw [List.length_set, ec, ← ht]
    simp [List.take_set]
theorem Plc.put {L : List Pr} {key v : ByteArray} {k : Nat} (h : Plc L key k true) (hs : Srt L) (hk : k < L.length) : L.set k (L[k].1, v) = Go.Vf.ins key v L := by
  obtain ⟨hk', e⟩ := h.yes rfl
  have e1 : L = L.take k ++ L[k] :: L.drop (k + 1) := by
    conv => lhs; rw [← List.take_append_drop k L]
    rw [List.drop_eq_getElem_cons hk]
  have h2 := hs
  rw [e1] at h2
  have h3 := ins_here (v := v) h2
  rw [← e1, e] at h3
  rw [h3, List.set_eq_take_append_cons_drop, if_pos hk, e]
end Go.Proofs.Ytklnnkdcnaieoaa
