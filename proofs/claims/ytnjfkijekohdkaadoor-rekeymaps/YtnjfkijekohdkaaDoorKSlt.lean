/- Sources that are lent: a row of them that is filled one by one (lemmas; nothing is claimed here). -/
import Derived.Test.YtnjfkijekohdkaaDoorLent
import Derived.Test.YtnjfkijekohdkaaDoorKTup
namespace Go.Proofs.YtnjfkijekohdkaaDoor
open Go.RowKit Go.Vf

theorem set_sizeC' (w : World) (a : Addr) (v : Value) : (w.setCell a v).heap.size = w.heap.size := by simp [World.setCell]
/-- Seven cells are written. -/
def set7 (w : World) (b k : Nat) (f a0 a1 a2 a3 a4 a5 : Value) : World := ((((((w.setCell ⟨b, k, none⟩ f).setCell ⟨b, k + 1, none⟩ a0).setCell ⟨b, k + 2, none⟩ a1).setCell ⟨b, k + 3, none⟩ a2).setCell ⟨b, k + 4, none⟩ a3).setCell ⟨b, k + 5, none⟩ a4).setCell ⟨b, k + 6, none⟩ a5
theorem set7_size (w : World) (b k : Nat) (f a0 a1 a2 a3 a4 a5 : Value) : (set7 w b k f a0 a1 a2 a3 a4 a5).heap.size = w.heap.size := by simp [set7, World.setCell]
theorem set7_other {w : World} {b k : Nat} {f a0 a1 a2 a3 a4 a5 : Value} {h : Nat} (hh : h ≠ b) : (set7 w b k f a0 a1 a2 a3 a4 a5).heap[h]? = w.heap[h]? := by
  unfold set7
  rw [Below.heap_setCell _ _ _ h hh, Below.heap_setCell _ _ _ h hh, Below.heap_setCell _ _ _ h hh, Below.heap_setCell _ _ _ h hh, Below.heap_setCell _ _ _ h hh, Below.heap_setCell _ _ _ h hh, Below.heap_setCell _ _ _ h hh]
theorem set7_below {B b : Nat} {w W : World} (h : Below B w W) (hB : B ≤ b) (k : Nat) (f a0 a1 a2 a3 a4 a5 : Value) : Below B w (set7 W b k f a0 a1 a2 a3 a4 a5) :=
  ((((((h.setCell (p := ⟨b, k, none⟩) hB _).setCell (p := ⟨b, k + 1, none⟩) hB _).setCell (p := ⟨b, k + 2, none⟩) hB _).setCell (p := ⟨b, k + 3, none⟩) hB _).setCell (p := ⟨b, k + 4, none⟩) hB _).setCell (p := ⟨b, k + 5, none⟩) hB _).setCell (p := ⟨b, k + 6, none⟩) hB _
/-- A row of so many cells. -/
def Len (w : World) (b : Nat) (t : TypeId) (n : Nat) : Prop := ∃ cs, Blk w b t cs ∧ cs.size = n
theorem Len.set {w : World} {b n : Nat} {t : TypeId} (h : Len w b t n) (k : Nat) (v : Value) : Len (w.setCell ⟨b, k, none⟩ v) b t n := by
  obtain ⟨cs, h1, h2⟩ := h
  exact ⟨_, h1.set k v, by simpa using h2⟩
theorem Len.at {w : World} {b n : Nat} {t : TypeId} (h : Len w b t n) (k : Nat) (v : Value) (hk : k < n) : (w.setCell ⟨b, k, none⟩ v).cell? ⟨b, k, none⟩ = some v := by
  obtain ⟨cs, h1, h2⟩ := h
  rw [(h1.set k v).cell]
  simp [h2, hk]
theorem Len.ne {w : World} {b n : Nat} {t : TypeId} (h : Len w b t n) (k j : Nat) (v : Value) (hk : k ≠ j) : (w.setCell ⟨b, k, none⟩ v).cell? ⟨b, j, none⟩ = w.cell? ⟨b, j, none⟩ := by
  obtain ⟨cs, h1, h2⟩ := h
  rw [(h1.set k v).cell, h1.cell, Array.getElem?_setIfInBounds_ne hk]
theorem Len.old {w w' : World} {b n : Nat} {t : TypeId} (h : Len w b t n) (hb : Below w.heap.size w w') : Len w' b t n := by
  obtain ⟨cs, h1, h2⟩ := h
  exact ⟨cs, h1.old hb, h2⟩
theorem Len.lt {w : World} {b n : Nat} {t : TypeId} (h : Len w b t n) : b < w.heap.size := by
  obtain ⟨cs, h1, _⟩ := h
  exact h1.lt
theorem set7_len {w : World} {b n : Nat} {t : TypeId} (h : Len w b t n) (k : Nat) (f a0 a1 a2 a3 a4 a5 : Value) : Len (set7 w b k f a0 a1 a2 a3 a4 a5) b t n := ((((((h.set k f).set (k + 1) a0).set (k + 2) a1).set (k + 3) a2).set (k + 4) a3).set (k + 5) a4).set (k + 6) a5
theorem set7_out {w : World} {b n : Nat} {t : TypeId} (h : Len w b t n) (k j : Nat) (f a0 a1 a2 a3 a4 a5 : Value) (hj : j < k ∨ k + 6 < j) : (set7 w b k f a0 a1 a2 a3 a4 a5).cell? ⟨b, j, none⟩ = w.cell? ⟨b, j, none⟩ := by
  unfold set7
  rw [Len.ne ((((((h.set k f).set (k + 1) a0).set (k + 2) a1).set (k + 3) a2).set (k + 4) a3).set (k + 5) a4) _ _ _ (by omega), Len.ne (((((h.set k f).set (k + 1) a0).set (k + 2) a1).set (k + 3) a2).set (k + 4) a3) _ _ _ (by omega), Len.ne ((((h.set k f).set (k + 1) a0).set (k + 2) a1).set (k + 3) a2) _ _ _ (by omega), Len.ne (((h.set k f).set (k + 1) a0).set (k + 2) a1) _ _ _ (by omega), Len.ne ((h.set k f).set (k + 1) a0) _ _ _ (by omega), Len.ne (h.set k f) _ _ _ (by omega), Len.ne h _ _ _ (by omega)]
theorem set7_in {w : World} {b n : Nat} {t : TypeId} (h : Len w b t n) (k : Nat) (f a0 a1 a2 a3 a4 a5 : Value) (hk : k + 6 < n) :
    (set7 w b k f a0 a1 a2 a3 a4 a5).cell? ⟨b, k, none⟩ = some f ∧ (set7 w b k f a0 a1 a2 a3 a4 a5).cell? ⟨b, k + 1, none⟩ = some a0 ∧ (set7 w b k f a0 a1 a2 a3 a4 a5).cell? ⟨b, k + 2, none⟩ = some a1 ∧ (set7 w b k f a0 a1 a2 a3 a4 a5).cell? ⟨b, k + 3, none⟩ = some a2 ∧ (set7 w b k f a0 a1 a2 a3 a4 a5).cell? ⟨b, k + 4, none⟩ = some a3 ∧ (set7 w b k f a0 a1 a2 a3 a4 a5).cell? ⟨b, k + 5, none⟩ = some a4 ∧ (set7 w b k f a0 a1 a2 a3 a4 a5).cell? ⟨b, k + 6, none⟩ = some a5 := by
  have l1 := h.set k f
  have l2 := l1.set (k + 1) a0
  have l3 := l2.set (k + 2) a1
  have l4 := l3.set (k + 3) a2
  have l5 := l4.set (k + 4) a3
  have l6 := l5.set (k + 5) a4
  unfold set7
  refine ⟨?_, ?_, ?_, ?_, ?_, ?_, ?_⟩
  · rw [l6.ne _ _ _ (by omega), l5.ne _ _ _ (by omega), l4.ne _ _ _ (by omega), l3.ne _ _ _ (by omega), l2.ne _ _ _ (by omega), l1.ne _ _ _ (by omega), h.at _ _ (by omega)]
  · rw [l6.ne _ _ _ (by omega), l5.ne _ _ _ (by omega), l4.ne _ _ _ (by omega), l3.ne _ _ _ (by omega), l2.ne _ _ _ (by omega), l1.at _ _ (by omega)]
  · rw [l6.ne _ _ _ (by omega), l5.ne _ _ _ (by omega), l4.ne _ _ _ (by omega), l3.ne _ _ _ (by omega), l2.at _ _ (by omega)]
  · rw [l6.ne _ _ _ (by omega), l5.ne _ _ _ (by omega), l4.ne _ _ _ (by omega), l3.at _ _ (by omega)]
  · rw [l6.ne _ _ _ (by omega), l5.ne _ _ _ (by omega), l4.at _ _ (by omega)]
  · rw [l6.ne _ _ _ (by omega), l5.at _ _ (by omega)]
  · rw [l6.at _ _ (by omega)]
/-- The seven cells of a source. -/
structure Row7 (w : World) (b off : Nat) (s : Int × Prt) (a : Option Addr) (c : Nat) : Prop where
  fld : w.cell? ⟨b, off, none⟩ = some (.int .i64 s.1)
  c0 : w.cell? ⟨b, off + 1, none⟩ = some (.int .u8 s.2.kind)
  c1 : w.cell? ⟨b, off + 2, none⟩ = some (.bool s.2.yes)
  c2 : w.cell? ⟨b, off + 3, none⟩ = some (.bool s.2.neg)
  c3 : w.cell? ⟨b, off + 4, none⟩ = some (.string s.2.mag)
  c4 : w.cell? ⟨b, off + 5, none⟩ = some (.string s.2.raw)
  c5 : w.cell? ⟨b, off + 6, none⟩ = some (.slice a s.2.items.length c)
/-- The first j sources of a row are there, each part's own rows apart. -/
structure SofS (w : World) (h0 j : Nat) (l : List (Int × Prt)) (cap : Nat) (A : Nat → Option Addr) (C P : Nat → Nat) : Prop where
  len : Len w h0 52 (cap * 7)
  p0 : h0 < P 0
  mono : ∀ i k, i ≤ k → k ≤ j → P i ≤ P k
  top : P j ≤ w.heap.size
  row : ∀ i (hi : i < l.length), i < j → Row7 w h0 (i * 7) l[i] (A i) (C i)
  lin : ∀ i (hi : i < l.length), i < j → LIn w (P i) (P (i + 1)) l[i].2 (A i) (C i)
theorem SofS.old {w w' : World} {h0 j cap : Nat} {l : List (Int × Prt)} {A : Nat → Option Addr} {C P : Nat → Nat} (h : SofS w h0 j l cap A C P) (hb : Below w.heap.size w w') : SofS w' h0 j l cap A C P := by
  have hlt := h.len.lt
  have q : ∀ k, w'.cell? ⟨h0, k, none⟩ = w.cell? ⟨h0, k, none⟩ := fun k => hb.cell (p := ⟨h0, k, none⟩) hlt
  refine ⟨h.len.old hb, h.p0, h.mono, Nat.le_trans h.top hb.size, fun i hi hij => ?_, fun i hi hij => (h.lin i hi hij).keep fun b _ q2 => hb.block b ?_⟩
  · obtain ⟨r0, r1, r2, r3, r4, r5, r6⟩ := h.row i hi hij
    exact ⟨(q _).trans r0, (q _).trans r1, (q _).trans r2, (q _).trans r3, (q _).trans r4, (q _).trans r5, (q _).trans r6⟩
  · have := h.mono (i + 1) j hij (Nat.le_refl _)
    have := h.top
    omega
/-- One more source. -/
theorem SofS.step {w w3 : World} {h0 j cap : Nat} {l : List (Int × Prt)} {A : Nat → Option Addr} {C P : Nat → Nat} {s : Int × Prt} {ax : Option Addr} {cx : Nat} (hS : SofS w h0 j l cap A C P) (hj : j < cap) (hx : ∀ h : j < l.length, l[j] = s) (hb : Below w.heap.size w w3) (hp : LIn w3 w.heap.size w3.heap.size s.2 ax cx) :
    SofS (set7 w3 h0 (j * 7) (.int .i64 s.1) (.int .u8 s.2.kind) (.bool s.2.yes) (.bool s.2.neg) (.string s.2.mag) (.string s.2.raw) (.slice ax s.2.items.length cx)) h0 (j + 1) l cap (fun i => if i = j then ax else A i) (fun i => if i = j then cx else C i) (fun i => if i = j + 1 then w3.heap.size else P i) := by
  have h3 := hS.old hb
  have hl3 := h3.len
  have hp0 := hS.p0
  have htop := hS.top
  have hs := hb.size
  have hm0 := hS.mono 0 j (Nat.zero_le _) (Nat.le_refl _)
  refine ⟨set7_len hl3 _ _ _ _ _ _ _ _, by simp; omega, fun i k h1 h2 => ?_, by simp [set7_size], fun i hi hij => ?_, fun i hi hij => ?_⟩
  · by_cases e : k = j + 1
    · subst e
      by_cases e2 : i = j + 1
      · simp [e2]
      · simp only [e2, if_false, if_true]
        have := hS.mono i j (by omega) (Nat.le_refl _)
        omega
    · have e2 : i ≠ j + 1 := by omega
      simp only [e, e2, if_false]
      exact hS.mono i k h1 (by omega)
  · by_cases e : i = j
    · subst e
      obtain ⟨r0, r1, r2, r3, r4, r5, r6⟩ := set7_in hl3 (i * 7) (.int .i64 s.1) (.int .u8 s.2.kind) (.bool s.2.yes) (.bool s.2.neg) (.string s.2.mag) (.string s.2.raw) (.slice ax s.2.items.length cx) (by omega)
      rw [hx hi]
      simp only [if_true]
      exact ⟨r0, r1, r2, r3, r4, r5, r6⟩
    · obtain ⟨r0, r1, r2, r3, r4, r5, r6⟩ := h3.row i hi (by omega)
      simp only [e, if_false]
      have q : ∀ k, k ≤ 6 → (set7 w3 h0 (j * 7) (.int .i64 s.1) (.int .u8 s.2.kind) (.bool s.2.yes) (.bool s.2.neg) (.string s.2.mag) (.string s.2.raw) (.slice ax s.2.items.length cx)).cell? ⟨h0, i * 7 + k, none⟩ = w3.cell? ⟨h0, i * 7 + k, none⟩ := fun k hk => set7_out hl3 _ _ _ _ _ _ _ _ _ (by omega)
      exact ⟨(q 0 (by omega)).trans r0, (q 1 (by omega)).trans r1, (q 2 (by omega)).trans r2, (q 3 (by omega)).trans r3, (q 4 (by omega)).trans r4, (q 5 (by omega)).trans r5, (q 6 (by omega)).trans r6⟩
  · have hk : ∀ {q : Prt} {lo hi : Nat} {aq : Option Addr} {cq : Nat}, LIn w3 lo hi q aq cq → h0 < lo → LIn (set7 w3 h0 (j * 7) (.int .i64 s.1) (.int .u8 s.2.kind) (.bool s.2.yes) (.bool s.2.neg) (.string s.2.mag) (.string s.2.raw) (.slice ax s.2.items.length cx)) lo hi q aq cq := by
      intro q lo hi aq cq hq h1
      exact hq.keep (fun b q1 q2 => set7_other (by omega))
    by_cases e : i = j
    · subst e
      rw [hx hi]
      simp only [if_true]
      have e2 : ¬ i = i + 1 := by omega
      simp only [e2, if_false]
      exact hk (hp.lower (by omega) (Nat.le_refl _)) (by omega)
    · have e2 : ¬ i = j + 1 := by omega
      have e3 : ¬ i + 1 = j + 1 := by omega
      simp only [e, e2, e3, if_false]
      have := hS.mono 0 i (Nat.zero_le _) (by omega)
      exact hk (h3.lin i hi (by omega)) (by omega)
/-- A mark behind the row. -/
theorem SofS.mark {w : World} {h0 n j cap : Nat} {l : List (Int × Prt)} {A : Nat → Option Addr} {C P : Nat → Nat} (hS : SofS w h0 n l cap A C P) (hj : n ≤ j) (v : Value) : SofS (w.setCell ⟨h0, j * 7, none⟩ v) h0 n l cap A C P := by
  have hl := hS.len
  have hp0 := hS.p0
  refine ⟨hl.set _ _, hS.p0, hS.mono, by rw [set_sizeC']; exact hS.top, fun i hi hin => ?_, fun i hi hin => ?_⟩
  · obtain ⟨r0, r1, r2, r3, r4, r5, r6⟩ := hS.row i hi hin
    have q : ∀ k, k ≤ 6 → (w.setCell ⟨h0, j * 7, none⟩ v).cell? ⟨h0, i * 7 + k, none⟩ = w.cell? ⟨h0, i * 7 + k, none⟩ := fun k hk => hl.ne _ _ _ (by omega)
    exact ⟨(q 0 (by omega)).trans r0, (q 1 (by omega)).trans r1, (q 2 (by omega)).trans r2, (q 3 (by omega)).trans r3, (q 4 (by omega)).trans r4, (q 5 (by omega)).trans r5, (q 6 (by omega)).trans r6⟩
  · have := hS.mono 0 i (Nat.zero_le _) (by omega)
    exact (hS.lin i hi hin).keep (fun b q1 q2 => Below.heap_setCell _ _ _ b (by show b ≠ h0; omega))
end Go.Proofs.YtnjfkijekohdkaaDoor
