/- A reader that is being made, in memory (lemmas; nothing is claimed here). -/
import Derived.Test.YtcbjnifoojjipaaGreatDoorSLns
import Derived.Test.YtcbjnifoojjipaaGreatDoorSCal
import Derived.Test.YtcbjnifoojjipaaGreatDoorSSca
namespace Go.Proofs.YtcbjnifoojjipaaGreatDoor
open Go.RowKit Go.Vf Go.Maps

/-- The lines that say something, with their numbers. -/
def lnF : Int → List (List UInt8) → List Ln
  | _, [] => []
  | n, l :: ls => if (wordsL l).isEmpty then lnF (n + 1) ls else (n, wordsL l) :: lnF (n + 1) ls
theorem lnF_snoc (x : List UInt8) : ∀ (n : Int) (pre : List (List UInt8)), lnF n (pre ++ [x]) = lnF n pre ++ (if (wordsL x).isEmpty then [] else [(n + pre.length, wordsL x)])
  | n, [] => by simp [lnF]
  | n, l :: ls => by
    rw [List.cons_append, lnF, lnF, lnF_snoc x (n + 1) ls]
    have : n + 1 + (ls.length : Int) = n + ((l :: ls).length : Int) := by simp only [List.length_cons]; omega
    rw [this]
    split <;> simp
theorem lnF_len : ∀ (n : Int) (pre : List (List UInt8)), (lnF n pre).length ≤ pre.length
  | _, [] => Nat.le_refl _
  | n, l :: ls => by
    rw [lnF]
    have := lnF_len (n + 1) ls
    split
    · simp only [List.length_cons]; omega
    · simp only [List.length_cons]; omega
abbrev LQ := Ln × Nat
def cellL (q : LQ) : List Value := [.int .i64 q.1.1, .slice (some ⟨q.2, 0, none⟩) q.1.2.length q.1.2.length]
theorem flat2 {α : Type} (f : α → List Value) (h : ∀ a, (f a).length = 2) : ∀ (qs : List α) (j k : Nat) (hj : j < qs.length), k < 2 → (qs.flatMap f)[j * 2 + k]? = (f qs[j])[k]? := by
  intro qs
  induction qs with
  | nil => intro j k hj; simp at hj
  | cons q qs ih =>
    intro j k hj hk
    rw [List.flatMap_cons]
    cases j with
    | zero => rw [List.getElem?_append_left (by rw [h]; omega)]; simp
    | succ j =>
      rw [List.getElem?_append_right (by rw [h]; omega), h, show (j + 1) * 2 + k - 2 = j * 2 + k by omega, ih j k (by simpa using hj) hk]
      simp
/-- A line's words in a block of texts. -/
def WBlk (W : World) (A : Nat) (ws : List ByteArray) : Prop := (∃ cs f, W.heap[A]? = some (.cells cs 9 f)) ∧ ∀ j (hj : j < ws.length), W.cell? ⟨A, j, none⟩ = some (.string ws[j])
theorem WBlk.lt {W : World} {A : Nat} {ws : List ByteArray} (h : WBlk W A ws) : A < W.heap.size := by
  obtain ⟨⟨_, _, h⟩, _⟩ := h
  exact (Array.getElem?_eq_some_iff.1 h).1
theorem WBlk.same {W W' : World} {A : Nat} {ws : List ByteArray} (h : WBlk W A ws) (hs : W'.heap[A]? = W.heap[A]?) : WBlk W' A ws := by
  obtain ⟨⟨cs, f, h1⟩, h2⟩ := h
  exact ⟨⟨cs, f, hs.trans h1⟩, fun j hj => (cell_of_block hs _).trans (h2 j hj)⟩
/-- The reader that is being made. -/
structure NwAt (B0 : Nat) (w0 W : World) (Rb R Bs : Nat) (k : Nat) (la : Option Addr) (lc : Nat) (qs : List LQ) : Prop where
  box : Blk W Rb 102 #[.pointer (some ⟨R, 0, none⟩)]
  rd : Blk W R 107 #[.slice la qs.length lc, .int .i64 (1 + (k : Int)), .slice none 0 0]
  own : W.ownsRow B0 139 2 (.slice la qs.length lc) qs.length (qs.flatMap cellL)
  wds : ∀ q ∈ qs, B0 ≤ q.2 ∧ WBlk W q.2 q.1.2
  bel : Below w0.heap.size w0 W
  hBs : Bs < B0
  hB0 : B0 ≤ W.heap.size
variable {B0 : Nat} {w0 W W' : World} {Rb R Bs k : Nat} {la : Option Addr} {lc : Nat} {qs : List LQ}
theorem own_keep {w w' : World} {base : Nat} {e : TypeId} {size : Nat} {v : Value} {n : Nat} {xs : List Value} (h : w.ownsRow base e size v n xs) (hs : ∀ j cs f, base ≤ j → w.heap[j]? = some (.cells cs e f) → w'.heap[j]? = w.heap[j]?) : w'.ownsRow base e size v n xs := by
  obtain ⟨h1, h2⟩ := h
  refine ⟨h1, ?_⟩
  rcases h2 with h2 | ⟨g, cap, cur, rfl, e2, e3, e4⟩
  · exact .inl h2
  · exact .inr ⟨g, cap, cur, rfl, e2, (hs g _ _ e2 e3).trans e3, e4⟩
/-- Whatever leaves the cells of these alone. -/
theorem NwAt.kp (h : NwAt B0 w0 W Rb R Bs k la lc qs) (hb : Below w0.heap.size w0 W') (hz : B0 ≤ W'.heap.size) (hs : ∀ j cs t f, W.heap[j]? = some (.cells cs t f) → j ≠ Bs → W'.heap[j]? = W.heap[j]?) (h1 : Rb ≠ Bs) (h2 : R ≠ Bs) : NwAt B0 w0 W' Rb R Bs k la lc qs := by
  have hB := h.hBs
  refine ⟨(hs _ _ _ _ h.box h1).trans h.box, (hs _ _ _ _ h.rd h2).trans h.rd, own_keep h.own fun j cs f hj hc => hs j _ _ _ hc (by omega), fun q hq => ⟨(h.wds q hq).1, ?_⟩, hb, hB, hz⟩
  obtain ⟨a1, a2⟩ := h.wds q hq
  obtain ⟨cs, f, a3⟩ := a2.1
  exact a2.same (hs _ _ _ _ a3 (by omega))
/-- What a round may do. -/
def KB (B0 Bs : Nat) (W W' : World) : Prop := KeepsFrom B0 W W' ∧ W'.heap[Bs]? = W.heap[Bs]?
theorem KB.trans {A B C : World} (h : KB B0 Bs A B) (k : KB B0 Bs B C) : KB B0 Bs A C := ⟨h.1.trans k.1, k.2.trans h.2⟩
theorem KB.below {A B : World} (h : Below A.heap.size A B) (hB : Bs < A.heap.size) : KB B0 Bs A B := ⟨⟨h.size, fun j _ _ hj _ => (h.block j (Array.getElem?_eq_some_iff.1 hj).1).trans hj⟩, h.block Bs hB⟩
theorem KB.oth {A B : World} {X : Nat} {cs : Array Value} {t : TypeId} {f : Nat × Nat} (h : Oth X A B) (hX : A.heap[X]? = some (.cells cs t f)) (hB : Bs < A.heap.size) (hn : Bs ≠ X) : KB B0 Bs A B := ⟨⟨h.size, fun j _ _ hj ho => (h.block j (Array.getElem?_eq_some_iff.1 hj).1 (by
  rintro rfl
  rw [hX] at hj
  cases hj
  cases ho)).trans hj⟩, h.block Bs hB hn⟩
theorem NwAt.old (h : NwAt B0 w0 W Rb R Bs k la lc qs) (hb : Below W.heap.size W W') (h1 : Rb ≠ Bs) (h2 : R ≠ Bs) : NwAt B0 w0 W' Rb R Bs k la lc qs :=
  h.kp (h.bel.trans (hb.mono h.bel.size)) (Nat.le_trans h.hB0 hb.size) (fun j _ _ _ hj _ => hb.block j (Array.getElem?_eq_some_iff.1 hj).1) h1 h2
theorem NwAt.ne (h : NwAt B0 w0 W Rb R Bs k la lc qs) {X : Nat} (hX : (Value.slice la qs.length lc).ownBlock = some X) : B0 ≤ X ∧ (∃ cs f, W.heap[X]? = some (.cells cs 139 f)) := own_ge h.own hX
/-- Behind an append and the store of it. -/
theorem NwAt.put (h : NwAt B0 w0 W Rb R Bs k la lc qs) (hR : R < B0) (hRb : Rb < B0) (hRR : Rb ≠ R) (hRB : R ≠ Bs) (h0 : w0.heap.size ≤ R) {g cap A : Nat} {ws : List ByteArray} (hA : B0 ≤ A) (hw : WBlk W A ws)
    (ho : W'.ownsRow B0 139 2 (.slice (some ⟨g, 0, none⟩) (qs.length + 1) cap) (qs.length + 1) (qs.flatMap cellL ++ cellL ((1 + (k : Int), ws), A))) (hg : W.grownBy W' (Value.slice la qs.length lc).ownBlock) :
    ((W'.cell? ⟨R, 0, none⟩ = some (.slice la qs.length lc) ∧ W'.frozen? ⟨R, 0, none⟩ = false) ∧ (W'.cell? ⟨Rb, 0, none⟩ = some (.pointer (some ⟨R, 0, none⟩)) ∧ W'.cell? ⟨R, 1, none⟩ = some (.int .i64 (1 + (k : Int))))) ∧
    ((W'.setCell ⟨R, 0, none⟩ (.slice (some ⟨g, 0, none⟩) (qs.length + 1) cap)).cell? ⟨Rb, 0, none⟩ = some (.pointer (some ⟨R, 0, none⟩)) ∧ (W'.setCell ⟨R, 0, none⟩ (.slice (some ⟨g, 0, none⟩) (qs.length + 1) cap)).cell? ⟨R, 1, none⟩ = some (.int .i64 (1 + (k : Int)))) ∧
    NwAt B0 w0 (W'.setCell ⟨R, 0, none⟩ (.slice (some ⟨g, 0, none⟩) (qs.length + 1) cap)) Rb R Bs k (some ⟨g, 0, none⟩) cap (qs ++ [((1 + (k : Int), ws), A)]) ∧ KB B0 Bs W (W'.setCell ⟨R, 0, none⟩ (.slice (some ⟨g, 0, none⟩) (qs.length + 1) cap)) := by
  have hBsW : Bs < W.heap.size := Nat.lt_of_lt_of_le h.hBs h.hB0
  obtain ⟨X, hX, hO⟩ := Oth.grown hg
  have hXT : B0 ≤ X ∧ (X < W.heap.size → ∃ cs f, W.heap[X]? = some (.cells cs 139 f)) := by
    rcases hX with e | ⟨e, rfl⟩
    · exact ⟨(h.ne e).1, fun _ => (h.ne e).2⟩
    · exact ⟨h.hB0, fun hlt => absurd hlt (Nat.lt_irrefl _)⟩
  have hX1 := hXT.1
  have hBsB := h.hBs
  have hR7 : Blk W' R 107 #[.slice la qs.length lc, .int .i64 (1 + (k : Int)), .slice none 0 0] := (hO.block R h.rd.lt (by omega)).trans h.rd
  have hb7 : Blk W' Rb 102 #[.pointer (some ⟨R, 0, none⟩)] := (hO.block Rb h.box.lt (by omega)).trans h.box
  have hR8 := hR7.set 0 (.slice (some ⟨g, 0, none⟩) (qs.length + 1) cap)
  have hb8 := hb7.other (p := ⟨R, 0, none⟩) hRR (.slice (some ⟨g, 0, none⟩) (qs.length + 1) cap)
  have hO8 := Oth.set R 0 W' (.slice (some ⟨g, 0, none⟩) (qs.length + 1) cap)
  have hwds : ∀ q : LQ, B0 ≤ q.2 → WBlk W q.2 q.1.2 → WBlk (W'.setCell ⟨R, 0, none⟩ (.slice (some ⟨g, 0, none⟩) (qs.length + 1) cap)) q.2 q.1.2 := fun q h1 h2 => by
    have hlt := h2.lt
    have hne : q.2 ≠ X := by
      rintro e
      obtain ⟨⟨cs, f, h3⟩, _⟩ := h2
      rw [e] at hlt h3
      obtain ⟨cs', f', h4⟩ := hXT.2 hlt
      rw [h3] at h4
      cases h4
    exact h2.same ((hO8.block q.2 (Nat.lt_of_lt_of_le hlt hO.size) (by omega)).trans (hO.block q.2 hlt hne))
  refine ⟨⟨⟨hR7.cell 0, hR7.frozen 0⟩, hb7.cell 0, hR7.cell 1⟩, ⟨hb8.cell 0, hR8.cell 1⟩, ⟨hb8, ?_, ?_, fun q hq => ?_, ?_, h.hBs, Nat.le_trans h.hB0 (Nat.le_trans hO.size hO8.size)⟩, ?_⟩
  · rw [List.length_append]; exact hR8
  · rw [List.length_append, List.flatMap_append]
    refine own_keep (w := W') (by simpa using ho) fun j cs f hj hc => hO8.block j (Array.getElem?_eq_some_iff.1 hc).1 (by omega)
  · rcases List.mem_append.1 hq with hq | hq
    · exact ⟨(h.wds q hq).1, hwds q (h.wds q hq).1 (h.wds q hq).2⟩
    · rw [List.mem_singleton] at hq
      subst hq
      exact ⟨hA, hwds ((1 + (k : Int), ws), A) hA hw⟩
  · have hbw : Below w0.heap.size W W' := (Below.refl w0.heap.size W).grown hg h.bel.size (fun j e => by have := (h.ne e).1; omega)
    exact (h.bel.trans hbw).setCell (p := ⟨R, 0, none⟩) h0 _
  · have k1 : KB B0 Bs W W' := by
      rcases hX with e | ⟨e, rfl⟩
      · obtain ⟨cs, f, hc⟩ := (h.ne e).2
        exact KB.oth hO hc hBsW (by omega)
      · exact KB.below ⟨hO.os, hO.tape, hO.output, hO.size, fun j hj => hO.block j hj (by omega)⟩ hBsW
    exact k1.trans (KB.oth hO8 hR7 (Nat.lt_of_lt_of_le hBsW hO.size) (Ne.symm hRB))
/-- The number goes on. -/
theorem NwAt.count (h : NwAt B0 w0 W Rb R Bs k la lc qs) (hR : R < B0) (hRR : Rb ≠ R) (hRB : R ≠ Bs) (h0 : w0.heap.size ≤ R) :
    NwAt B0 w0 (W.setCell ⟨R, 1, none⟩ (.int .i64 (1 + (k : Int) + 1))) Rb R Bs (k + 1) la lc qs ∧ KB B0 Bs W (W.setCell ⟨R, 1, none⟩ (.int .i64 (1 + (k : Int) + 1))) := by
  have hO := Oth.set R 1 W (.int .i64 (1 + (k : Int) + 1))
  have hBsW : Bs < W.heap.size := Nat.lt_of_lt_of_le h.hBs h.hB0
  have hr := h.rd.set 1 (.int .i64 (1 + (k : Int) + 1))
  refine ⟨⟨h.box.other (p := ⟨R, 1, none⟩) hRR _, ?_, own_keep h.own fun j cs f hj hc => hO.block j (Array.getElem?_eq_some_iff.1 hc).1 (by omega), fun q hq => ⟨(h.wds q hq).1, (h.wds q hq).2.same (hO.block _ (h.wds q hq).2.lt (by have := (h.wds q hq).1; omega))⟩, h.bel.setCell (p := ⟨R, 1, none⟩) h0 _, h.hBs, Nat.le_trans h.hB0 hO.size⟩, KB.oth hO h.rd hBsW (Ne.symm hRB)⟩
  rw [show (1 : Int) + ((k + 1 : Nat) : Int) = 1 + (k : Int) + 1 by omega]
  exact hr
/-- The reader, made. -/
theorem NwAt.rdAt (h : NwAt B0 w0 W Rb R Bs k la lc qs) (hR : R < B0) : RdAt W.heap.size R W (qs.map Prod.fst) (1 + (k : Int)) (.slice none 0 0) := by
  refine ⟨h.rd.lt, Nat.le_refl _, la, lc, by rw [List.length_map]; exact h.rd, ?_⟩
  rcases h.own.2 with ⟨hv, h0⟩ | ⟨g, cap, cur, hv, e2, e3, e4, _, _, e5⟩
  · have : qs = [] := List.eq_nil_of_length_eq_zero h0
    subst this
    exact ⟨by simp, fun j hj => by simp at hj⟩
  · cases hv
    refine ⟨by rw [List.length_map]; exact e4, fun j hj => ?_⟩
    have hj' : j < qs.length := by simpa using hj
    have hcell : ∀ i, i < 2 → W.cell? ⟨g, 0 + j * 2 + i, none⟩ = (cellL qs[j])[i]? := fun i hi => by
      rw [← flat2 cellL (fun _ => rfl) qs j i hj' hi, ← e5, List.getElem?_take_of_lt (by omega), Nat.zero_add]
      simp [World.cell?, e3]
    obtain ⟨q1, q2⟩ := h.wds _ (List.getElem_mem hj')
    simp only [List.getElem_map]
    refine ⟨g, 0, some ⟨qs[j].2, 0, none⟩, qs[j].1.2.length, rfl, (Array.getElem?_eq_some_iff.1 e3).1, by omega, hcell 0 (by omega), hcell 1 (by omega), Nat.le_refl _, fun i hi => ⟨qs[j].2, 0, rfl, q2.lt, by omega, by rw [Nat.zero_add]; exact q2.2 i hi⟩⟩
theorem trim_le {x : List UInt8} (h : x.length ≤ 65536) : (Lib.trimSuffix x [10]).length ≤ 70000 := by
  unfold Lib.trimSuffix
  split
  · rw [List.length_take]; omega
  · omega
theorem cut_le {x : List UInt8} (h : x.length ≤ 65536) : (Lib.cut (Lib.trimSuffix x [10]) [35]).1.length ≤ 70000 := by
  have h2 := trim_le h
  generalize Lib.trimSuffix x [10] = y at *
  unfold Lib.cut
  split
  · simp only [List.length_take]; omega
  · exact h2
theorem info139 : (Tryz.prog.info? 139).map (fun i => (i.zero, i.size, i.bytes)) = some (some (.agg #[.int .i64 0, .slice none 0 0]), 2, 32) := by kernel_rfl
end Go.Proofs.YtcbjnifoojjipaaGreatDoor
