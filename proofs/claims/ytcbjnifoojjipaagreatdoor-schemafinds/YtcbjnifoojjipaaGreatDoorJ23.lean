/- Contracts and lemmas (nothing is claimed here). -/
import Derived.Test.YtcbjnifoojjipaaGreatDoorSLns
import Derived.Test.YtcbjnifoojjipaaGreatDoorSCal
import Derived.Test.YtcbjnifoojjipaaGreatDoorSSca
namespace Go.Proofs.YtcbjnifoojjipaaGreatDoor
open Go.RowKit Go.Vf Go.Maps
def lnF : Int → List (List UInt8) → List Ln
  | _, [] => []
  | n, l :: ls => if (wordsL l).isEmpty then lnF (n + 1) ls else (n, wordsL l) :: lnF (n + 1) ls
theorem lnF_snoc (x : List UInt8) : ∀ (n : Int) (pre : List (List UInt8)), lnF n (pre ++ [x]) = lnF n pre ++ (if (wordsL x).isEmpty then [] else [(n + pre.length, wordsL x)])
  | n, [] => by simp [lnF]
  | n, l :: ls => by
    rw [List.cons_append, lnF, lnF, lnF_snoc x (n + 1) ls]
    have : n + 1 + (ls.length : Int) = n + ((l :: ls).length : Int) := by simp only [List.length_cons]; omega
    rw [this]
    split <;> simp
theorem lnF_len : ∀ (n : Int) (pre : List (List UInt8)), (lnF n pre).length ≤ pre.length
  | _, [] => Nat.le_refl _
  | n, l :: ls => by
    rw [lnF]
    have := lnF_len (n + 1) ls
    split
    · simp only [List.length_cons]; omega
    · simp only [List.length_cons]; omega
abbrev LQ := Ln × Nat
def cellL (q : LQ) : List Value := [.int .i64 q.1.1, .slice (some ⟨q.2, 0, none⟩) q.1.2.length q.1.2.length]
theorem flat2 {α : Type} (f : α → List Value) (h : ∀ a, (f a).length = 2) : ∀ (qs : List α) (j k : Nat) (hj : j < qs.length), k < 2 → (qs.flatMap f)[j * 2 + k]? = (f qs[j])[k]? := by
  intro qs
  induction qs with
  | nil => intro j k hj; simp at hj
  | cons q qs ih =>
    intro j k hj hk
    rw [List.flatMap_cons]
    cases j with
    | zero => rw [List.getElem?_append_left (by rw [h]; omega)]; simp
    | succ j =>
      rw [List.getElem?_append_right (by rw [h]; omega), h, show (j + 1) * 2 + k - 2 = j * 2 + k by omega, ih j k (by simpa using hj) hk]
      simp
def WBlk (W : World) (A : Nat) (ws : List ByteArray) : Prop := (∃ cs f, W.heap[A]? = some (.cells cs 9 f)) ∧ ∀ j (hj : j < ws.length), W.cell? ⟨A, j, none⟩ = some (.string ws[j])
theorem WBlk.lt {W : World} {A : Nat} {ws : List ByteArray} (h : WBlk W A ws) : A < W.heap.size := by
  obtain ⟨⟨_, _, h⟩, _⟩ := h
  exact (Array.getElem?_eq_some_iff.1 h).1
theorem WBlk.same {W W' : World} {A : Nat} {ws : List ByteArray} (h : WBlk W A ws) (hs : W'.heap[A]? = W.heap[A]?) : WBlk W' A ws := by
  obtain ⟨⟨cs, f, h1⟩, h2⟩ := h
  exact ⟨⟨cs, f, hs.trans h1⟩, fun j hj => (cell_of_block hs _).trans (h2 j hj)⟩
structure NwAt (B0 : Nat) (w0 W : World) (Rb R Bs : Nat) (k : Nat) (la : Option Addr) (lc : Nat) (qs : List LQ) : Prop where
  box : Blk W Rb 102 #[.pointer (some ⟨R, 0, none⟩)]
  rd : Blk W R 107 #[.slice la qs.length lc, .int .i64 (1 + (k : Int)), .slice none 0 0]
  own : W.ownsRow B0 139 2 (.slice la qs.length lc) qs.length (qs.flatMap cellL)
  wds : ∀ q ∈ qs, B0 ≤ q.2 ∧ WBlk W q.2 q.1.2
  bel : Below w0.heap.size w0 W
  hBs : Bs < B0
  hB0 : B0 ≤ W.heap.size
variable {B0 : Nat} {w0 W W' : World} {Rb R Bs k : Nat} {la : Option Addr} {lc : Nat} {qs : List LQ}
theorem own_keep {w w' : World} {base : Nat} {e : TypeId} {size : Nat} {v : Value} {n : Nat} {xs : List Value} (h : w.ownsRow base e size v n xs) (hs : ∀ j cs f, base ≤ j → w.heap[j]? = some (.cells cs e f) → w'.heap[j]? = w.heap[j]?) : w'.ownsRow base e size v n xs := by
  obtain ⟨h1, h2⟩ := h
  refine ⟨h1, ?_⟩
  rcases h2 with h2 | ⟨g, cap, cur, rfl, e2, e3, e4⟩
  · exact .inl h2
  · exact .inr ⟨g, cap, cur, rfl, e2, (hs g _ _ e2 e3).trans e3, e4⟩
theorem NwAt.kp (h : NwAt B0 w0 W Rb R Bs k la lc qs) (hb : Below w0.heap.size w0 W') (hz : B0 ≤ W'.heap.size) (hs : ∀ j cs t f, W.heap[j]? = some (.cells cs t f) → j ≠ Bs → W'.heap[j]? = W.heap[j]?) (h1 : Rb ≠ Bs) (h2 : R ≠ Bs) : NwAt B0 w0 W' Rb R Bs k la lc qs := by
  have hB := h.hBs
  refine ⟨(hs _ _ _ _ h.box h1).trans h.box, (hs _ _ _ _ h.rd h2).trans h.rd, own_keep h.own fun j cs f hj hc => hs j _ _ _ hc (by omega), fun q hq => ⟨(h.wds q hq).1, ?_⟩, hb, hB, hz⟩
  obtain ⟨a1, a2⟩ := h.wds q hq
  obtain ⟨cs, f, a3⟩ := a2.1
  exact a2.same (hs _ _ _ _ a3 (by omega))
def KB (B0 Bs : Nat) (W W' : World) : Prop := KeepsFrom B0 W W' ∧ W'.heap[Bs]? = W.heap[Bs]?
theorem KB.trans {A B C : World} (h : KB B0 Bs A B) (k : KB B0 Bs B C) : KB B0 Bs A C := ⟨h.1.trans k.1, k.2.trans h.2⟩
theorem KB.below {A B : World} (h : Below A.heap.size A B) (hB : Bs < A.heap.size) : KB B0 Bs A B := ⟨⟨h.size, fun j _ _ hj _ => (h.block j (Array.getElem?_eq_some_iff.1 hj).1).trans hj⟩, h.block Bs hB⟩
theorem KB.oth {A B : World} {X : Nat} {cs : Array Value} {t : TypeId} {f : Nat × Nat} (h : Oth X A B) (hX : A.heap[X]? = some (.cells cs t f)) (hB : Bs < A.heap.size) (hn : Bs ≠ X) : KB B0 Bs A B := ⟨⟨h.size, fun j _ _ hj ho => (h.block j (Array.getElem?_eq_some_iff.1 hj).1 (by
  rintro rfl
  rw [hX] at hj
  cases hj
  cases ho)).trans hj⟩, h.block Bs hB hn⟩
theorem NwAt.old (h : NwAt B0 w0 W Rb R Bs k la lc qs) (hb : Below W.heap.size W W') (h1 : Rb ≠ Bs) (h2 : R ≠ Bs) : NwAt B0 w0 W' Rb R Bs k la lc qs :=
  h.kp (h.bel.trans (hb.mono h.bel.size)) (Nat.le_trans h.hB0 hb.size) (fun j _ _ _ hj _ => hb.block j (Array.getElem?_eq_some_iff.1 hj).1) h1 h2
theorem NwAt.ne (h : NwAt B0 w0 W Rb R Bs k la lc qs) {X : Nat} (hX : (Value.slice la qs.length lc).ownBlock = some X) : B0 ≤ X ∧ (∃ cs f, W.heap[X]? = some (.cells cs 139 f)) := own_ge h.own hX
theorem NwAt.put (h : NwAt B0 w0 W Rb R Bs k la lc qs) (hR : R < B0) (hRb : Rb < B0) (hRR : Rb ≠ R) (hRB : R ≠ Bs) (h0 : w0.heap.size ≤ R) {g cap A : Nat} {ws : List ByteArray} (hA : B0 ≤ A) (hw : WBlk W A ws)
    (ho : W'.ownsRow B0 139 2 (.slice (some ⟨g, 0, none⟩) (qs.length + 1) cap) (qs.length + 1) (qs.flatMap cellL ++ cellL ((1 + (k : Int), ws), A))) (hg : W.grownBy W' (Value.slice la qs.length lc).ownBlock) :
    ((W'.cell? ⟨R, 0, none⟩ = some (.slice la qs.length lc) ∧ W'.frozen? ⟨R, 0, none⟩ = false) ∧ (W'.cell? ⟨Rb, 0, none⟩ = some (.pointer (some ⟨R, 0, none⟩)) ∧ W'.cell? ⟨R, 1, none⟩ = some (.int .i64 (1 + (k : Int))))) ∧
    ((W'.setCell ⟨R, 0, none⟩ (.slice (some ⟨g, 0, none⟩) (qs.length + 1) cap)).cell? ⟨Rb, 0, none⟩ = some (.pointer (some ⟨R, 0, none⟩)) ∧ (W'.setCell ⟨R, 0, none⟩ (.slice (some ⟨g, 0, none⟩) (qs.length + 1) cap)).cell? ⟨R, 1, none⟩ = some (.int .i64 (1 + (k : Int)))) ∧
    NwAt B0 w0 (W'.setCell ⟨R, 0, none⟩ (.slice (some ⟨g, 0, none⟩) (qs.length + 1) cap)) Rb R Bs k (some ⟨g, 0, none⟩) cap (qs ++ [((1 + (k : Int), ws), A)]) ∧ KB B0 Bs W (W'.setCell ⟨R, 0, none⟩ (.slice (some ⟨g, 0, none⟩) (qs.length + 1) cap)) := by
  have hBsW : Bs < W.heap.size := Nat.lt_of_lt_of_le h.hBs h.hB0
  obtain ⟨X, hX, hO⟩ := Oth.grown hg
  have hXT : B0 ≤ X ∧ (X < W.heap.size → ∃ cs f, W.heap[X]? = some (.cells cs 139 f)) := by
    rcases hX with e | ⟨e, rfl⟩
    · exact ⟨(h.ne e).1, fun _ => (h.ne e).2⟩
    · exact ⟨h.hB0, fun hlt => absurd hlt (Nat.lt_irrefl _)⟩
  have hX1 := hXT.1
  have hBsB := h.hBs
  have hR7 : Blk W' R 107 #[.slice la qs.length lc, .int .i64 (1 + (k : Int)), .slice none 0 0] := (hO.block R h.rd.lt (by omega)).trans h.rd
  have hb7 : Blk W' Rb 102 #[.pointer (some ⟨R, 0, none⟩)] := (hO.block Rb h.box.lt (by omega)).trans h.box
  have hR8 := hR7.set 0 (.slice (some ⟨g, 0, none⟩) (qs.length + 1) cap)
  have hb8 := hb7.other (p := ⟨R, 0, none⟩) hRR (.slice (some ⟨g, 0, none⟩) (qs.length + 1) cap)
  have hO8 := Oth.set R 0 W' (.slice (some ⟨g, 0, none⟩) (qs.length + 1) cap)
  have hwds : ∀ q : LQ, B0 ≤ q.2 → WBlk W q.2 q.1.2 → WBlk (W'.setCell ⟨R, 0, none⟩ (.slice (some ⟨g, 0, none⟩) (qs.length + 1) cap)) q.2 q.1.2 := fun q h1 h2 => by
    have hlt := h2.lt
    have hne : q.2 ≠ X := by
      rintro e
      obtain ⟨⟨cs, f, h3⟩, _⟩ := h2
      rw [e] at hlt h3
      obtain ⟨cs', f', h4⟩ := hXT.2 hlt
      rw [h3] at h4
      cases h4
    exact h2.same ((hO8.block q.2 (Nat.lt_of_lt_of_le hlt hO.size) (by omega)).trans (hO.block q.2 hlt hne))
  refine ⟨⟨⟨hR7.cell 0, hR7.frozen 0⟩, hb7.cell 0, hR7.cell 1⟩, ⟨hb8.cell 0, hR8.cell 1⟩, ⟨hb8, ?_, ?_, fun q hq => ?_, ?_, h.hBs, Nat.le_trans h.hB0 (Nat.le_trans hO.size hO8.size)⟩, ?_⟩
  · rw [List.length_append]; exact hR8
  · rw [List.length_append, List.flatMap_append]
    refine own_keep (w := W') (by simpa using ho) fun j cs f hj hc => hO8.block j (Array.getElem?_eq_some_iff.1 hc).1 (by omega)
  · rcases List.mem_append.1 hq with hq | hq
    · exact ⟨(h.wds q hq).1, hwds q (h.wds q hq).1 (h.wds q hq).2⟩
    · rw [List.mem_singleton] at hq
      subst hq
      exact ⟨hA, hwds ((1 + (k : Int), ws), A) hA hw⟩
  · have hbw : Below w0.heap.size W W' := (Below.refl w0.heap.size W).grown hg h.bel.size (fun j e => by have := (h.ne e).1; omega)
    exact (h.bel.trans hbw).setCell (p := ⟨R, 0, none⟩) h0 _
  · have k1 : KB B0 Bs W W' := by
      rcases hX with e | ⟨e, rfl⟩
      · obtain ⟨cs, f, hc⟩ := (h.ne e).2
        exact KB.oth hO hc hBsW (by omega)
      · exact KB.below ⟨hO.os, hO.tape, hO.output, hO.size, fun j hj => hO.block j hj (by omega)⟩ hBsW
    exact k1.trans (KB.oth hO8 hR7 (Nat.lt_of_lt_of_le hBsW hO.size) (Ne.symm hRB))
theorem NwAt.count (h : NwAt B0 w0 W Rb R Bs k la lc qs) (hR : R < B0) (hRR : Rb ≠ R) (hRB : R ≠ Bs) (h0 : w0.heap.size ≤ R) :
    NwAt B0 w0 (W.setCell ⟨R, 1, none⟩ (.int .i64 (1 + (k : Int) + 1))) Rb R Bs (k + 1) la lc qs ∧ KB B0 Bs W (W.setCell ⟨R, 1, none⟩ (.int .i64 (1 + (k : Int) + 1))) := by
  have hO := Oth.set R 1 W (.int .i64 (1 + (k : Int) + 1))
  have hBsW : Bs < W.heap.size := Nat.lt_of_lt_of_le h.hBs h.hB0
  have hr := h.rd.set 1 (.int .i64 (1 + (k : Int) + 1))
  refine ⟨⟨h.box.other (p := ⟨R, 1, none⟩) hRR _, ?_, own_keep h.own fun j cs f hj hc => hO.block j (Array.getElem?_eq_some_iff.1 hc).1 (by omega), fun q hq => ⟨(h.wds q hq).1, (h.wds q hq).2.same (hO.block _ (h.wds q hq).2.lt (by have := (h.wds q hq).1; omega))⟩, h.bel.setCell (p := ⟨R, 1, none⟩) h0 _, h.hBs, Nat.le_trans h.hB0 hO.size⟩, KB.oth hO h.rd hBsW (Ne.symm hRB)⟩
  rw [show (1 : Int) + ((k + 1 : Nat) : Int) = 1 + (k : Int) + 1 by omega]
  exact hr
theorem NwAt.rdAt (h : NwAt B0 w0 W Rb R Bs k la lc qs) (hR : R < B0) : RdAt W.heap.size R W (qs.map Prod.fst) (1 + (k : Int)) (.slice none 0 0) := by
  refine ⟨h.rd.lt, Nat.le_refl _, la, lc, by rw [List.length_map]; exact h.rd, ?_⟩
  rcases h.own.2 with ⟨hv, h0⟩ | ⟨g, cap, cur, hv, e2, e3, e4, _, _, e5⟩
  · have : qs = [] := List.eq_nil_of_length_eq_zero h0
    subst this
    exact ⟨by simp, fun j hj => by simp at hj⟩
  · cases hv
    refine ⟨by rw [List.length_map]; exact e4, fun j hj => ?_⟩
    have hj' : j < qs.length := by simpa using hj
    have hcell : ∀ i, i < 2 → W.cell? ⟨g, 0 + j * 2 + i, none⟩ = (cellL qs[j])[i]? := fun i hi => by
      rw [← flat2 cellL (fun _ => rfl) qs j i hj' hi, ← e5, List.getElem?_take_of_lt (by omega), Nat.zero_add]
      simp [World.cell?, e3]
    obtain ⟨q1, q2⟩ := h.wds _ (List.getElem_mem hj')
    simp only [List.getElem_map]
    refine ⟨g, 0, some ⟨qs[j].2, 0, none⟩, qs[j].1.2.length, rfl, (Array.getElem?_eq_some_iff.1 e3).1, by omega, hcell 0 (by omega), hcell 1 (by omega), Nat.le_refl _, fun i hi => ⟨qs[j].2, 0, rfl, q2.lt, by omega, by rw [Nat.zero_add]; exact q2.2 i hi⟩⟩
theorem trim_le {x : List UInt8} (h : x.length ≤ 65536) : (Lib.trimSuffix x [10]).length ≤ 70000 := by
  unfold Lib.trimSuffix
  split
  · rw [List.length_take]; omega
  · omega
theorem cut_le {x : List UInt8} (h : x.length ≤ 65536) : (Lib.cut (Lib.trimSuffix x [10]) [35]).1.length ≤ 70000 := by
  have h2 := trim_le h
  generalize Lib.trimSuffix x [10] = y at *
  unfold Lib.cut
  split
  · simp only [List.length_take]; omega
  · exact h2
theorem info139 : (Tryz.prog.info? 139).map (fun i => (i.zero, i.size, i.bytes)) = some (some (.agg #[.int .i64 0, .slice none 0 0]), 2, 32) := by kernel_rfl
end Go.Proofs.YtcbjnifoojjipaaGreatDoor
namespace Go.Proofs.YtcbjnifoojjipaaGreatDoor
open Go.RowKit Go.Vf Go.Maps Go.Shelf
attribute [local go_sem] Oper.semAt_some
set_option maxRecDepth 100000 in
set_option maxHeartbeats 2000000 in
theorem newReader_any (s : List UInt8) (hs : s.length ≤ 65536) (w : World) (hE : Env w) :
    Calls Tryz.prog 50 #[.string (bs s)] w fun e w' => ∃ R, e = .returned (.pointer (some ⟨R, 0, none⟩)) ∧ w.heap.size ≤ R ∧ Below w.heap.size w w' ∧ RdAt w'.heap.size R w' (lnF 1 (linesL s)) (1 + ((linesL s).length : Int)) (.slice none 0 0) := by
  obtain ⟨R, hRd⟩ : ∃ R, w.heap.size = R := ⟨_, rfl⟩
  have hR0 : w.heap.size ≤ R := by omega
  have b1 := Blk.new w 107 #[.slice none 0 0, .int .i64 1, .slice none 0 0]
  have l1 := (Below.refl w.heap.size w).alloc (Nat.le_refl _) (.cells #[.slice none 0 0, .int .i64 1, .slice none 0 0] 107)
  have s1 := alloc_size w (.cells #[.slice none 0 0, .int .i64 1, .slice none 0 0] 107)
  rw [hRd] at b1 s1
  refine (callsIn_wide (n := 3)).1 ?_
  refine callsIn_of_wp_marks Tryz.func50 rfl trivial ?_ rfl
  simp only [Tryz.ntmps50, List.size_toArray, List.length_cons, List.length_nil, Nat.reduceAdd, Nat.reduceSub, Array.replicate_succ, Array.replicate_zero, List.push_toArray, List.append_toArray, List.nil_append, List.cons_append]
  have HS1 : Hid ((w.alloc (.cells #[.slice none 0 0, .int .i64 1, .slice none 0 0] 107)).heap.size = R + 1) := s1
  clear s1
  gi_wp2
  refine ⟨trivial, (lines_in _ (bs s) _).mono ?_⟩
  rintro e w' ⟨rfl, rfl⟩
  gi_wp2
  have s1 := HS1.out
  generalize w.alloc (.cells #[.slice none 0 0, .int .i64 1, .slice none 0 0] 107) = w1 at *
  have b2 := Blk.new w1 102 #[.pointer (some ⟨R, 0, none⟩)]
  have l2 := (Below.refl w1.heap.size w1).alloc (Nat.le_refl _) (.cells #[.pointer (some ⟨R, 0, none⟩)] 102)
  have s2 := alloc_size w1 (.cells #[.pointer (some ⟨R, 0, none⟩)] 102)
  generalize w1.alloc (.cells #[.pointer (some ⟨R, 0, none⟩)] 102) = w2 at *
  have b3 := Blk.new w2 9 #[.string (bs s)]
  have l3 := (Below.refl w2.heap.size w2).alloc (Nat.le_refl _) (.cells #[.string (bs s)] 9)
  have s3 := alloc_size w2 (.cells #[.string (bs s)] 9)
  have b2' := b2.old l3
  have b1' := (b1.old l2).old l3
  generalize w2.alloc (.cells #[.string (bs s)] 9) = w3 at *
  rw [s1] at b2'
  rw [show w2.heap.size = R + 2 by omega] at b3
  obtain ⟨B0, hB0⟩ : ∃ B0, w3.heap.size = B0 := ⟨_, rfl⟩
  have hB0R : B0 = R + 3 := by omega
  have hN0 : NwAt B0 w w3 (R + 1) R (R + 2) 0 none 0 [] := ⟨b2', by exact b1', World.ownsRow_nil _ _ _ _, fun q hq => (by cases hq), l1.trans ((l2.mono (by omega)).trans (l3.mono (by omega))), by omega, by omega⟩
  have HE : Hid (Env w) := hE
  have hRB0 : R < B0 := by omega
  have hRbB0 : R + 1 < B0 := by omega
  have hRR : R + 1 ≠ R := by omega
  have hRBs : R ≠ R + 2 := by omega
  have hRbBs : R + 1 ≠ R + 2 := by omega
  have hsl := linesL_len s
  clear b1 b2 b1' b2' l1 l2 l3 s1 s2 s3 HS1 hE
  refine range_box (t := 10) (by decide) (gf := 96) (Bs := R + 2) rfl (by omega) (enters_of Tryz.func96 (by kernel_rfl) rfl) (lines1_in (3 - 1) (by decide) (R + 2) s hs w3 b3)
    (fun pre W => ∃ la lc qs, NwAt B0 w W (R + 1) R (R + 2) pre.length la lc qs ∧ qs.map Prod.fst = lnF 1 pre ∧ qs.length ≤ pre.length)
    ?hI ?hIp ⟨none, 0, [], hN0, rfl, Nat.le_refl _⟩
    (fun x => { tmps := #[.string (bs s), undef, .pointer none, .pointer (some ⟨R + 1, 0, none⟩), .string (bs x), undef, .agg #[.slice none 0 0, .int .i64 1, .slice none 0 0], .pointer (some ⟨R, 0, none⟩), .string (bs s), .func (.func 96) #[] #[.pointer (some ⟨R + 2, 0, none⟩)], .string (bs x), undef, undef, undef, undef, undef, undef, undef, undef, undef, undef, undef, undef, undef, undef, undef, undef, undef, undef, undef, undef, undef, undef, undef, undef, undef, undef, undef, undef], defers := [] }) ?assign ?body ?done
  case hI =>
    rintro pre A B ⟨la, lc, qs, h1, h2, h3⟩ hO
    exact ⟨la, lc, qs, h1.kp ⟨hO.os.trans h1.bel.os, hO.tape.trans h1.bel.tape, hO.output.trans h1.bel.output, Nat.le_trans h1.bel.size hO.size, fun k hk => (hO.block k (Nat.lt_of_lt_of_le hk h1.bel.size) (by omega)).trans (h1.bel.block k hk)⟩ (Nat.le_trans h1.hB0 hO.size) (fun j _ _ _ hj hn => hO.block j (Array.getElem?_eq_some_iff.1 hj).1 hn) hRbBs hRBs, h2, h3⟩
  case hIp =>
    rintro pre A k o o' ⟨la, lc, qs, h1, h2, h3⟩ hk ho hc
    have hkl := (Array.getElem?_eq_some_iff.1 ho).1
    refine ⟨la, lc, qs, h1.kp (h1.bel.trans ((Below.refl w.heap.size A).grown (grownBy_putObj' A k o') h1.bel.size (fun j e => by cases e; omega))) (by simp; exact h1.hB0) (fun j cs t f hj _ => World.putObj_heap_other (by
      rintro rfl
      rw [ho] at hj
      cases hj
      cases hc)) hRbBs hRBs, h2, h3⟩
  case assign =>
    intro l x W K hK
    gi_wp2
    exact hK
  case done =>
    rintro D W hD ⟨la, lc, qs, h1, h2, h3⟩ hK
    have b0 := h1.box.cell 0
    have bl := h1.box.lt
    simp only [List.getElem?_toArray, List.getElem?_cons_zero] at b0
    gi_wp2
    refine ⟨by simp, .inl ⟨_, _, rfl, run_takeDeferred hK, ?_⟩⟩
    have h4 := h1.kp (W' := W.putObj D (.deferred none)) (h1.bel.trans (belowK_b (w := w3) (by omega) W D _ _ hD hK rfl rfl)) (by simp; exact h1.hB0) (fun j cs t f hj _ => World.putObj_heap_other (by
      rintro rfl
      rw [hK] at hj
      cases hj)) hRbBs hRBs
    refine ⟨_, results_tmp rfl _ _ _, R, rfl, by omega, h4.bel, ?_⟩
    have := h4.rdAt hRB0
    rw [h2] at this
    exact this
  case body =>
    rintro l pre x W ⟨la, lc, qs, h1, h2, h3⟩ hpx
    have hpl : pre.length + 1 ≤ 65536 := by
      have := hpx.length_le
      simp only [List.length_append, List.length_cons, List.length_nil] at this
      omega
    have hxl : x.length ≤ 65536 := by
      have := hsl.2 x (hpx.subset (by simp))
      omega
    have hEW : Env W := HE.out.old h1.bel
    have hwd := wordsOf_any x (by omega) W hEW (trim_le hxl) (cut_le hxl)
    have HQ : Hid (qs.map Prod.fst = lnF 1 pre) := h2
    obtain ⟨WS, hWS⟩ : ∃ WS, wordsL x = WS := ⟨_, rfl⟩
    rw [hWS] at hwd
    have HWS : Hid (wordsL x = WS) := hWS
    have HN1 : Hid (NwAt B0 w W (R + 1) R (R + 2) pre.length la lc qs) := h1
    have hWl : R + 2 < W.heap.size := Nat.lt_of_lt_of_le h1.hBs h1.hB0
    clear h1 h2 hpx hWS hEW b3 hN0 hsl
    gi_wp2
    refine ⟨trivial, (CallsIn.inRound l (callsIn_wide.2 hwd)).mono ?_⟩
    rintro _ W1 ⟨A, rfl, hA, hownA, hbA⟩
    clear hwd
    have HK1 : Hid (KB B0 (R + 2) W W1) := KB.below hbA hWl
    have HN2 : Hid (NwAt B0 w W1 (R + 1) R (R + 2) pre.length la lc qs) := HN1.out.old hbA hRbBs hRBs
    by_cases hne : WS = []
    · subst hne
      have b0 := HN2.out.box.cell 0
      have b1 := HN2.out.rd.cell 1
      have f1 := HN2.out.rd.frozen 1
      have bl := HN2.out.box.lt
      have rl := HN2.out.rd.lt
      simp only [List.getElem?_toArray, List.getElem?_cons_zero, List.getElem?_cons_succ] at b0 b1
      clear hownA hA hbA
      gi_wp2
      obtain ⟨hN9, hK9⟩ := HN2.out.count hRB0 hRR hRBs hR0
      exact ⟨by rw [hB0]; exact (HK1.out.trans hK9).1, (HK1.out.trans hK9).2, _, _, _, by rw [List.length_append]; exact hN9, by rw [HQ.out, lnF_snoc, HWS.out]; simp, by simp only [List.length_append, List.length_cons, List.length_nil]; omega⟩
    · have hWA : WBlk W1 A WS := by
        rcases hownA.2 with ⟨hv, _⟩ | ⟨g', cap', cur, hv, _, hh, _, _, hc3, hc4⟩
        · cases hv
        · simp only [Value.slice.injEq, Option.some.injEq, Addr.mk.injEq, and_true] at hv
          obtain ⟨rfl, _⟩ := hv
          refine ⟨⟨_, _, hh⟩, fun j hj => ?_⟩
          have hx : (WS.map Value.string)[j]? = some (.string WS[j]) := by simp [hj]
          rw [← hc4, List.getElem?_take_of_lt (by omega)] at hx
          simp only [World.cell?, hh]
          simpa using hx
      have hA0 : B0 ≤ A := Nat.le_trans HN1.out.hB0 hA
      have hlw : 0 < WS.length := List.length_pos_iff.2 hne
      have hlw2 : (0 : Int) < (WS.length : Int) := by omega
      obtain ⟨V, hV⟩ : ∃ V, V = W1.drew := ⟨_, rfl⟩
      have hbV : Below W1.heap.size W1 V := by rw [hV]; exact (Below.refl _ _).drew
      have hNV := HN2.out.old hbV hRbBs hRBs
      have hbVa := (Below.refl V.heap.size V).alloc (Nat.le_refl _) (.cells #[.int .i64 (1 + (pre.length : Int)), .slice (some ⟨A, 0, none⟩) WS.length WS.length] 139)
      have hNa := hNV.old hbVa hRbBs hRBs
      have hWa : WBlk (V.alloc (.cells #[.int .i64 (1 + (pre.length : Int)), .slice (some ⟨A, 0, none⟩) WS.length WS.length] 139)) A WS := by
        have h1 : WBlk V A WS := hWA.same (hbV.block A hWA.lt)
        exact h1.same (hbVa.block A h1.lt)
      have HKV : Hid (KB B0 (R + 2) W (V.alloc (.cells #[.int .i64 (1 + (pre.length : Int)), .slice (some ⟨A, 0, none⟩) WS.length WS.length] 139))) := HK1.out.trans ((KB.below hbV (by have := HN2.out.hB0; omega)).trans (KB.below hbVa (by have := hNV.hB0; omega)))
      have hSV : V.cell? ⟨R + 1, 0, none⟩ = some (.pointer (some ⟨R, 0, none⟩)) ∧ V.cell? ⟨R, 1, none⟩ = some (.int .i64 (1 + (pre.length : Int))) := ⟨hNV.box.cell 0, hNV.rd.cell 1⟩
      have hSa : (V.alloc (.cells #[.int .i64 (1 + (pre.length : Int)), .slice (some ⟨A, 0, none⟩) WS.length WS.length] 139)).cell? ⟨R + 1, 0, none⟩ = some (.pointer (some ⟨R, 0, none⟩)) ∧ (V.alloc (.cells #[.int .i64 (1 + (pre.length : Int)), .slice (some ⟨A, 0, none⟩) WS.length WS.length] 139)).cell? ⟨R, 1, none⟩ = some (.int .i64 (1 + (pre.length : Int))) := ⟨hNa.box.cell 0, hNa.rd.cell 1⟩
      have v0 : V.cell? ⟨R, 0, none⟩ = some (.slice la qs.length lc) := hNV.rd.cell 0
      have v0a : (V.alloc (.cells #[.int .i64 (1 + (pre.length : Int)), .slice (some ⟨A, 0, none⟩) WS.length WS.length] 139)).cell? ⟨R, 0, none⟩ = some (.slice la qs.length lc) := hNa.rd.cell 0
      have hVR : R < V.heap.size := hNV.rd.lt
      have hql : qs.length ≤ 65536 := by omega
      obtain ⟨i0, hi0, hz0, hz1, hz2⟩ := info_parts info139
      clear hownA hA hbA hbV hbVa HN1 HN2
      have HV : Hid (V = W1.drew) := hV
      clear hV
      gi_wp2
      first
      | done
      | skip
      refine wpIn_region_any (by kernel_rfl) (anyIn_of_any (fun _ => trivial) (fun h => by obtain ⟨_, _, h⟩ := h; exact h) (calm_arr (by kernel_rfl)) _ _ _ _ ?_)
      rw [show ({ W1 with drawn := W1.drawn + 1 } : World) = V from HV.out.symm]
      refine wpAny_of_held (S := fun x => x.cell? ⟨R + 1, 0, none⟩ = some (.pointer (some ⟨R, 0, none⟩)) ∧ x.cell? ⟨R, 1, none⟩ = some (.int .i64 (1 + (pre.length : Int)))) _ _ _ _ ?_
      refine wpAnyH_takeD (i := 0) (some 16) (v := .pointer (some ⟨R, 0, none⟩)) rfl rfl (by kernel_rfl) (by kernel_rfl) (by kernel_rfl) (fun _ _ _ h => h) (Or.inl ⟨by kernel_rfl, ?hy1⟩) (by assumption) ?rest1
      case hy1 => (intro x hSx; obtain ⟨hS1, hS2⟩ := hSx; go_simp; first | done | with_reducible rfl)
      try simp only [Act.put, List.setIfInBounds_toArray, List.set_cons_zero, List.set_cons_succ]
      refine wpAnyH_takeD (i := 1) (some 17) (v := .pointer (some ⟨R, 0, none⟩)) rfl rfl (by kernel_rfl) (by kernel_rfl) (by kernel_rfl) (fun _ _ _ h => h) (Or.inl ⟨by kernel_rfl, ?hy2⟩) (by assumption) ?rest2
      case hy2 => (intro x hSx; obtain ⟨hS1, hS2⟩ := hSx; go_simp; first | done | with_reducible rfl)
      try simp only [Act.put, List.setIfInBounds_toArray, List.set_cons_zero, List.set_cons_succ]
      refine wpAnyH_takeD (i := 2) (some 18) (v := .pointer (some ⟨R, 0, none⟩)) rfl rfl (by kernel_rfl) (by kernel_rfl) (by kernel_rfl) (fun _ _ _ h => h) (Or.inl ⟨by kernel_rfl, ?hy3⟩) (by assumption) ?rest3
      case hy3 => (intro x hSx; obtain ⟨hS1, hS2⟩ := hSx; go_simp; first | done | with_reducible rfl)
      try simp only [Act.put, List.setIfInBounds_toArray, List.set_cons_zero, List.set_cons_succ]
      refine wpAnyH_takeD (i := 3) (some 19) (v := .pointer (some ⟨R, 0, none⟩)) rfl rfl (by kernel_rfl) (by kernel_rfl) (by kernel_rfl) (fun _ _ _ h => h) (Or.inl ⟨by kernel_rfl, ?hy4⟩) (by assumption) ?rest4
      case hy4 => (intro x hSx; obtain ⟨hS1, hS2⟩ := hSx; go_simp; first | done | with_reducible rfl)
      try simp only [Act.put, List.setIfInBounds_toArray, List.set_cons_zero, List.set_cons_succ]
      refine wpAnyH_takeD (i := 5) (some 21) (v := .pointer (some ⟨R, 0, none⟩)) rfl rfl (by kernel_rfl) (by kernel_rfl) (by kernel_rfl) (fun _ _ _ h => h) (Or.inl ⟨by kernel_rfl, ?hy5⟩) (by assumption) ?rest5
      case hy5 => (intro x hSx; obtain ⟨hS1, hS2⟩ := hSx; go_simp; first | done | with_reducible rfl)
      try simp only [Act.put, List.setIfInBounds_toArray, List.set_cons_zero, List.set_cons_succ]
      refine wpAnyH_takeD (i := 6) (some 22) (v := .pointer (some ⟨R, 0, none⟩)) rfl rfl (by kernel_rfl) (by kernel_rfl) (by kernel_rfl) (fun _ _ _ h => h) (Or.inl ⟨by kernel_rfl, ?hy6⟩) (by assumption) ?rest6
      case hy6 => (intro x hSx; obtain ⟨hS1, hS2⟩ := hSx; go_simp; first | done | with_reducible rfl)
      try simp only [Act.put, List.setIfInBounds_toArray, List.set_cons_zero, List.set_cons_succ]
      refine wpAnyH_takeD (i := 7) (some 23) (v := .pointer (some ⟨R, 1, none⟩)) rfl rfl (by kernel_rfl) (by kernel_rfl) (by kernel_rfl) (fun _ _ _ h => h) (Or.inl ⟨by kernel_rfl, ?hy7⟩) (by assumption) ?rest7
      case hy7 => (intro x hSx; obtain ⟨hS1, hS2⟩ := hSx; go_simp; first | done | with_reducible rfl)
      try simp only [Act.put, List.setIfInBounds_toArray, List.set_cons_zero, List.set_cons_succ]
      refine wpAnyH_takeD (i := 8) (some 24) (v := .int .i64 (1 + (pre.length : Int))) rfl rfl (by kernel_rfl) (by kernel_rfl) (by kernel_rfl) (fun _ _ _ h => h) (Or.inl ⟨by kernel_rfl, ?hy8⟩) (by assumption) ?rest8
      case hy8 => (intro x hSx; obtain ⟨hS1, hS2⟩ := hSx; go_simp; first | done | with_reducible rfl)
      try simp only [Act.put, List.setIfInBounds_toArray, List.set_cons_zero, List.set_cons_succ]
      refine wpAnyH_takeD (i := 9) (some 25) (v := .slice (some ⟨A, 0, none⟩) WS.length WS.length) rfl rfl (by kernel_rfl) (by kernel_rfl) (by kernel_rfl) (fun _ _ _ h => h) (Or.inl ⟨by kernel_rfl, ?hy9⟩) (by assumption) ?rest9
      case hy9 => (intro x hSx; obtain ⟨hS1, hS2⟩ := hSx; go_simp; first | done | with_reducible rfl)
      try simp only [Act.put, List.setIfInBounds_toArray, List.set_cons_zero, List.set_cons_succ]
      refine wpAnyH_takeD (i := 10) (some 26) (v := .agg #[.int .i64 (1 + (pre.length : Int)), .slice (some ⟨A, 0, none⟩) WS.length WS.length]) rfl rfl (by kernel_rfl) (by kernel_rfl) (by kernel_rfl) (fun _ _ _ h => h) (Or.inl ⟨by kernel_rfl, ?hy10⟩) (by assumption) ?rest10
      case hy10 => (intro x hSx; obtain ⟨hS1, hS2⟩ := hSx; go_simp; first | done | with_reducible rfl)
      try simp only [Act.put, List.setIfInBounds_toArray, List.set_cons_zero, List.set_cons_succ]
      refine wpAnyH_ready (rs := [4, 11]) (by kernel_rfl) (by simp) ?_
      refine AllReadyH.cons rfl (fun K2 hK2 => ?_) (AllReadyH.cons rfl (fun K2 hK2 => ?_) AllReadyH.nil)
      · go_simp
        refine hK2.out _ _ hSV (fun _ => ?_)
        clear hK2 K2
        try simp only [Act.put, List.setIfInBounds_toArray, List.set_cons_zero, List.set_cons_succ]
        refine wpAnyH_ready (rs := [11]) (by kernel_rfl) (by simp) ?_
        refine AllReadyH.cons rfl (fun K2 hK2 => ?_) AllReadyH.nil
        go_simp
        refine hK2.out _ _ hSa (fun _ => ?_)
        clear hK2 K2
        try simp only [Act.put, List.setIfInBounds_toArray, List.set_cons_zero, List.set_cons_succ]
        refine wpAnyH_ready (rs := [12]) (by kernel_rfl) (by simp) ?_
        refine AllReadyH.cons rfl (fun K2 hK2 => ?_) AllReadyH.nil
        refine step_append_lies _ (by rfl) _ _ _ (by rfl) B0 139 i0 _ 2 32 Tryz.underlying105 hi0 hz0 hz1 hz2 rfl (by omega) (.slice la qs.length lc) qs.length (qs.flatMap cellL) (by rfl) hNa.own ⟨V.heap.size, 0, none⟩ 1 1 (cellL ((1 + (pre.length : Int), WS), A)) (by rfl) (by rfl) (World.news_of_block (cs := #[.int .i64 (1 + (pre.length : Int)), .slice (some ⟨A, 0, none⟩) WS.length WS.length]) (t := 139) (fr := (0, 0)) (heap_alloc_new V _)) (by simp [cellL, Value.oneCell']) (by omega) (by unfold maxLen; omega) (by omega) hNa.hB0 (V.heap.size + 1) (by simp) ?_
        intro gg cap w7 hown7 hgrow7 hat7 hlt7
        obtain ⟨⟨⟨z0, z1⟩, hS7⟩, hS8, hN8, hK8⟩ := hNa.put hRB0 hRbB0 hRR hRBs hR0 hA0 hWa hown7 hgrow7
        refine hK2.out _ _ hS7 (fun hH7 => ?_)
        clear hK2 K2
        try simp only [Act.put, List.setIfInBounds_toArray]
        refine wpAnyH_takeD (i := 13) (some 29) (v := .pointer (some ⟨R, 0, none⟩)) rfl rfl (by kernel_rfl) (by kernel_rfl) (by kernel_rfl) (fun _ _ _ h => h) (Or.inl ⟨by kernel_rfl, ?hy11⟩) (by assumption) ?rest11
        case hy11 => (intro x hSx; obtain ⟨hS1, hS2⟩ := hSx; go_simp; first | done | with_reducible rfl)
        try simp only [Act.put]
        refine wpAnyH_takeD (i := 14) (some 30) (v := .pointer (some ⟨R, 0, none⟩)) rfl rfl (by kernel_rfl) (by kernel_rfl) (by kernel_rfl) (fun _ _ _ h => h) (Or.inl ⟨by kernel_rfl, ?hy12⟩) (by assumption) ?rest12
        case hy12 => (intro x hSx; obtain ⟨hS1, hS2⟩ := hSx; go_simp; first | done | with_reducible rfl)
        try simp only [Act.put]
        refine wpAnyH_ready (rs := [15]) (by kernel_rfl) (by simp) ?_
        refine AllReadyH.cons rfl (fun K2 hK2 => ?_) AllReadyH.nil
        go_simp
        refine hK2.out _ _ hS8 (fun _ => ?_)
        clear hK2 K2
        try simp only [Act.put, List.setIfInBounds_toArray, List.set_cons_zero, List.set_cons_succ]
        refine wpAnyH_done (by kernel_rfl) ?_ _
        have b0 := hN8.box.cell 0
        have b1 := hN8.rd.cell 1
        have f1 := hN8.rd.frozen 1
        have bl := hN8.box.lt
        have rl := hN8.rd.lt
        simp only [List.getElem?_toArray, List.getElem?_cons_zero, List.getElem?_cons_succ] at b0 b1
        have HN8 : Hid (NwAt B0 w (w7.setCell ⟨R, 0, none⟩ (.slice (some ⟨gg, 0, none⟩) (qs.length + 1) cap)) (R + 1) R (R + 2) pre.length (some ⟨gg, 0, none⟩) cap (qs ++ [((1 + (pre.length : Int), WS), A)])) := hN8
        have HK8 : Hid (KB B0 (R + 2) (V.alloc (.cells #[.int .i64 (1 + (pre.length : Int)), .slice (some ⟨A, 0, none⟩) WS.length WS.length] 139)) (w7.setCell ⟨R, 0, none⟩ (.slice (some ⟨gg, 0, none⟩) (qs.length + 1) cap))) := hK8
        generalize w7.setCell ⟨R, 0, none⟩ (.slice (some ⟨gg, 0, none⟩) (qs.length + 1) cap) = W8 at *
        clear hown7 hgrow7 hat7 hlt7 z0 z1 hS7 hS8 hN8 hK8 hH7
        gi_wp2
        obtain ⟨hN9, hK9⟩ := HN8.out.count hRB0 hRR hRBs hR0
        exact ⟨by rw [hB0]; exact (HKV.out.trans (HK8.out.trans hK9)).1, (HKV.out.trans (HK8.out.trans hK9)).2, _, _, _, by rw [List.length_append]; exact hN9, by rw [List.map_append, HQ.out, lnF_snoc, HWS.out]; simp [hne], by simp only [List.length_append, List.length_cons, List.length_nil]; omega⟩
      · go_simp
        refine hK2.out _ _ hSa (fun _ => ?_)
        clear hK2 K2
        try simp only [Act.put, List.setIfInBounds_toArray, List.set_cons_zero, List.set_cons_succ]
        refine wpAnyH_ready (rs := [4]) (by kernel_rfl) (by simp) ?_
        refine AllReadyH.cons rfl (fun K2 hK2 => ?_) AllReadyH.nil
        go_simp
        refine hK2.out _ _ hSa (fun _ => ?_)
        clear hK2 K2
        try simp only [Act.put, List.setIfInBounds_toArray, List.set_cons_zero, List.set_cons_succ]
        refine wpAnyH_ready (rs := [12]) (by kernel_rfl) (by simp) ?_
        refine AllReadyH.cons rfl (fun K2 hK2 => ?_) AllReadyH.nil
        refine step_append_lies _ (by rfl) _ _ _ (by rfl) B0 139 i0 _ 2 32 Tryz.underlying105 hi0 hz0 hz1 hz2 rfl (by omega) (.slice la qs.length lc) qs.length (qs.flatMap cellL) (by rfl) hNa.own ⟨V.heap.size, 0, none⟩ 1 1 (cellL ((1 + (pre.length : Int), WS), A)) (by rfl) (by rfl) (World.news_of_block (cs := #[.int .i64 (1 + (pre.length : Int)), .slice (some ⟨A, 0, none⟩) WS.length WS.length]) (t := 139) (fr := (0, 0)) (heap_alloc_new V _)) (by simp [cellL, Value.oneCell']) (by omega) (by unfold maxLen; omega) (by omega) hNa.hB0 (V.heap.size + 1) (by simp) ?_
        intro gg cap w7 hown7 hgrow7 hat7 hlt7
        obtain ⟨⟨⟨z0, z1⟩, hS7⟩, hS8, hN8, hK8⟩ := hNa.put hRB0 hRbB0 hRR hRBs hR0 hA0 hWa hown7 hgrow7
        refine hK2.out _ _ hS7 (fun hH7 => ?_)
        clear hK2 K2
        try simp only [Act.put, List.setIfInBounds_toArray]
        refine wpAnyH_takeD (i := 13) (some 29) (v := .pointer (some ⟨R, 0, none⟩)) rfl rfl (by kernel_rfl) (by kernel_rfl) (by kernel_rfl) (fun _ _ _ h => h) (Or.inl ⟨by kernel_rfl, ?hy13⟩) (by assumption) ?rest13
        case hy13 => (intro x hSx; obtain ⟨hS1, hS2⟩ := hSx; go_simp; first | done | with_reducible rfl)
        try simp only [Act.put]
        refine wpAnyH_takeD (i := 14) (some 30) (v := .pointer (some ⟨R, 0, none⟩)) rfl rfl (by kernel_rfl) (by kernel_rfl) (by kernel_rfl) (fun _ _ _ h => h) (Or.inl ⟨by kernel_rfl, ?hy14⟩) (by assumption) ?rest14
        case hy14 => (intro x hSx; obtain ⟨hS1, hS2⟩ := hSx; go_simp; first | done | with_reducible rfl)
        try simp only [Act.put]
        refine wpAnyH_ready (rs := [15]) (by kernel_rfl) (by simp) ?_
        refine AllReadyH.cons rfl (fun K2 hK2 => ?_) AllReadyH.nil
        go_simp
        refine hK2.out _ _ hS8 (fun _ => ?_)
        clear hK2 K2
        try simp only [Act.put, List.setIfInBounds_toArray, List.set_cons_zero, List.set_cons_succ]
        refine wpAnyH_done (by kernel_rfl) ?_ _
        have b0 := hN8.box.cell 0
        have b1 := hN8.rd.cell 1
        have f1 := hN8.rd.frozen 1
        have bl := hN8.box.lt
        have rl := hN8.rd.lt
        simp only [List.getElem?_toArray, List.getElem?_cons_zero, List.getElem?_cons_succ] at b0 b1
        have HN8 : Hid (NwAt B0 w (w7.setCell ⟨R, 0, none⟩ (.slice (some ⟨gg, 0, none⟩) (qs.length + 1) cap)) (R + 1) R (R + 2) pre.length (some ⟨gg, 0, none⟩) cap (qs ++ [((1 + (pre.length : Int), WS), A)])) := hN8
        have HK8 : Hid (KB B0 (R + 2) (V.alloc (.cells #[.int .i64 (1 + (pre.length : Int)), .slice (some ⟨A, 0, none⟩) WS.length WS.length] 139)) (w7.setCell ⟨R, 0, none⟩ (.slice (some ⟨gg, 0, none⟩) (qs.length + 1) cap))) := hK8
        generalize w7.setCell ⟨R, 0, none⟩ (.slice (some ⟨gg, 0, none⟩) (qs.length + 1) cap) = W8 at *
        clear hown7 hgrow7 hat7 hlt7 z0 z1 hS7 hS8 hN8 hK8 hH7
        gi_wp2
        obtain ⟨hN9, hK9⟩ := HN8.out.count hRB0 hRR hRBs hR0
        exact ⟨by rw [hB0]; exact (HKV.out.trans (HK8.out.trans hK9)).1, (HKV.out.trans (HK8.out.trans hK9)).2, _, _, _, by rw [List.length_append]; exact hN9, by rw [List.map_append, HQ.out, lnF_snoc, HWS.out]; simp [hne], by simp only [List.length_append, List.length_cons, List.length_nil]; omega⟩
end Go.Proofs.YtcbjnifoojjipaaGreatDoor
