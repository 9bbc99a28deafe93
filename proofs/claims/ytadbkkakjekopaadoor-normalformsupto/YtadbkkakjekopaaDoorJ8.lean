/- append of some marks of a row to another (nothing is claimed here). · The document's Load, plainly, further: one line, all the lines, what back and whole are asked of (nothing is claimed here). · What the document's Load keeps in memory while it reads lines (lemmas; nothing is claimed here). -/
import Derived.Test.YtadbkkakjekopaaDoorBackG
namespace Go.Proofs.YtadbkkakjekopaaDoor
open Go.RowKit Go.Vf Go.Maps

/-- 'append(all, l...)' of marks: l is a piece of any row, or nothing. -/
theorem wpList_append_run {w : World} {ops : Array Oper} {rest : List Oper} {o : Oper} {a : Act} {Q : Exit → Act → World → Prop} (hgd : o.guard = none) (s x : Operand)
    (ho : o.op = .call { callee := .builtin .append, args := #[s, x], argTypes := #[27, 27] })
    (base : Nat) (v : Value) (n : Nat) (xs : List Value) (hs : a.eval s = v) (hown : w.ownsRow base 61 3 v n xs) (pa : Option Addr) (m pc : Nat) (news : List Value) (hx : a.eval x = .slice pa m pc) (hn : news.length = m * 3)
    (hc : m ≠ 0 → ∃ ad, pa = some ad ∧ ∀ j u, news[j]? = some u → w.cell? (ad.add j) = some u) (h1 : ∀ u ∈ news, u.oneCell' = true) (hlen : n + m ≤ 1048576) (hbase : base ≤ w.heap.size)
    (h : ∀ a' c' w', w'.ownsRow base 61 3 (.slice a' (n + m) c') (n + m) (xs ++ news) → w.grownBy w' v.ownBlock → ((Value.slice a' (n + m) c').ownBlock = v.ownBlock ∨ (Value.slice a' (n + m) c').ownBlock = some w.heap.size) → wpList Tryd.prog ops Q rest (a.put o.dst (.slice a' (n + m) c')) w') :
    wpList Tryd.prog ops Q (o :: rest) a w := by
  obtain ⟨i, hi, hz, hsz, hby⟩ := info_parts info36
  by_cases hm : m = 0
  · subst hm
    have hnil : news = [] := List.eq_nil_of_length_eq_zero (by omega)
    subst hnil
    obtain ⟨a', c', rfl⟩ := row_val hown
    have hle : n ≤ c' := by
      by_cases h0 : 0 < n
      · obtain ⟨_, _, e, h2, _⟩ := row_some hown h0
        cases e; exact h2
      · omega
    have hr : (Builtin.append_ #[27, 27] o.type #[.slice a' n c', .slice pa 0 pc]).run Tryd.prog w = .ok (.slice a' n c') w := by
      cases pa with
      | none => exact run_append_nothing (P := Tryd.prog) w 27 27 o.type 61 i Tryd.underlying27 hi a' n c' hle _ (Src.ofNil w Tryd.underlying27 pc)
      | some ad => exact run_append_nothing (P := Tryd.prog) w 27 27 o.type 61 i Tryd.underlying27 hi a' n c' hle _ (Src.ofSlice w Tryd.underlying27 ad 0 pc [] (by simp) (by simp) (by simp))
    refine wpList_plain hgd fun K hK => ?_
    unfold Oper.wp execOp
    simp only [ho, resolve, invoke, builtin, Sem.run_bind, Sem.run_pure, Result.andThen_ok, List.map_toArray, List.map_cons, List.map_nil, hs, hx, hr]
    have := h a' c' w (by rw [List.append_nil]; exact hown) (World.grownBy.refl _ _) (.inl rfl)
    exact hK _ _ this
  · obtain ⟨ad, rfl, hcell⟩ := hc hm
    refine wpList_append_own_at (P := Tryd.prog) _ hgd s x 27 ho base 61 i _ 3 40 Tryd.underlying27 hi hz hsz hby rfl (by decide) v n xs hs hown ad m pc news hx hn hcell h1 ?_ ?_ ?_ ?_
    · unfold maxLen; omega
    · omega
    · omega
    · intro v' w' h1 h2 _ h4
      obtain ⟨a', c', rfl⟩ := row_val h1
      exact h a' c' w' h1 h2 h4

end Go.Proofs.YtadbkkakjekopaaDoor

namespace Go.Proofs.YtadbkkakjekopaaDoor
open Go.RowKit Go.Vf Go.Maps

/-- Longer than 18, cut or not. -/
theorem whole_long (G : Int → List Int) (k : Nat) (p : Int) : (whF G 18 k [] p).length ≤ 19 ∧ (18 < (whF G 18 k [] p).length ↔ 18 < (wh G k p).length) := by
  rw [whF_eq G 18 k [] p (by simp), List.nil_append, List.length_take]
  omega
/-- Parts are no syllables, and not too many. -/
theorem parts_plain {t : List UInt8} {L : List Mk} (hlen : t.length ≤ 65536) (hl : linesR (cutL 10 t) 0 [] = .ok L) (p : Int) : (∀ q ∈ partsP (marksR L) p, isSyl q = false) ∧ (partsP (marksR L) p).length ≤ 131072 := by
  obtain ⟨hok, hnd, _, hs, _⟩ := load_total hlen hl
  rw [partsP_marks hnd]
  refine ⟨fun q hq => ?_, ?_⟩
  · obtain ⟨m, hm, _, hq'⟩ := partsAt_mem hq
    exact may_not_syl ((hok m hm).2.1 q hq')
  · unfold partsAt
    cases hm : markAt L p with
    | none => simp
    | some m =>
      have := sumP_mem (List.mem_of_find?_eq_some hm)
      simp
      omega
theorem point_plain {t : List UInt8} {L : List Mk} (hlen : t.length ≤ 65536) (hl : linesR (cutL 10 t) 0 [] = .ok L) {m : Mk} (hm : m ∈ L) : isSyl m.point = false := may_not_syl ((load_total hlen hl).1 m hm).1
/-- A point is among the marks in order iff it is among those read. -/
theorem marksR_has {L : List Mk} (p : Int) : (∃ i, ∃ h : i < (marksR L).length, ((marksR L)[i]).point = p) ↔ L.any (fun m => m.point == p) = true := by
  have hmem : p ∈ (marksR L).map PM.point ↔ p ∈ L.map Mk.point := by rw [marksR_points]; exact (List.mergeSort_perm _ _).mem_iff
  constructor
  · rintro ⟨i, h, e⟩
    have := hmem.1 (List.mem_map.2 ⟨_, List.getElem_mem h, e⟩)
    obtain ⟨m, hm, e2⟩ := List.mem_map.1 this
    exact List.any_eq_true.2 ⟨m, hm, by simp [e2]⟩
  · intro h
    obtain ⟨m, hm, e⟩ := List.any_eq_true.1 h
    obtain ⟨x, hx, e2⟩ := List.mem_map.1 (hmem.2 (List.mem_map.2 ⟨m, hm, by simpa using e⟩))
    obtain ⟨i, hi, e3⟩ := List.mem_iff_getElem.1 hx
    exact ⟨i, hi, by rw [e3]; exact e2⟩
/-! ### one line of those that are left -/
theorem lines_silent {C : List (List UInt8)} {j : Nat} (hj : j < C.length) {n : Int} {acc : List Mk} (h : silentL C[j] = true) : linesR (C.drop j) n acc = linesR (C.drop (j + 1)) (n + 1) acc := by
  rw [List.drop_eq_getElem_cons hj, linesR, if_pos h]
theorem lines_none {C : List (List UInt8)} {j : Nat} (hj : j < C.length) {n : Int} {acc : List Mk} (h : silentL C[j] = false) (hm : markR C[j] = none) : linesR (C.drop j) n acc = .error (40, n + 1) := by
  rw [List.drop_eq_getElem_cons hj, linesR, if_neg (by simp [h]), hm]
theorem lines_twice {C : List (List UInt8)} {j : Nat} (hj : j < C.length) {n p c : Int} {ps : List Int} {acc : List Mk} (h : silentL C[j] = false) (hm : markR C[j] = some (p, c, ps)) (ha : acc.any (fun m => m.point == p) = true) : linesR (C.drop j) n acc = .error (41, n + 1) := by
  rw [List.drop_eq_getElem_cons hj, linesR, if_neg (by simp [h]), hm]
  simp only [ha, if_true]
theorem lines_many {C : List (List UInt8)} {j : Nat} (hj : j < C.length) {n p c : Int} {ps : List Int} {acc : List Mk} (h : silentL C[j] = false) (hm : markR C[j] = some (p, c, ps)) (ha : acc.any (fun m => m.point == p) = false) (hl : 4096 ≤ acc.length) : linesR (C.drop j) n acc = .error (2, n + 1) := by
  rw [List.drop_eq_getElem_cons hj, linesR, if_neg (by simp [h]), hm]
  simp only [ha]
  simp [hl]
theorem lines_more {C : List (List UInt8)} {j : Nat} (hj : j < C.length) {n p c : Int} {ps : List Int} {acc : List Mk} (h : silentL C[j] = false) (hm : markR C[j] = some (p, c, ps)) (ha : acc.any (fun m => m.point == p) = false) (hl : acc.length < 4096) : linesR (C.drop j) n acc = linesR (C.drop (j + 1)) (n + 1) (acc ++ [⟨n + 1, p, c, ps⟩]) := by
  rw [List.drop_eq_getElem_cons hj, linesR, if_neg (by simp [h]), hm]
  simp only [ha]
  simp [show ¬ 4096 ≤ acc.length by omega]
theorem lines_end {C : List (List UInt8)} {j : Nat} (hj : C.length ≤ j) {n : Int} {acc : List Mk} : linesR (C.drop j) n acc = .ok acc := by
  rw [List.drop_of_length_le hj, linesR]

end Go.Proofs.YtadbkkakjekopaaDoor

namespace Go.Proofs.YtadbkkakjekopaaDoor
open Go.RowKit Go.Vf Go.Maps

/-- Two slices whose rows are not the same. -/
def Apt (u v : Value) : Prop := ∀ g, u.ownBlock = some g → v.ownBlock ≠ some g
theorem Apt.symm {u v : Value} (h : Apt u v) : Apt v u := fun g hv hu => h g hu hv
theorem apt_types {w : World} {b1 b2 : Nat} {e1 e2 : TypeId} {s1 s2 k1 k2 : Nat} {v1 v2 : Value} {x1 x2 : List Value} (h1 : w.ownsRow b1 e1 s1 v1 k1 x1) (h2 : w.ownsRow b2 e2 s2 v2 k2 x2) (ht : e1 ≠ e2) : Apt v1 v2 := fun g hg1 hg2 => by
  obtain ⟨_, c1, f1, q1⟩ := own_ge h1 hg1
  obtain ⟨_, c2, f2, q2⟩ := own_ge h2 hg2
  rw [q1] at q2
  simp only [Option.some.injEq, Obj.cells.injEq] at q2
  exact ht q2.2.1
theorem row_lt {w : World} {base : Nat} {e : TypeId} {size k : Nat} {v : Value} {xs : List Value} (h : w.ownsRow base e size v k xs) {g : Nat} (hg : v.ownBlock = some g) : g < w.heap.size := by
  obtain ⟨_, c, f, q⟩ := own_ge h hg
  exact (Array.getElem?_eq_some_iff.1 q).1
theorem apt_new {w : World} {b1 b2 : Nat} {e1 e2 : TypeId} {s1 s2 k1 k2 : Nat} {v1 v2 : Value} {x1 x2 : List Value} {w2 : World} (h1 : w.ownsRow b1 e1 s1 v1 k1 x1) (h2 : w2.ownsRow b2 e2 s2 v2 k2 x2) (hb : w.heap.size ≤ b2) : Apt v1 v2 := fun g hg1 hg2 => by
  have := row_lt h1 hg1
  have := (own_ge h2 hg2).1
  omega
/-- A row that was not written. -/
theorem own_grown {w w' : World} {b : Nat} {e : TypeId} {s k : Nat} {v u : Value} {xs : List Value} (h : w.ownsRow b e s v k xs) (hg : w.grownBy w' u.ownBlock) (ha : Apt u v) : w'.ownsRow b e s v k xs :=
  own_other h (fun g hv => hg.block g (row_lt h hv) (fun e => ha g e.symm hv))
theorem blk_grown {w w' : World} {b : Nat} {e : TypeId} {s k B : Nat} {t : TypeId} {u : Value} {xs : List Value} {cs : Array Value} (hb : Blk w B t cs) (hu : w.ownsRow b e s u k xs) (ht : e ≠ t) (hg : w.grownBy w' u.ownBlock) : Blk w' B t cs := by
  refine (hg.block B hb.lt (fun eq => ?_)).trans hb
  obtain ⟨_, c, f, q⟩ := own_ge hu eq.symm
  have := q.symm.trans hb
  simp only [Option.some.injEq, Obj.cells.injEq] at this
  exact ht this.2.1

/-- What Load keeps. -/
structure LJ (w : World) (vl : Value) (C : List (List UInt8)) (lp la : List Int) (l : List PM) (vp va vm : Value) (ps : List (PM × Value)) (wr : World) : Prop where
  res : Blk wr w.heap.size 29 #[.slice none 0 0]
  box : Blk wr (w.heap.size + 1) 29 #[vm]
  lines : SOwn wr w.heap.size vl C
  points : IOwn wr w.heap.size vp lp
  ats : IOwn wr w.heap.size va la
  marks : wr.ownsRow w.heap.size 61 3 vm ps.length (flatM ps)
  parts : ∀ x ∈ ps, IOwn wr w.heap.size x.2 x.1.parts
  is : ps.map Prod.fst = l
  sepA : Apt vp va
  sepP : ∀ x ∈ ps, Apt vp x.2 ∧ Apt va x.2
  below : Below w.heap.size w wr
section
variable {w : World} {vl : Value} {C : List (List UInt8)} {lp la : List Int} {l : List PM} {vp va vm : Value} {ps : List (PM × Value)} {wr : World}
theorem LJ.go (h : LJ w vl C lp la l vp va vm ps wr) {w' : World} (hb : Below wr.heap.size wr w') : LJ w vl C lp la l vp va vm ps w' where
  res := h.res.below hb h.res.lt
  box := h.box.below hb h.box.lt
  lines := own_after h.lines hb
  points := own_after h.points hb
  ats := own_after h.ats hb
  marks := own_after h.marks hb
  parts := fun x hx => own_after (h.parts x hx) hb
  is := h.is
  sepA := h.sepA
  sepP := h.sepP
  below := h.below.trans (hb.mono h.below.size)
theorem LJ.mown (h : LJ w vl C lp la l vp va vm ps wr) : MOwn wr w.heap.size vm ps := ⟨h.marks, h.parts⟩
theorem LJ.min (h : LJ w vl C lp la l vp va vm ps wr) : MIn wr.heap.size wr vm l := by
  have := h.mown.min
  rw [h.is] at this
  exact this
/-- One point more. -/
theorem LJ.point (h : LJ w vl C lp la l vp va vm ps wr) {w' : World} {vp' : Value} {lp' : List Int} (hg : wr.grownBy w' vp.ownBlock) (ho : IOwn w' w.heap.size vp' lp') (hat : vp'.ownBlock = vp.ownBlock ∨ vp'.ownBlock = some wr.heap.size) : LJ w vl C lp' la l vp' va vm ps w' where
  res := blk_grown h.res h.points (by decide) hg
  box := blk_grown h.box h.points (by decide) hg
  lines := own_grown h.lines hg (apt_types h.points h.lines (by decide))
  points := ho
  ats := own_grown h.ats hg h.sepA
  marks := own_grown h.marks hg (apt_types h.points h.marks (by decide))
  parts := fun x hx => own_grown (h.parts x hx) hg (h.sepP x hx).1
  is := h.is
  sepA := fun g hg1 hg2 => by
    rcases hat with e | e
    · exact h.sepA g (e.symm.trans hg1) hg2
    · rw [e] at hg1
      have := row_lt h.ats hg2
      simp at hg1
      omega
  sepP := fun x hx => ⟨fun g hg1 hg2 => by
    rcases hat with e | e
    · exact (h.sepP x hx).1 g (e.symm.trans hg1) hg2
    · rw [e] at hg1
      have := row_lt (h.parts x hx) hg2
      simp at hg1
      omega, (h.sepP x hx).2⟩
  below := h.below.grown hg h.below.size (fun k hk => (own_ge h.points hk).1)
/-- One line's number more. -/
theorem LJ.at (h : LJ w vl C lp la l vp va vm ps wr) {w' : World} {va' : Value} {la' : List Int} (hg : wr.grownBy w' va.ownBlock) (ho : IOwn w' w.heap.size va' la') (hat : va'.ownBlock = va.ownBlock ∨ va'.ownBlock = some wr.heap.size) : LJ w vl C lp la' l vp va' vm ps w' where
  res := blk_grown h.res h.ats (by decide) hg
  box := blk_grown h.box h.ats (by decide) hg
  lines := own_grown h.lines hg (apt_types h.ats h.lines (by decide))
  points := own_grown h.points hg h.sepA.symm
  ats := ho
  marks := own_grown h.marks hg (apt_types h.ats h.marks (by decide))
  parts := fun x hx => own_grown (h.parts x hx) hg (h.sepP x hx).2
  is := h.is
  sepA := fun g hg1 hg2 => by
    rcases hat with e | e
    · exact h.sepA g hg1 (e.symm.trans hg2)
    · rw [e] at hg2
      have := row_lt h.points hg1
      simp at hg2
      omega
  sepP := fun x hx => ⟨(h.sepP x hx).1, fun g hg1 hg2 => by
    rcases hat with e | e
    · exact (h.sepP x hx).2 g (e.symm.trans hg1) hg2
    · rw [e] at hg1
      have := row_lt (h.parts x hx) hg2
      simp at hg1
      omega⟩
  below := h.below.grown hg h.below.size (fun k hk => (own_ge h.ats hk).1)
/-- A row of marks of its own in the box. -/
theorem LJ.mark (h : LJ w vl C lp la l vp va vm ps wr) {vm' : Value} {ps' : List (PM × Value)} {l' : List PM} {b : Nat} (hr : wr.ownsRow b 61 3 vm' ps'.length (flatM ps')) (hb : w.heap.size ≤ b) (hp : ∀ x ∈ ps', IOwn wr w.heap.size x.2 x.1.parts ∧ Apt vp x.2 ∧ Apt va x.2) (hl : ps'.map Prod.fst = l') :
    LJ w vl C lp la l' vp va vm' ps' (wr.setCell ⟨w.heap.size + 1, 0, none⟩ vm') := by
  have hk : ∀ {b1 : Nat} {e1 : TypeId} {s1 k1 : Nat} {v1 : Value} {x1 : List Value}, e1 ≠ 29 → wr.ownsRow b1 e1 s1 v1 k1 x1 → (wr.setCell ⟨w.heap.size + 1, 0, none⟩ vm').ownsRow b1 e1 s1 v1 k1 x1 := fun ht h1 => own_other h1 (fun g hg => Below.heap_setCell wr ⟨w.heap.size + 1, 0, none⟩ _ g (by
    intro e
    have e' : g = w.heap.size + 1 := e
    subst e'
    obtain ⟨_, c, f, q⟩ := own_ge h1 hg
    have := q.symm.trans h.box
    simp only [Option.some.injEq, Obj.cells.injEq] at this
    exact ht this.2.1))
  refine ⟨(Below.heap_setCell wr ⟨w.heap.size + 1, 0, none⟩ _ w.heap.size (by show w.heap.size ≠ w.heap.size + 1; omega)).trans h.res, ?_, hk (by decide) h.lines, hk (by decide) h.points, hk (by decide) h.ats, ownsRow_mono (hk (by decide) hr) hb, fun x hx => hk (by decide) (hp x hx).1, hl, h.sepA, fun x hx => (hp x hx).2, h.below.setCell (by show w.heap.size ≤ w.heap.size + 1; omega) _⟩
  have := h.box.set 0 vm'
  simpa using this
end
theorem refLoad_results {tmps : Array Value} {w : World} {h : Nat} {x a b : Value} (hb : Blk w h 29 #[x]) (t2 : tmps[2]?.getD undef = .pointer (some ⟨h, 0, none⟩)) (t3 : tmps[3]?.getD undef = a) (t4 : tmps[4]?.getD undef = b) :
    (results Tryd.f8 tmps).run Tryd.prog w = .ok (.tuple #[.agg #[x], a, b]) w := by
  have c0 : w.cell? ⟨h, 0, none⟩ = some x := hb.cell 0
  simp [results, Tryd.results8, go_sem, t2, t3, t4, c0]
end Go.Proofs.YtadbkkakjekopaaDoor
