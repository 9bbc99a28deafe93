/- Contracts and lemmas (nothing is claimed here). -/
import Derived.Test.YtcbjnifoojjipaaGreatDoorJ2
import Derived.Test.YtcbjnifoojjipaaGreatDoorJ8
import Derived.Test.YtcbjnifoojjipaaGreatDoorSLin
import Derived.Test.YtcbjnifoojjipaaGreatDoorSTof
import Derived.Test.YtcbjnifoojjipaaGreatDoorSFlA
namespace Go.Proofs.YtcbjnifoojjipaaGreatDoor
open Go.RowKit Go.Vf
def markB : ByteArray := ⟨#[109, 97, 114, 107]⟩
inductive LIf (w : World) (lo n₀ : Nat) : List Fld → Nat → Prop where
  | row {l : List Fld} {b : Nat} (G : Nat → Nat) : lo ≤ b → b < n₀ → (∃ cs, Blk w b 48 cs ∧ cs.size = (l.length + 2) * 14) → (∀ j, l.length ≤ j → j < l.length + 2 → w.cell? ⟨b, j * 14, none⟩ = some (.string markB) ∧ w.cell? ⟨b, j * 14 + 1, none⟩ = some (.int .u8 99)) →
      (∀ j (hj : j < l.length), RowF w b (j * 14) l[j].own (some ⟨G j, 0, none⟩) l[j].fields.length (l[j].fields.length + 2)) → (∀ j (hj : j < l.length), LIf w lo n₀ l[j].fields (G j)) → LIf w lo n₀ l b
theorem LIf.keep {w w' : World} {lo n₀ : Nat} {l : List Fld} {b : Nat} (h : LIf w lo n₀ l b) (hk : ∀ b, lo ≤ b → b < n₀ → w'.heap[b]? = w.heap[b]?) : LIf w' lo n₀ l b := by
  induction h with
  | row G h1 h2 hB h3 h4 _ ih =>
    have q := fun k => cell_of_block (hk _ h1 h2) k
    exact .row G h1 h2 (by obtain ⟨cs, e1, e2⟩ := hB; exact ⟨cs, (hk _ h1 h2).trans e1, e2⟩) (fun j q1 q2 => ⟨(q _).trans (h3 j q1 q2).1, (q _).trans (h3 j q1 q2).2⟩) (fun j hj => (h4 j hj).of q) ih
theorem LIf.mono {w : World} {lo lo' n₀ n : Nat} {l : List Fld} {b : Nat} (h : LIf w lo n₀ l b) (hn : n₀ ≤ n) (hlo : lo' ≤ lo) : LIf w lo' n l b := by
  induction h with
  | row G h1 h2 hB h3 h4 _ ih => exact .row G (by omega) (by omega) hB h3 h4 ih
theorem LIf.fin {w : World} {lo n₀ : Nat} {l : List Fld} {b : Nat} (h : LIf w lo n₀ l b) : FIn w lo n₀ l (some ⟨b, 0, none⟩) := by
  induction h with
  | @row l b G h1 h2 _ h3 h4 _ ih => exact .cons (fun j => some ⟨G j, 0, none⟩) (fun j => (l[j]?.map (fun f => f.fields.length)).getD 0 + 2) h1 h2 (fun j hj => by rw [Nat.zero_add]; simpa [hj] using h4 j hj) (fun j hj => by simp [hj]) ih
def setL (w : World) (b k : Nat) : List Value → World
  | [] => w
  | v :: r => setL (w.setCell ⟨b, k, none⟩ v) b (k + 1) r
theorem setL_other {b h : Nat} (hh : h ≠ b) : ∀ (vs : List Value) (w : World) (k : Nat), (setL w b k vs).heap[h]? = w.heap[h]?
  | [], _, _ => rfl
  | v :: r, w, k => (setL_other hh r _ _).trans (Below.heap_setCell w ⟨b, k, none⟩ v h hh)
theorem setL_size (b : Nat) : ∀ (vs : List Value) (w : World) (k : Nat), (setL w b k vs).heap.size = w.heap.size
  | [], _, _ => rfl
  | v :: r, w, k => (setL_size b r _ _).trans (by simp [World.setCell])
theorem setL_below {B b : Nat} {w : World} (hB : B ≤ b) : ∀ (vs : List Value) (W : World) (k : Nat), Below B w W → Below B w (setL W b k vs)
  | [], _, _, h => h
  | v :: r, _, k, h => setL_below hB r _ _ (h.setCell (p := ⟨b, k, none⟩) hB v)
theorem setL_blk {b : Nat} {t : TypeId} : ∀ (vs : List Value) (w : World) (k : Nat) (cs : Array Value), Blk w b t cs → k + vs.length ≤ cs.size →
    ∃ cs', Blk (setL w b k vs) b t cs' ∧ cs'.size = cs.size ∧ (∀ i, i < vs.length → cs'[k + i]? = vs[i]?) ∧ ∀ i, i < k ∨ k + vs.length ≤ i → cs'[i]? = cs[i]?
  | [], w, k, cs, h, _ => ⟨cs, h, rfl, fun i hi => by simp at hi, fun _ _ => rfl⟩
  | v :: r, w, k, cs, h, hs => by
    simp only [List.length_cons] at hs
    obtain ⟨cs', h1, h2, h3, h4⟩ := setL_blk r _ (k + 1) _ (h.set k v) (by simp; omega)
    refine ⟨cs', h1, by simpa using h2, fun i hi => ?_, fun i hi => ?_⟩
    · cases i with
      | zero =>
        have := h4 k (.inl (by omega))
        rw [Nat.add_zero, this, Array.getElem?_setIfInBounds, if_pos rfl, if_pos (by omega)]
        rfl
      | succ i =>
        have := h3 i (by simpa using hi)
        rw [show k + (i + 1) = k + 1 + i by omega, this]
        simp
    · have := h4 i (by simp only [List.length_cons] at hi; omega)
      rw [this]
      simp only [Array.getElem?_setIfInBounds]
      rw [if_neg (by simp only [List.length_cons] at hi; omega)]
theorem info57 : (Tryz.prog.info? 48).map (fun i => (i.zero, i.size, i.bytes)) = some (some (.agg #[.string ⟨#[]⟩, .int .u8 0, .bool false, .int .u8 0, .bool false, .bool false, .string ⟨#[]⟩, .bool false, .string ⟨#[]⟩, .int .i64 0, .int .i64 0, .bool false, .bool false, .slice none 0 0]), 14, 120) := by kernel_rfl
theorem run_make57 (n c : Nat) (hc : n ≤ c) (hn : c ≤ 1073741824) (w : World) : (Instr.makeSlice 23 (.int .i64 (n : Int)) (.int .i64 (c : Int))).run Tryz.prog w = .ok (.slice (some ⟨w.heap.size, 0, none⟩) n c) (w.alloc (.cells (madeCells #[.string ⟨#[]⟩, .int .u8 0, .bool false, .int .u8 0, .bool false, .bool false, .string ⟨#[]⟩, .bool false, .string ⟨#[]⟩, .int .i64 0, .int .i64 0, .bool false, .bool false, .slice none 0 0] (c * 14)) 48)) := by
  obtain ⟨i, hi, hzz⟩ := Option.map_eq_some_iff.1 info57
  simp only [Prod.mk.injEq] at hzz
  obtain ⟨hz, hs, hb⟩ := hzz
  have := run_make (P := Tryz.prog) w 23 48 i _ Tryz.underlying23 hi hz .i64 .i64 (n : Int) (c : Int) (by omega) (by omega) (by rw [hb]; omega) (by omega)
  rw [hs] at this
  simpa [Value.cells] using this
structure SofF (w : World) (b j : Nat) (cs : Array Value) (l : List Fld) (cap : Nat) (G : Nat → Nat) : Prop where
  blk : Blk w b 48 cs
  size : cs.size = cap * 14
  row : ∀ i (hi : i < l.length), i < j → RowF w b (i * 14) l[i].own (some ⟨G i, 0, none⟩) l[i].fields.length (l[i].fields.length + 2)
  win : ∀ i (hi : i < l.length), i < j → LIf w (b + 1) w.heap.size l[i].fields (G i)
theorem row_of {w : World} {b k : Nat} {cs : Array Value} {t : TypeId} {o : Go.Vf.Own} {a : Option Addr} {n c : Nat} (hB : Blk w b t cs) (h : ∀ i, i < 14 → cs[k + i]? = (cellsF o a n c).toList[i]?) : RowF w b k o a n c := by
  have q : ∀ i (hi : i < 14), w.cell? ⟨b, k + i, none⟩ = (cellsF o a n c).toList[i]? := fun i hi => (hB.cell _).trans (h i hi)
  exact ⟨q 0 (by omega), q 1 (by omega), q 2 (by omega), q 3 (by omega), q 4 (by omega), q 5 (by omega), q 6 (by omega), q 7 (by omega), q 8 (by omega), q 9 (by omega), q 10 (by omega), q 11 (by omega), q 12 (by omega), q 13 (by omega)⟩
theorem row_same {w w' : World} {b k : Nat} {o : Go.Vf.Own} {a : Option Addr} {n c : Nat} (h : RowF w b k o a n c) (q : ∀ i, i < 14 → w'.cell? ⟨b, k + i, none⟩ = w.cell? ⟨b, k + i, none⟩) : RowF w' b k o a n c :=
  ⟨(q 0 (by omega)).trans h.c0, (q 1 (by omega)).trans h.c1, (q 2 (by omega)).trans h.c2, (q 3 (by omega)).trans h.c3, (q 4 (by omega)).trans h.c4, (q 5 (by omega)).trans h.c5, (q 6 (by omega)).trans h.c6, (q 7 (by omega)).trans h.c7, (q 8 (by omega)).trans h.c8, (q 9 (by omega)).trans h.c9, (q 10 (by omega)).trans h.c10, (q 11 (by omega)).trans h.c11, (q 12 (by omega)).trans h.c12, (q 13 (by omega)).trans h.c13⟩
theorem SofF.put {w : World} {b n j cap : Nat} {cs : Array Value} {l : List Fld} {G : Nat → Nat} (hS : SofF w b n cs l cap G) (hj : n ≤ j) (hc : j < cap) (vs : List Value) (hv : vs.length = 14) :
    ∃ cs', SofF (setL w b (j * 14) vs) b n cs' l cap G ∧ (∀ i, i < 14 → cs'[j * 14 + i]? = vs[i]?) ∧ ∀ i, i < j * 14 ∨ j * 14 + 14 ≤ i → cs'[i]? = cs[i]? := by
  obtain ⟨cs', h1, h2, h3, h4⟩ := setL_blk vs w (j * 14) cs hS.blk (by rw [hv, hS.size]; omega)
  rw [hv] at h3 h4
  refine ⟨cs', ⟨h1, by rw [h2]; exact hS.size, fun i hi hij => ?_, fun i hi hij => ?_⟩, h3, h4⟩
  · refine row_same (hS.row i hi hij) fun e he => ?_
    rw [h1.cell, hS.blk.cell, h4 _ (.inl (by omega))]
  · rw [setL_size]
    exact (hS.win i hi hij).keep fun x hx _ => setL_other (by omega) _ _ _
theorem SofF.old {w w' : World} {b n cap : Nat} {cs : Array Value} {l : List Fld} {G : Nat → Nat} (hS : SofF w b n cs l cap G) (hb : Below w.heap.size w w') : SofF w' b n cs l cap G :=
  ⟨hS.blk.old hb, hS.size, fun i hi hij => (hS.row i hi hij).below hb hS.blk.lt, fun i hi hij => ((hS.win i hi hij).keep fun x _ hx => hb.block x hx).mono hb.size (Nat.le_refl _)⟩
end Go.Proofs.YtcbjnifoojjipaaGreatDoor
namespace Go.Proofs.YtcbjnifoojjipaaGreatDoor
open Go.RowKit Go.Vf Go.Maps
def T48 (w : World) (b : Nat) : Prop := ∃ cs f, w.heap[b]? = some (.cells cs 48 f)
theorem T48.lt {w : World} {b : Nat} (h : T48 w b) : b < w.heap.size := by
  obtain ⟨_, _, h⟩ := h
  exact (Array.getElem?_eq_some_iff.1 h).1
inductive FT (w : World) (lo : Nat) (x : Option Nat) : List Fld → Option Addr → Nat → Prop where
  | nil : FT w lo x [] none 0
  | cons {l : List Fld} {b c : Nat} (A : Nat → Option Addr) (C : Nat → Nat) (cs : Array Value) : lo ≤ b → some b ≠ x → Blk w b 48 cs → cs.size = c * 14 → l.length ≤ c → (∀ j (hj : j < l.length), RowF w b (0 + j * 14) l[j].own (A j) l[j].fields.length (C j)) →
      (∀ j (hj : j < l.length), l[j].fields.length ≤ C j) → (∀ j (hj : j < l.length), FT w lo x l[j].fields (A j) (C j)) → FT w lo x l (some ⟨b, 0, none⟩) c
theorem FT.keep {w w' : World} {lo : Nat} {x : Option Nat} {l : List Fld} {a : Option Addr} {c : Nat} (h : FT w lo x l a c) (hb : ∀ b, lo ≤ b → some b ≠ x → T48 w b → w'.heap[b]? = w.heap[b]?) : FT w' lo x l a c := by
  induction h with
  | nil => exact .nil
  | cons A C cs h1 h2 h3 hz hl hr hc _ ih => exact .cons A C cs h1 h2 ((hb _ h1 h2 ⟨cs, _, h3⟩).trans h3) hz hl (fun j hj => (hr j hj).of fun k => cell_of_block (hb _ h1 h2 ⟨cs, _, h3⟩) k) hc ih
theorem FT.mono {w : World} {lo lo' : Nat} {x x' : Option Nat} {l : List Fld} {a : Option Addr} {c : Nat} (h : FT w lo x l a c) (hlo : lo' ≤ lo) (hx : ∀ b, lo ≤ b → some b ≠ x → T48 w b → some b ≠ x') : FT w lo' x' l a c := by
  induction h with
  | nil => exact .nil
  | cons A C cs h1 h2 h3 hz hl hr hc _ ih => exact .cons A C cs (Nat.le_trans hlo h1) (hx _ h1 h2 ⟨cs, _, h3⟩) h3 hz hl hr hc ih
theorem FT.kept {w w' : World} {lo lo' : Nat} {x x' : Option Nat} {l : List Fld} {a : Option Addr} {c : Nat} (h : FT w lo x l a c) (hlo : lo' ≤ lo) (hb : ∀ b, lo ≤ b → some b ≠ x → T48 w b → w'.heap[b]? = w.heap[b]? ∧ some b ≠ x') : FT w' lo' x' l a c := by
  induction h with
  | nil => exact .nil
  | cons A C cs h1 h2 h3 hz hl hr hc _ ih => exact .cons A C cs (Nat.le_trans hlo h1) (hb _ h1 h2 ⟨cs, _, h3⟩).2 ((hb _ h1 h2 ⟨cs, _, h3⟩).1.trans h3) hz hl (fun j hj => (hr j hj).of fun k => cell_of_block (hb _ h1 h2 ⟨cs, _, h3⟩).1 k) hc ih
theorem FT.fin {w : World} {lo : Nat} {x : Option Nat} {l : List Fld} {a : Option Addr} {c : Nat} (h : FT w lo x l a c) : FIn w lo w.heap.size l a := by
  induction h with
  | nil => exact .nil
  | cons A C cs h1 h2 h3 hz hl hr hc _ ih => exact .cons A C h1 h3.lt hr hc ih
theorem flat14 {α : Type} (f : α → List Value) (h : ∀ a, (f a).length = 14) : ∀ (qs : List α) (j k : Nat) (hj : j < qs.length), k < 14 → (qs.flatMap f)[j * 14 + k]? = (f qs[j])[k]? := by
  intro qs
  induction qs with
  | nil => intro j k hj; simp at hj
  | cons q qs ih =>
    intro j k hj hk
    rw [List.flatMap_cons]
    cases j with
    | zero => rw [List.getElem?_append_left (by rw [h]; omega)]; simp
    | succ j =>
      rw [List.getElem?_append_right (by rw [h]; omega), h, show (j + 1) * 14 + k - 14 = j * 14 + k by omega, ih j k (by simpa using hj) hk]
      simp
theorem flat14_len {α : Type} (f : α → List Value) (h : ∀ a, (f a).length = 14) : ∀ (qs : List α), (qs.flatMap f).length = qs.length * 14 := by
  intro qs
  induction qs with
  | nil => rfl
  | cons q qs ih => rw [List.flatMap_cons, List.length_append, ih, h, List.length_cons]; omega
abbrev FQ := Fld × Option Addr × Nat
def cellQ (q : FQ) : List Value := [.string q.1.own.name, .int .u8 q.1.own.kind, .bool q.1.own.down, .int .u8 q.1.own.nulls, .bool q.1.own.bnd, .bool q.1.own.ln, .string q.1.own.lm, .bool q.1.own.hn, .string q.1.own.hm, .int .i64 q.1.own.most, .int .i64 q.1.own.str, .bool q.1.own.shf, .bool q.1.own.bck, .slice q.2.1 q.1.fields.length q.2.2]
structure FRow (w : World) (lo : Nat) (v : Value) (qs : List FQ) : Prop where
  own : w.ownsRow lo 48 14 v qs.length (qs.flatMap cellQ)
  inn : ∀ q ∈ qs, q.1.fields.length ≤ q.2.2 ∧ FT w lo v.ownBlock q.1.fields q.2.1 q.2.2
theorem FRow.nil (w : World) (lo : Nat) : FRow w lo (.slice none 0 0) [] := ⟨World.ownsRow_nil _ _ _ _, fun _ h => by cases h⟩
theorem FRow.t48 {w : World} {lo : Nat} {v : Value} {qs : List FQ} (h : FRow w lo v qs) {j : Nat} (hj : v.ownBlock = some j) : lo ≤ j ∧ T48 w j := by
  obtain ⟨h1, cs, f, hh⟩ := own_ge h.own hj
  exact ⟨h1, cs, f, hh⟩
theorem FRow.val {w : World} {lo : Nat} {v : Value} {qs : List FQ} (h : FRow w lo v qs) : ∃ a c, v = .slice a qs.length c := by
  rcases h.own.2 with ⟨rfl, h0⟩ | ⟨g, cap, cur, rfl, _⟩
  · exact ⟨none, 0, by rw [h0]⟩
  · exact ⟨_, _, rfl⟩
theorem FRow.keep {w w' : World} {lo : Nat} {v : Value} {qs : List FQ} (h : FRow w lo v qs) (hb : ∀ b, lo ≤ b → T48 w b → w'.heap[b]? = w.heap[b]?) : FRow w' lo v qs := by
  refine ⟨⟨h.own.1, ?_⟩, fun q hq => ⟨(h.inn q hq).1, (h.inn q hq).2.keep fun b h1 _ h3 => hb b h1 h3⟩⟩
  rcases h.own.2 with h2 | ⟨g, cap, cur, rfl, e2, e3, e4⟩
  · exact .inl h2
  · exact .inr ⟨g, cap, cur, rfl, e2, (hb g e2 ⟨_, _, e3⟩).trans e3, e4⟩
theorem FRow.fin {w : World} {lo : Nat} {a : Option Addr} {n c : Nat} {qs : List FQ} (h : FRow w lo (.slice a n c) qs) : n = qs.length ∧ n ≤ c ∧ FT w lo none (qs.map Prod.fst) a c := by
  rcases h.own.2 with ⟨hv, h0⟩ | ⟨g, cap, cur, hv, e2, e3, e4, _, e6, e5⟩
  · cases hv
    have : qs = [] := List.eq_nil_of_length_eq_zero h0
    subst this
    exact ⟨rfl, Nat.le_refl _, .nil⟩
  · cases hv
    refine ⟨rfl, e4, ?_⟩
    have hcell : ∀ j (hj : j < qs.length) k, k < 14 → w.cell? ⟨g, 0 + j * 14 + k, none⟩ = (cellQ qs[j])[k]? := fun j hj k hk => by
      rw [← flat14 cellQ (fun _ => rfl) qs j k hj hk, ← e5, List.getElem?_take_of_lt (by omega), Nat.zero_add]
      simp [World.cell?, e3]
    refine .cons (fun j => (qs[j]?.map (fun q => q.2.1)).getD none) (fun j => (qs[j]?.map (fun q => q.2.2)).getD 0) cur e2 (by simp) e3 e6 (by simpa using e4) (fun j hj => ?_) (fun j hj => ?_) (fun j hj => ?_)
    all_goals
      have hj' : j < qs.length := by simpa using hj
      have hq := h.inn _ (List.getElem_mem hj')
      simp only [List.getElem_map, List.getElem?_eq_getElem hj', Option.map_some, Option.getD_some]
    · have := hcell j hj'
      generalize qs[j] = q at *
      exact ⟨this 0 (by omega), this 1 (by omega), this 2 (by omega), this 3 (by omega), this 4 (by omega), this 5 (by omega), this 6 (by omega), this 7 (by omega), this 8 (by omega), this 9 (by omega), this 10 (by omega), this 11 (by omega), this 12 (by omega), this 13 (by omega)⟩
    · exact hq.1
    · exact hq.2.mono (Nat.le_refl _) (fun _ _ _ _ => by simp)
theorem wpList_append_field {w : World} {ops : Array Oper} {rest : List Oper} {o : Oper} {a : Act} {Q : Exit → Act → World → Prop} (hgd : o.guard = none) (s x : Operand)
    (ho : o.op = .call { callee := .builtin .append, args := #[s, x], argTypes := #[23, 23] })
    (lo : Nat) (v : Value) (qs : List FQ) (hs : a.eval s = v) (hrow : FRow w lo v qs) (q : FQ) (hq : q.1.fields.length ≤ q.2.2 ∧ FT w lo v.ownBlock q.1.fields q.2.1 q.2.2) (b c : Nat) (hx : a.eval x = .slice (some ⟨b, 0, none⟩) 1 c)
    (hb : Blk w b 48 (cellQ q).toArray) (hlen : qs.length ≤ 1000000) (hbase : lo ≤ w.heap.size)
    (h : ∀ a' c' w', FRow w' lo (.slice a' (qs.length + 1) c') (qs ++ [q]) → w.grownBy w' v.ownBlock → ((Value.slice a' (qs.length + 1) c').ownBlock = v.ownBlock ∨ (Value.slice a' (qs.length + 1) c').ownBlock = some w.heap.size) → wpList Tryz.prog ops Q rest (a.put o.dst (.slice a' (qs.length + 1) c')) w') :
    wpList Tryz.prog ops Q (o :: rest) a w := by
  obtain ⟨i, hi, hz, hsz, hby⟩ := info_parts info57
  refine wpList_append_own_at (P := Tryz.prog) _ hgd s x 23 ho lo 48 i _ 14 120 Tryz.underlying23 hi hz hsz hby rfl (by decide) v qs.length (qs.flatMap cellQ) hs hrow.own ⟨b, 0, none⟩ 1 c (cellQ q) hx rfl ?_ ?_ ?_ ?_ hbase ?_
  · intro j u hu
    rw [show (⟨b, 0, none⟩ : Addr).add j = ⟨b, j, none⟩ by simp [Addr.add]; omega, hb.cell j]
    simpa using hu
  · intro u hu
    simp only [cellQ, List.mem_cons, List.not_mem_nil, or_false] at hu
    rcases hu with h | h | h | h | h | h | h | h | h | h | h | h | h | h <;> (subst h; rfl)
  · unfold maxLen; omega
  · omega
  · intro v' w' h1 h2 h3 hat
    have h4 : FRow w' lo v' (qs ++ [q]) := by
      refine ⟨by rw [List.flatMap_append, List.length_append]; simpa using h1, fun p hp => ?_⟩
      have hpp : p.1.fields.length ≤ p.2.2 ∧ FT w lo v.ownBlock p.1.fields p.2.1 p.2.2 := by
        rcases List.mem_append.1 hp with hp | hp
        · exact hrow.inn p hp
        · rw [List.mem_singleton] at hp; subst hp; exact hq
      refine ⟨hpp.1, ?_⟩
      refine hpp.2.kept (Nat.le_refl _) (fun b _ e1 e2 => ⟨h2.block b e2.lt e1, ?_⟩)
      rcases hat with e | e
      · rw [e]; exact e1
      · rw [e]; have := e2.lt; simp; omega
    obtain ⟨a', c', hv⟩ := h4.val
    rw [List.length_append] at hv
    subst hv
    exact h a' c' w' h4 h2 hat
end Go.Proofs.YtcbjnifoojjipaaGreatDoor
namespace Go.Proofs.YtcbjnifoojjipaaGreatDoor
open Go.RowKit Go.Vf
def isEndL (ws : List ByteArray) : Bool := match ws with
  | [x] => x.toList == [101, 110, 100]
  | _ => false
set_option maxHeartbeats 2000000 in
theorem isEnd_any (B : Nat) (num : Int) (ws : List ByteArray) (hwl : ws.length ≤ 1000000) (w : World) (h : LnAt w B num ws) :
    Calls Tryz.prog 140 #[.pointer (some ⟨B, 0, none⟩)] w fun e w' => e = .returned (.bool (isEndL ws)) ∧ w' = w := by
  obtain ⟨a, c, hB, hW⟩ := h
  have c1 : w.cell? ⟨B, 1, none⟩ = some (.slice a ws.length c) := hB.cell 1
  by_cases h1 : ws.length = 1
  · obtain ⟨x, rfl⟩ : ∃ x, ws = [x] := by
      cases ws with
      | nil => simp at h1
      | cons x r =>
        cases r with
        | nil => exact ⟨x, rfl⟩
        | cons y r => simp at h1
    obtain ⟨b, off, rfl, hb, hx⟩ := hW.2 0 (by simp)
    simp only [List.getElem_cons_zero, Nat.add_zero] at hx
    have hcl : 1 ≤ c := hW.1
    simp only [List.length_cons, List.length_nil, Nat.zero_add] at c1
    have hr : isEndL [x] = (x.toList == [101, 110, 100]) := rfl
    rw [hr]
    have hk : (⟨#[101, 110, 100]⟩ : ByteArray).toList = [101, 110, 100] := by rw [ByteArray.toList_eq]
    obtain ⟨q, hq⟩ : ∃ q, (x.toList == [101, 110, 100]) = q := ⟨_, rfl⟩
    rw [hq]
    clear hB hW hr hk h1 hwl
    cases q <;>
    · go_enter Tryz.func140, Tryz.ntmps140
      go_wp2
      go_ret
      exact ⟨rfl, rfl⟩
  · have hr : isEndL ws = false := by
      cases ws with
      | nil => rfl
      | cons x r =>
        cases r with
        | nil => exact absurd rfl h1
        | cons y r => rfl
    rw [hr]
    obtain ⟨n, hn⟩ : ∃ n, ws.length = n := ⟨_, rfl⟩
    rw [hn] at c1 h1
    have t1 : ((n : Int) == 1) = false := by simp; omega
    have t2 : decide ((n : Int) = 1) = false := by simp; omega
    clear hB hW hr hn hwl
    go_enter Tryz.func140, Tryz.ntmps140
    go_wp2
    go_ret
    exact ⟨rfl, rfl⟩
def withinP : Nat → Int → List Ln → List Int → List Fld → Except Int (List Fld × List Ln × List Int)
  | 0, after, _, _, _ => .error after
  | _ + 1, after, [], _, _ => .error after
  | n + 1, after, l :: ls, ns, acc =>
    if isEndL l.2 then .ok (acc, ls, ns)
    else match lineL l.2 with
      | none => .error l.1
      | some o => if o.kind = 7 then (match withinP n after ls (ns ++ [l.1]) [] with
          | .error e => .error e
          | .ok r => withinP n after r.2.1 r.2.2 (acc ++ [⟨o, r.1⟩]))
        else withinP n after ls (ns ++ [l.1]) (acc ++ [⟨o, []⟩])
theorem withinP_less (n : Nat) : ∀ (after : Int) (ls : List Ln) (ns : List Int) (acc : List Fld) (r : List Fld × List Ln × List Int), withinP n after ls ns acc = .ok r → r.2.1.length < ls.length := by
  induction n with
  | zero => intro _ _ _ _ _ h; cases h
  | succ n ih =>
    intro after ls ns acc r h
    cases ls with
    | nil => cases h
    | cons l ls =>
      rw [withinP] at h
      split at h
      · cases h; simp
      · split at h
        · cases h
        · split at h
          · split at h
            · cases h
            · rename_i q hq
              have h1 := ih _ _ _ _ _ hq
              have h2 := ih _ _ _ _ _ h
              simp only [List.length_cons]; omega
          · have h2 := ih _ _ _ _ _ h
            simp only [List.length_cons]; omega
theorem withinP_more (n : Nat) : ∀ (m : Nat) (after : Int) (ls : List Ln) (ns : List Int) (acc : List Fld), ls.length < n → n ≤ m → withinP m after ls ns acc = withinP n after ls ns acc := by
  induction n with
  | zero => intro m _ ls _ _ h; omega
  | succ n ih =>
    intro m after ls ns acc hl hm
    obtain ⟨m, rfl⟩ : ∃ k, m = k + 1 := ⟨m - 1, by omega⟩
    cases ls with
    | nil => rfl
    | cons l ls =>
      simp only [List.length_cons] at hl
      rw [withinP, withinP]
      split
      · rfl
      · split
        · rfl
        · split
          · rw [ih m after ls _ [] (by omega) (by omega)]
            split
            · rfl
            · rename_i q hq
              have h1 := withinP_less _ _ _ _ _ _ hq
              exact ih m after _ _ _ (by omega) (by omega)
          · exact ih m after ls _ _ (by omega) (by omega)
end Go.Proofs.YtcbjnifoojjipaaGreatDoor
