/- Lists of parts that grow, in memory (lemmas; nothing is claimed here). -/
import Derived.Maps.AppendAt
import Derived.Laws.OwnMore
import Derived.Test.YtnjfkijekohdkaaDoorHvy
namespace Go.Proofs.YtnjfkijekohdkaaDoor
open Go.RowKit Go.Vf
theorem info27p : (Tryd.prog.info? 29).map (fun i => (i.zero, i.size, i.bytes)) = some (some (.agg #[.int .u8 0, .bool false, .bool false, .string ⟨#[]⟩, .string ⟨#[]⟩, .slice none 0 0]), 6, 72) := by kernel_rfl
def tupP (l : List Prt) : Prt := .mk 7 false false ⟨#[]⟩ ⟨#[]⟩ l
theorem own_keep {w w' : World} {base e size : Nat} {v : Value} {n : Nat} {xs : List Value} (ho : w.ownsRow base e size v n xs) (hk : ∀ b, base ≤ b → b < w.heap.size → w'.heap[b]? = w.heap[b]?) : w'.ownsRow base e size v n xs := by
  obtain ⟨h1, h2⟩ := ho
  refine ⟨h1, ?_⟩
  rcases h2 with h2 | ⟨k, cap, cur, h3, h4, h5, h6⟩
  · exact .inl h2
  · exact .inr ⟨k, cap, cur, h3, h4, by rw [hk k h4 (Array.getElem?_eq_some_iff.1 h5).1]; exact h5, h6⟩

/-- The items of p lie at a, in blocks of S. -/
inductive PAt (w : World) (S : Nat → Prop) : Prt → Option Addr → Prop where
  | nil {p : Prt} {a : Option Addr} : p.items = [] → PAt w S p a
  | cons {p : Prt} {b off : Nat} (A : Nat → Option Addr) (C : Nat → Nat) : S b → (∀ j (hj : j < p.items.length), Row6 w b (off + j * 6) p.items[j] (A j) (C j)) →
      (∀ j (hj : j < p.items.length), PAt w S p.items[j] (A j)) → PAt w S p (some ⟨b, off, none⟩)
theorem PAt.of {w : World} {lo n : Nat} {p : Prt} {a : Option Addr} (h : PIn w lo n p a) {S : Nat → Prop} (hS : ∀ b, lo ≤ b → b < n → S b) : PAt w S p a := by
  induction h with
  | nil h => exact .nil h
  | cons A C h1 h2 hr _ ih => exact .cons A C (hS _ h1 h2) hr ih
theorem PAt.to {w : World} {lo n : Nat} {p : Prt} {a : Option Addr} {S : Nat → Prop} (h : PAt w S p a) (hS : ∀ b, S b → lo ≤ b ∧ b < n) : PIn w lo n p a := by
  induction h with
  | nil h => exact .nil h
  | cons A C h1 hr _ ih => exact .cons A C (hS _ h1).1 (hS _ h1).2 hr ih
theorem PAt.keep {w w' : World} {p : Prt} {a : Option Addr} {S S' : Nat → Prop} (h : PAt w S p a) (hk : ∀ b, S b → w'.heap[b]? = w.heap[b]?) (hS : ∀ b, S b → S' b) : PAt w' S' p a := by
  induction h with
  | nil h => exact .nil h
  | cons A C h1 hr _ ih =>
    refine .cons A C (hS _ h1) (fun j hj => ?_) ih
    have q := fun k => cell_of_block (hk _ h1) k
    obtain ⟨h0, h1, h2, h3, h4, h5⟩ := hr j hj
    exact ⟨(q _).trans h0, (q _).trans h1, (q _).trans h2, (q _).trans h3, (q _).trans h4, (q _).trans h5⟩

/-- A part, where its items lie, and their room. -/
abbrev Trp := Prt × Option Addr × Nat
def cellsT (t : Trp) : List Value := [.int .u8 t.1.kind, .bool t.1.yes, .bool t.1.neg, .string t.1.mag, .string t.1.raw, .slice t.2.1 t.1.items.length t.2.2]
def flatT (ts : List Trp) : List Value := ts.flatMap cellsT
theorem flatT_len (ts : List Trp) : (flatT ts).length = ts.length * 6 := by
  induction ts with
  | nil => rfl
  | cons t r ih => rw [flatT, List.flatMap_cons, List.length_append, ← flatT, ih, List.length_cons]; simp [cellsT]; omega
theorem flatT_at : ∀ (ts : List Trp) (j : Nat) (hj : j < ts.length) (k : Nat), k < 6 → (flatT ts)[j * 6 + k]? = (cellsT ts[j])[k]?
  | t :: r, 0, _, k, hk => by
    rw [flatT, List.flatMap_cons, Nat.zero_mul, Nat.zero_add, List.getElem?_append_left (by simp [cellsT]; omega)]
    rfl
  | t :: r, j + 1, hj, k, hk => by
    have h6 : (cellsT t).length = 6 := rfl
    rw [flatT, List.flatMap_cons, List.getElem?_append_right (by omega), ← flatT, show (j + 1) * 6 + k - (cellsT t).length = j * 6 + k by omega, flatT_at r j (by simpa using hj) k hk]
    rfl

/-- The items that were read, in memory. -/
structure PItm (lo : Nat) (wr : World) (v : Value) (acc : List Prt) : Prop where
  row : ∃ ts : List Trp, ts.map (·.1) = acc ∧ wr.ownsRow lo 29 6 v ts.length (flatT ts) ∧ ∀ t ∈ ts, PAt wr (fun b => lo ≤ b ∧ b < wr.heap.size ∧ v.ownBlock ≠ some b) t.1 t.2.1
  len : acc.length ≤ 1024
theorem PItm.nil (lo : Nat) (wr : World) : PItm lo wr (.slice none 0 0) [] := ⟨⟨[], rfl, World.ownsRow_nil _ _ _ _, by simp⟩, by simp⟩
theorem PItm.keep {lo : Nat} {wr wr' : World} {v : Value} {acc : List Prt} (h : PItm lo wr v acc) (hk : ∀ b, lo ≤ b → b < wr.heap.size → wr'.heap[b]? = wr.heap[b]?) (hs : wr.heap.size ≤ wr'.heap.size) : PItm lo wr' v acc := by
  obtain ⟨⟨ts, e, h1, h2⟩, h3⟩ := h
  exact ⟨⟨ts, e, own_keep h1 hk, fun t ht => (h2 t ht).keep (fun b q => hk b q.1 q.2.1) (fun b q => ⟨q.1, by omega, q.2.2⟩)⟩, h3⟩
theorem PItm.old {lo : Nat} {wr wr' : World} {v : Value} {acc : List Prt} (h : PItm lo wr v acc) (hb : Below wr.heap.size wr wr') : PItm lo wr' v acc := h.keep (fun b _ q => hb.block b q) hb.size
theorem PItm.form {lo : Nat} {wr : World} {v : Value} {acc : List Prt} (h : PItm lo wr v acc) : ∃ a c, v = .slice a acc.length c := by
  obtain ⟨⟨ts, rfl, h1, h2⟩, h3⟩ := h
  rcases h1.2 with ⟨rfl, e⟩ | ⟨g, cap, cur, rfl, _⟩
  · exact ⟨none, 0, by rw [List.length_map, e]⟩
  · exact ⟨_, _, by rw [List.length_map]⟩
theorem PItm.row_lt {lo : Nat} {wr : World} {v : Value} {acc : List Prt} (h : PItm lo wr v acc) : ∀ k, v.ownBlock = some k → k < wr.heap.size := by
  obtain ⟨⟨ts, rfl, h1, h2⟩, h3⟩ := h
  intro k hk
  exact (World.ownsRow.lt h1 k hk).2
theorem PItm.pin {lo : Nat} {wr : World} {a : Option Addr} {n c : Nat} {acc : List Prt} (h : PItm lo wr (.slice a n c) acc) : PIn wr lo wr.heap.size (tupP acc) a := by
  obtain ⟨⟨ts, rfl, h1, h2⟩, h3⟩ := h
  have h0 := h1
  rcases h1.2 with ⟨e, e2⟩ | ⟨g, cap, cur, e, q1, q2, _⟩
  · exact .nil (by rw [List.eq_nil_of_length_eq_zero e2]; rfl)
  · simp only [Value.slice.injEq] at e
    obtain ⟨rfl, rfl, rfl⟩ := e
    have hc : ∀ j (hj : j < ts.length) k, k < 6 → wr.cell? ⟨g, j * 6 + k, none⟩ = (cellsT ts[j])[k]? := fun j hj k hk => by
      rw [World.ownsRow.cellAt h0 _ (by omega), flatT_at ts j hj k hk]
    have hA : ∀ j (hj : j < ts.length), (ts[j]?.map (·.2.1)).getD none = ts[j].2.1 := fun j hj => by rw [List.getElem?_eq_getElem hj]; rfl
    have hC : ∀ j (hj : j < ts.length), (ts[j]?.map (·.2.2)).getD 0 = ts[j].2.2 := fun j hj => by rw [List.getElem?_eq_getElem hj]; rfl
    refine .cons (fun j => (ts[j]?.map (·.2.1)).getD none) (fun j => (ts[j]?.map (·.2.2)).getD 0) q1 (Array.getElem?_eq_some_iff.1 q2).1 (fun j hj => ?_) (fun j hj => ?_)
    · have hj' : j < ts.length := by simpa [tupP, Prt.items] using hj
      have e : (tupP (ts.map (·.1))).items[j] = ts[j].1 := by simp [tupP, Prt.items]
      simp only [hA j hj', hC j hj', e, Nat.zero_add]
      exact ⟨hc j hj' 0 (by omega), hc j hj' 1 (by omega), hc j hj' 2 (by omega), hc j hj' 3 (by omega), hc j hj' 4 (by omega), hc j hj' 5 (by omega)⟩
    · have hj' : j < ts.length := by simpa [tupP, Prt.items] using hj
      have e : (tupP (ts.map (·.1))).items[j] = ts[j].1 := by simp [tupP, Prt.items]
      simp only [hA j hj', e]
      exact (h2 _ (List.getElem_mem hj')).to fun b q => ⟨q.1, q.2.1⟩
/-- One more item, read in blocks from lo2 on. -/
theorem PItm.more {lo lo2 : Nat} {wr : World} {v : Value} {acc : List Prt} (h : PItm lo wr v acc) (hlo : lo ≤ lo2) (hlo2 : lo2 ≤ wr.heap.size) (hrow : ∀ k, v.ownBlock = some k → k < lo2) (ha : acc.length < 1024) {p : Prt} {ap : Option Addr} {cp : Nat} (hx : PIn wr lo2 wr.heap.size p ap)
    {ops : Array Oper} {rest : List Oper} {o : Oper} {a : Act} {Q : Exit → Act → World → Prop} (s y : Operand) (hgd : o.guard = none) (ho : o.op = .call { callee := .builtin .append, args := #[s, y], argTypes := #[27, 27] }) (hs : a.eval s = v) (hy : a.eval y = .slice (some ⟨wr.heap.size, 0, none⟩) 1 1)
    (hK : ∀ v' w', PItm lo w' v' (acc ++ [p]) → Below lo wr w' → wpList Tryd.prog ops Q rest (a.put o.dst v') w') : wpList Tryd.prog ops Q (o :: rest) a (wr.alloc (.cells #[.int .u8 p.kind, .bool p.yes, .bool p.neg, .string p.mag, .string p.raw, .slice ap p.items.length cp] 29)) := by
  obtain ⟨i, hi, hzz⟩ := Option.map_eq_some_iff.1 info27p
  simp only [Prod.mk.injEq] at hzz
  obtain ⟨hz, hsz, hby⟩ := hzz
  obtain ⟨⟨ts, rfl, h1, h2⟩, h3⟩ := h
  rw [List.length_map] at ha h3
  have hBk := Blk.new wr 29 #[.int .u8 p.kind, .bool p.yes, .bool p.neg, .string p.mag, .string p.raw, .slice ap p.items.length cp]
  have hbA := (Below.refl wr.heap.size wr).alloc (Nat.le_refl _) (.cells #[.int .u8 p.kind, .bool p.yes, .bool p.neg, .string p.mag, .string p.raw, .slice ap p.items.length cp] 29)
  have hsA := alloc_size wr (.cells #[.int .u8 p.kind, .bool p.yes, .bool p.neg, .string p.mag, .string p.raw, .slice ap p.items.length cp] 29)
  have hownA := World.ownsRow.alloc h1 (.cells #[.int .u8 p.kind, .bool p.yes, .bool p.neg, .string p.mag, .string p.raw, .slice ap p.items.length cp] 29)
  have hfl : flatT [(p, ap, cp)] = [.int .u8 p.kind, .bool p.yes, .bool p.neg, .string p.mag, .string p.raw, .slice ap p.items.length cp] := rfl
  generalize hW : wr.alloc (.cells #[.int .u8 p.kind, .bool p.yes, .bool p.neg, .string p.mag, .string p.raw, .slice ap p.items.length cp] 29) = wA at *
  have hnews : ∀ j u, (flatT [(p, ap, cp)])[j]? = some u → wA.cell? ((⟨wr.heap.size, 0, none⟩ : Addr).add j) = some u := fun j u hu => by
    rw [Go.WideShapes.add_plain, Nat.zero_add, hBk.cell j, ← hu, hfl]
    simp
  refine wpList_append_own_at _ hgd s y 27 ho lo 29 i _ 6 72 Tryd.underlying27 hi hz hsz hby rfl (by decide) v ts.length (flatT ts) hs hownA ⟨wr.heap.size, 0, none⟩ 1 1 (flatT [(p, ap, cp)]) hy (flatT_len _) hnews (by rw [hfl]; intro u hu; simp at hu; rcases hu with rfl | rfl | rfl | rfl | rfl | rfl <;> rfl) (by simp [maxLen]; omega) (by omega) (by omega) ?_
  intro v' w' ho' hg' _ hat
  have hb' : Below lo wr w' := (hbA.mono (by omega)).grown hg' (by rw [hsA]; omega) (fun k hk => (World.ownsRow.lt hownA k hk).1)
  have hblk : ∀ b, b < wr.heap.size → v.ownBlock ≠ some b → w'.heap[b]? = wr.heap[b]? := fun b hb hne => (hg'.block b (by rw [hsA]; omega) (fun e => hne e.symm)).trans (hbA.block b hb)
  have hS : ∀ b, b < wr.heap.size → v.ownBlock ≠ some b → v'.ownBlock ≠ some b := fun b hb hne e => by
    rcases hat with h | h
    · exact hne (h.symm.trans e)
    · rw [e] at h; simp only [Option.some.injEq] at h; rw [hsA] at h; omega
  have hsz' := hb'.size
  refine hK v' w' ⟨⟨ts ++ [(p, ap, cp)], by simp, by rw [List.length_append, flatT, List.flatMap_append]; exact ho', fun t ht => ?_⟩, by simp; omega⟩ hb'
  rcases List.mem_append.1 ht with ht | ht
  · exact (h2 t ht).keep (fun b q => hblk b q.2.1 q.2.2) (fun b q => ⟨q.1, by omega, hS b q.2.1 q.2.2⟩)
  · simp only [List.mem_singleton] at ht
    subst ht
    have hne : ∀ b, lo2 ≤ b → v.ownBlock ≠ some b := fun b hb e => by have := hrow b e; omega
    have hx' : PAt wr (fun b => lo2 ≤ b ∧ b < wr.heap.size) p ap := PAt.of hx fun b q1 q2 => ⟨q1, q2⟩
    exact hx'.keep (fun b q => hblk b q.2 (hne b q.1)) (fun b q => ⟨by omega, by omega, hS b q.2 (hne b q.1)⟩)
end Go.Proofs.YtnjfkijekohdkaaDoor
