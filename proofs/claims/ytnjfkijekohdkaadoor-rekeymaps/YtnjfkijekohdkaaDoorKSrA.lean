/- Lists of sources that grow, in memory (lemmas; nothing is claimed here). -/
import Derived.Test.YtnjfkijekohdkaaDoorRPit
import Derived.Test.YtnjfkijekohdkaaDoorKTup
namespace Go.Proofs.YtnjfkijekohdkaaDoor
open Go.RowKit Go.Vf
theorem info52 : (Tryd.prog.info? 52).map (fun i => (i.zero, i.size, i.bytes)) = some (some (.agg #[.int .i64 0, .int .u8 0, .bool false, .bool false, .string ⟨#[]⟩, .string ⟨#[]⟩, .slice none 0 0]), 7, 80) := by kernel_rfl
/-- A source, where its part's items lie, and their room. -/
abbrev SQ := (Int × Prt) × Option Addr × Nat
def cellS (q : SQ) : List Value := [.int .i64 q.1.1, .int .u8 q.1.2.kind, .bool q.1.2.yes, .bool q.1.2.neg, .string q.1.2.mag, .string q.1.2.raw, .slice q.2.1 q.1.2.items.length q.2.2]
theorem flatS_len (qs : List SQ) : (qs.flatMap cellS).length = qs.length * 7 := by
  induction qs with
  | nil => rfl
  | cons t r ih => rw [List.flatMap_cons, List.length_append, ih, List.length_cons]; simp [cellS]; omega
theorem flatS_at : ∀ (ts : List SQ) (j : Nat) (hj : j < ts.length) (k : Nat), k < 7 → (ts.flatMap cellS)[j * 7 + k]? = (cellS ts[j])[k]?
  | t :: r, 0, _, k, hk => by
    rw [List.flatMap_cons, Nat.zero_mul, Nat.zero_add, List.getElem?_append_left (by simp [cellS]; omega)]
    rfl
  | t :: r, j + 1, hj, k, hk => by
    have h6 : (cellS t).length = 7 := rfl
    rw [List.flatMap_cons, List.getElem?_append_right (by omega), show (j + 1) * 7 + k - (cellS t).length = j * 7 + k by omega, flatS_at r j (by simpa using hj) k hk]
    rfl
/-- Sources that a row of one's own holds; their parts lie below n₀. -/
structure SRow (w : World) (n₀ base : Nat) (v : Value) (qs : List SQ) : Prop where
  own : w.ownsRow base 52 7 v qs.length (qs.flatMap cellS)
  inn : ∀ q ∈ qs, PIn w 0 n₀ q.1.2 q.2.1
theorem SRow.nil (w : World) (n₀ base : Nat) : SRow w n₀ base (.slice none 0 0) [] := ⟨World.ownsRow_nil _ _ _ _, by simp⟩
theorem SRow.keep {w w' : World} {n₀ base : Nat} {v : Value} {qs : List SQ} (h : SRow w n₀ base v qs) (hb : Below w.heap.size w w') (hn : n₀ ≤ w.heap.size) : SRow w' n₀ base v qs :=
  ⟨own_keep h.own fun b _ hl => hb.block b hl, fun q hq => (h.inn q hq).keep hb hn⟩
theorem SRow.form {w : World} {n₀ base : Nat} {v : Value} {qs : List SQ} (h : SRow w n₀ base v qs) : ∃ a c, v = .slice a qs.length c := by
  rcases h.own.2 with ⟨rfl, e⟩ | ⟨g, cap, cur, rfl, _⟩
  · exact ⟨none, 0, by rw [e]⟩
  · exact ⟨_, _, rfl⟩
theorem SRow.lt {w : World} {n₀ base : Nat} {v : Value} {qs : List SQ} (h : SRow w n₀ base v qs) : ∀ k, v.ownBlock = some k → base ≤ k ∧ k < w.heap.size := fun k hk => World.ownsRow.lt h.own k hk
theorem SRow.src {w : World} {n₀ base : Nat} {a : Option Addr} {n c : Nat} {qs : List SQ} (h : SRow w n₀ base (.slice a n c) qs) (hn : n₀ ≤ w.heap.size) : SrIn w 0 w.heap.size a (qs.map (·.1)) := by
  intro j hj
  have hj' : j < qs.length := by simpa using hj
  have h0 := h.own
  rcases h.own.2 with ⟨e, e2⟩ | ⟨g, cap, cur, e, q1, q2, _⟩
  · omega
  · simp only [Value.slice.injEq] at e
    obtain ⟨rfl, rfl, rfl⟩ := e
    have hc : ∀ k, k < 7 → w.cell? ⟨g, j * 7 + k, none⟩ = (cellS qs[j])[k]? := fun k hk => by
      rw [World.ownsRow.cellAt h0 _ (by omega), flatS_at qs j hj' k hk]
    have e : (qs.map (·.1))[j] = qs[j].1 := by simp
    rw [e]
    refine ⟨g, 0, qs[j].2.1, qs[j].2.2, rfl, (Array.getElem?_eq_some_iff.1 q2).1, ?_, ?_, ?_, ?_, ?_, ?_, ?_, (h.inn _ (List.getElem_mem hj')).mono hn (Nat.le_refl _)⟩
    · rw [Nat.zero_add]; exact hc 0 (by omega)
    · rw [Nat.zero_add]; exact hc 1 (by omega)
    · rw [Nat.zero_add]; exact hc 2 (by omega)
    · rw [Nat.zero_add]; exact hc 3 (by omega)
    · rw [Nat.zero_add]; exact hc 4 (by omega)
    · rw [Nat.zero_add]; exact hc 5 (by omega)
    · rw [Nat.zero_add]; exact hc 6 (by omega)
theorem wpList_append_src {w : World} {ops : Array Oper} {rest : List Oper} {o : Oper} {a : Act} {Q : Exit → Act → World → Prop} (hgd : o.guard = none) (s x : Operand)
    (ho : o.op = .call { callee := .builtin .append, args := #[s, x], argTypes := #[23, 23] })
    (n₀ base : Nat) (v : Value) (qs : List SQ) (hs : a.eval s = v) (hrow : SRow w n₀ base v qs) (q : SQ) (hq : PIn w 0 n₀ q.1.2 q.2.1) (hx : a.eval x = .slice (some ⟨w.heap.size, 0, none⟩) 1 1)
    (hlen : qs.length ≤ 1024) (hn : n₀ ≤ base) (hbase : base ≤ w.heap.size)
    (h : ∀ v' w', SRow w' n₀ base v' (qs ++ [q]) → Below base w w' → (∀ b, b < w.heap.size → v.ownBlock ≠ some b → w'.heap[b]? = w.heap[b]?) → (v'.ownBlock = v.ownBlock ∨ ∃ k, v'.ownBlock = some k ∧ w.heap.size ≤ k) → wpList Tryd.prog ops Q rest (a.put o.dst v') w') :
    wpList Tryd.prog ops Q (o :: rest) a (w.alloc (.cells (cellS q).toArray 52)) := by
  obtain ⟨i, hi, hzz⟩ := Option.map_eq_some_iff.1 info52
  simp only [Prod.mk.injEq] at hzz
  obtain ⟨hz, hsz, hby⟩ := hzz
  have hBk := Blk.new w 52 (cellS q).toArray
  have hbA := (Below.refl w.heap.size w).alloc (Nat.le_refl _) (.cells (cellS q).toArray 52)
  have hsA := alloc_size w (.cells (cellS q).toArray 52)
  have hownA := World.ownsRow.alloc hrow.own (.cells (cellS q).toArray 52)
  generalize hW : w.alloc (.cells (cellS q).toArray 52) = wA at *
  refine wpList_append_own_at (P := Tryd.prog) _ hgd s x 23 ho base 52 i _ 7 80 Tryd.underlying23 hi hz hsz hby rfl (by decide) v qs.length (qs.flatMap cellS) hs hownA ⟨w.heap.size, 0, none⟩ 1 1 (cellS q) hx rfl ?_ ?_ ?_ ?_ (by omega) ?_
  · intro j u hu
    rw [Go.WideShapes.add_plain, Nat.zero_add, hBk.cell j, ← hu]
    simp
  · intro u hu
    simp only [cellS, List.mem_cons, List.not_mem_nil, or_false] at hu
    rcases hu with h | h | h | h | h | h | h <;> (subst h; rfl)
  · unfold maxLen; omega
  · omega
  · intro v' w' h1 h2 h3 hat
    have hb' : Below base w w' := (hbA.mono (by omega)).grown h2 (by rw [hsA]; omega) (fun k hk => (World.ownsRow.lt hownA k hk).1)
    refine h v' w' ⟨by rw [List.flatMap_append, List.length_append]; simpa using h1, fun p hp => ?_⟩ hb' (fun b hb hne => (h2.block b (by rw [hsA]; omega) (fun e => hne e.symm)).trans (hbA.block b hb)) ?_
    · rcases List.mem_append.1 hp with hp | hp
      · exact (hrow.inn p hp).keep hb' hn
      · rw [List.mem_singleton] at hp; subst hp; exact hq.keep hb' hn
    · rcases hat with e | e
      · exact .inl e
      · exact .inr ⟨_, e, by rw [hsA]; omega⟩
/-- A second row stays where the first one grows. -/
theorem SRow.beside {w w' : World} {n₀ base : Nat} {v u : Value} {qs : List SQ} (h : SRow w n₀ base v qs) (hb : Below base w w') (hn : n₀ ≤ base) (hk : ∀ b, b < w.heap.size → u.ownBlock ≠ some b → w'.heap[b]? = w.heap[b]?) (hne : ∀ k, v.ownBlock = some k → u.ownBlock ≠ some k) : SRow w' n₀ base v qs := by
  refine ⟨?_, fun q hq => (h.inn q hq).keep hb hn⟩
  obtain ⟨h1, h2⟩ := h.own
  refine ⟨h1, ?_⟩
  rcases h2 with h2 | ⟨k, cap, cur, h3, h4, h5, h6⟩
  · exact .inl h2
  · exact .inr ⟨k, cap, cur, h3, h4, by rw [hk k (Array.getElem?_eq_some_iff.1 h5).1 (hne k (by rw [h3]; rfl))]; exact h5, h6⟩
end Go.Proofs.YtnjfkijekohdkaaDoor
