/- Contracts and lemmas (nothing is claimed here). -/
import Derived.Test.YtfeppbiodbhpcaaDoorEntE
import Derived.Test.YtfeppbiodbhpcaaDoorRefU
import Derived.Deep.Upon
namespace Go.Proofs.YtfeppbiodbhpcaaDoor
open Go.RowKit Go.Vf Go.Maps

def mkE : El := ⟨false, -77, 0, 0⟩
/-- A slice of entries whose lists have a mark behind them. -/
structure LntO (w : World) (base : Nat) (v : Value) (vs : List (Value × Value)) (E : List Ent) : Prop where
  row : w.ownsRow base 37 2 v E.length (flatV vs)
  len : vs.length = E.length
  ent : ∀ j (h1 : j < vs.length) (h2 : j < E.length), ∃ bp cp be ce, vs[j] = (.slice (some ⟨bp, 0, none⟩) E[j].1.length cp, .slice (some ⟨be, 0, none⟩) E[j].2.length ce) ∧ IOwn w base (.slice (some ⟨bp, 0, none⟩) (E[j].1.length + 1) cp) (E[j].1 ++ [-77]) ∧ EOwn w base (.slice (some ⟨be, 0, none⟩) (E[j].2.length + 1) ce) (E[j].2 ++ [mkE])
theorem LntO.nil (w : World) (base : Nat) : LntO w base (.slice none 0 0) [] [] := ⟨World.ownsRow_nil _ _ _ _, rfl, fun j h => by simp at h⟩
theorem LntO.below {w w' : World} {base n : Nat} {v : Value} {vs : List (Value × Value)} {E : List Ent} (h : LntO w base v vs E) (hb : Below n w w') (hn : w.heap.size ≤ n) : LntO w' base v vs E := by
  have q : ∀ {u : Value} {b : Nat} {e : TypeId} {s k : Nat} {xs : List Value}, w.ownsRow b e s u k xs → w'.ownsRow b e s u k xs := fun hu => own_other hu (fun g hg => hb.block g (by have := own_lt hu g hg; omega))
  refine ⟨q h.row, h.len, fun j h1 h2 => ?_⟩
  obtain ⟨bp, cp, be, ce, e1, e2, e3⟩ := h.ent j h1 h2
  exact ⟨bp, cp, be, ce, e1, q e2, q e3⟩
theorem LntO.snoc {w w6 : World} {base : Nat} {v v' : Value} {vs : List (Value × Value)} {E : List Ent} {e : Ent} {o : Obj} {bp cp be ce : Nat} (h : LntO w base v vs E) (hp : IOwn w base (.slice (some ⟨bp, 0, none⟩) (e.1.length + 1) cp) (e.1 ++ [-77])) (he : EOwn w base (.slice (some ⟨be, 0, none⟩) (e.2.length + 1) ce) (e.2 ++ [mkE]))
    (hrow : w6.ownsRow base 37 2 v' (E.length + 1) (flatV vs ++ [.slice (some ⟨bp, 0, none⟩) e.1.length cp, .slice (some ⟨be, 0, none⟩) e.2.length ce])) (hg : (w.alloc o).grownBy w6 v.ownBlock) :
    LntO w6 base v' (vs ++ [(.slice (some ⟨bp, 0, none⟩) e.1.length cp, .slice (some ⟨be, 0, none⟩) e.2.length ce)]) (E ++ [e]) := by
  have q : ∀ {u : Value} {b : Nat} {t : TypeId} {s k : Nat} {xs : List Value}, w.ownsRow b t s u k xs → 37 ≠ t → w6.ownsRow b t s u k xs := fun hu ht => own_grown (hu.alloc o) hg (apt_types (h.row.alloc o) (hu.alloc o) ht)
  refine ⟨?_, by simp [h.len], fun j h1 h2 => ?_⟩
  · rw [flatV_snoc, List.length_append]; exact hrow
  · by_cases hj : j < vs.length
    · have hj2 : j < E.length := h.len ▸ hj
      obtain ⟨bp', cp', be', ce', e1, e2, e3⟩ := h.ent j hj hj2
      refine ⟨bp', cp', be', ce', ?_, ?_, ?_⟩
      · rw [List.getElem_append_left hj, List.getElem_append_left hj2]; exact e1
      · rw [List.getElem_append_left hj2]; exact q e2 (by decide)
      · rw [List.getElem_append_left hj2]; exact q e3 (by decide)
    · have e1 : j = vs.length := by simp at h1; omega
      have e2 : j = E.length := by rw [e1, h.len]
      refine ⟨bp, cp, be, ce, ?_, ?_, ?_⟩
      · rw [List.getElem_append_right (by omega), List.getElem_append_right (by omega)]
        simp only [e1, h.len, Nat.sub_self, List.getElem_cons_zero]
      · rw [List.getElem_append_right (by omega)]
        simp only [e2, Nat.sub_self, List.getElem_cons_zero]
        exact q hp (by decide)
      · rw [List.getElem_append_right (by omega)]
        simp only [e2, Nat.sub_self, List.getElem_cons_zero]
        exact q he (by decide)
theorem wpList_app {w : World} {ops : Array Oper} {rest : List Oper} {o : Oper} {a : Act} {Q : Exit → Act → World → Prop} (hgd : o.guard = none) (s x : Operand) (t : TypeId) (ho : o.op = .call { callee := .builtin .append, args := #[s, x], argTypes := #[t, t] }) {v u : Value} (hs : a.eval s = v) (hx : a.eval x = u)
    (h : ∃ v' w', (Builtin.append_ #[t, t] o.type #[v, u]).run Tryd.prog w = .ok v' w' ∧ wpList Tryd.prog ops Q rest (a.put o.dst v') w') : wpList Tryd.prog ops Q (o :: rest) a w := by
  obtain ⟨v', w', hr, h2⟩ := h
  refine wpList_plain hgd fun K hK => ?_
  unfold Oper.wp execOp
  simp only [ho, resolve, invoke, builtin, Sem.run_bind, Sem.run_pure, Result.andThen_ok, List.map_toArray, List.map_cons, List.map_nil, hs, hx, hr]
  exact hK _ _ h2
theorem app_ints {w : World} {base n₀ : Nat} {v xv : Value} {zs ys : List Int} (hown : IOwn w base v zs) (hx : Ints n₀ w xv ys) (hlen : zs.length + ys.length ≤ 17592186044416) (hbase : base ≤ w.heap.size) (ty : TypeId) :
    ∃ v' w', (Builtin.append_ #[34, 34] ty #[v, xv]).run Tryd.prog w = .ok v' w' ∧ IOwn w' base v' (zs ++ ys) ∧ w.grownBy w' v.ownBlock ∧ Below base w w' := by
  obtain ⟨i, hi, hz, hsz, hby⟩ := info_parts info3
  by_cases h0 : ys = []
  · subst h0
    obtain ⟨va, vc, rfl⟩ := hown.val
    have hle : zs.length ≤ vc := by
      rcases hown.form with ⟨e, e2⟩ | ⟨g, c, e, _, _, h, _⟩
      · simp only [Value.slice.injEq] at e; omega
      · simp only [Value.slice.injEq] at e; omega
    obtain ⟨pa, pc, rfl⟩ : ∃ pa pc, xv = .slice pa 0 pc := by
      rcases hx with ⟨a, c, e, _⟩ | ⟨b, off, c, e, _⟩
      · exact ⟨a, c, e⟩
      · exact ⟨_, c, e⟩
    refine ⟨_, w, ?_, by rw [List.append_nil]; exact hown, ⟨rfl, rfl, rfl, Nat.le_refl _, fun _ _ _ => rfl⟩, Below.refl _ _⟩
    cases pa with
    | none => exact run_append_nothing (P := Tryd.prog) w 34 34 ty 3 i Tryd.underlying34 hi va zs.length vc hle _ (Src.ofNil w Tryd.underlying34 pc)
    | some ad => exact run_append_nothing (P := Tryd.prog) w 34 34 ty 3 i Tryd.underlying34 hi va zs.length vc hle _ (Src.ofSlice w Tryd.underlying34 ad 0 pc [] (by simp) (by simp) (by simp))
  · rcases hx with ⟨a, c, _, e⟩ | ⟨b, off, c, rfl, hb, hc⟩
    · exact absurd e h0
    · obtain ⟨v', w', h1, h2, h3, _, _⟩ := run_append_own_at (P := Tryd.prog) w base 34 ty 3 i (.int .i64 0) 1 8 Tryd.underlying34 hi hz hsz hby rfl (by decide) v zs.length (zs.map (Value.int .i64)) hown ⟨b, off, none⟩ ys.length c (ys.map (Value.int .i64)) (by simp)
        (by
          intro j u hu
          have hj : j < ys.length := by have := (List.getElem?_eq_some_iff.1 hu).1; simpa using this
          have h4 := hc j hj
          rw [show (⟨b, off, none⟩ : Addr).add j = ⟨b, off + j, none⟩ from by simp [Addr.add], h4]
          simp [List.getElem?_map, List.getElem?_eq_getElem hj] at hu
          simp [List.getElem?_eq_getElem hj, hu])
        (by intro u hu; obtain ⟨z, _, rfl⟩ := List.mem_map.1 hu; rfl) (by unfold maxLen; omega) (by omega) hbase
      refine ⟨v', w', h1, ?_, h3, (Below.refl base w).grown h3 hbase (fun k hk => (own_ge hown hk).1)⟩
      unfold IOwn
      rw [List.length_append, List.map_append]
      exact h2
theorem app_els {w : World} {base n₀ : Nat} {v xv : Value} {zs ys : List El} (hown : EOwn w base v zs) (hx : Els n₀ w xv ys) (hlen : zs.length + ys.length ≤ 1099511627776) (hbase : base ≤ w.heap.size) (ty : TypeId) :
    ∃ v' w', (Builtin.append_ #[35, 35] ty #[v, xv]).run Tryd.prog w = .ok v' w' ∧ EOwn w' base v' (zs ++ ys) ∧ w.grownBy w' v.ownBlock ∧ Below base w w' := by
  obtain ⟨i, hi, hz, hsz, hby⟩ := info_parts info49
  by_cases h0 : ys = []
  · subst h0
    obtain ⟨va, vc, rfl⟩ := row_val hown
    have hle : zs.length ≤ vc := by
      rcases hown.2 with ⟨e, e2⟩ | ⟨g, c, cur, e, _, _, h, _⟩
      · simp only [Value.slice.injEq] at e; omega
      · simp only [Value.slice.injEq] at e; omega
    obtain ⟨pa, pc, rfl⟩ : ∃ pa pc, xv = .slice pa 0 pc := by
      rcases hx with ⟨a, c, e, _⟩ | ⟨b, off, c, e, _⟩
      · exact ⟨a, c, e⟩
      · exact ⟨_, c, e⟩
    refine ⟨_, w, ?_, by rw [List.append_nil]; exact hown, ⟨rfl, rfl, rfl, Nat.le_refl _, fun _ _ _ => rfl⟩, Below.refl _ _⟩
    cases pa with
    | none => exact run_append_nothing (P := Tryd.prog) w 35 35 ty 49 i Tryd.underlying35 hi va zs.length vc hle _ (Src.ofNil w Tryd.underlying35 pc)
    | some ad => exact run_append_nothing (P := Tryd.prog) w 35 35 ty 49 i Tryd.underlying35 hi va zs.length vc hle _ (Src.ofSlice w Tryd.underlying35 ad 0 pc [] (by simp) (by simp) (by simp))
  · rcases hx with ⟨a, c, _, e⟩ | ⟨b, off, c, rfl, hb, hc⟩
    · exact absurd e h0
    · obtain ⟨v', w', h1, h2, h3, _, _⟩ := run_append_own_at (P := Tryd.prog) w base 35 ty 49 i _ 4 _ Tryd.underlying35 hi hz hsz hby rfl (by decide) v zs.length (elsV zs) hown ⟨b, off, none⟩ ys.length c (elsV ys) (elsV_len ys)
        (by
          intro j u hu
          rw [show (⟨b, off, none⟩ : Addr).add j = ⟨b, off + j, none⟩ from by simp [Addr.add]]
          exact els_flat (.inr ⟨b, off, c, rfl, hb, hc⟩) j u hu)
        (elsV_one ys) (by unfold maxLen; omega) (by omega) hbase
      refine ⟨v', w', h1, ?_, h3, (Below.refl base w).grown h3 hbase (fun k hk => (own_ge hown hk).1)⟩
      unfold EOwn
      rw [List.length_append, elsV_append]
      exact h2
theorem app_ents {w : World} {base n : Nat} {v : Value} {xs : List Value} (hown : w.ownsRow base 37 2 v n xs) (pv ev : Value) (hp : pv.oneCell' = true) (he : ev.oneCell' = true) (hlen : n ≤ 1099511627776) (hbase : base ≤ w.heap.size) (ty : TypeId) :
    ∃ v' w', (Builtin.append_ #[27, 27] ty #[v, .slice (some ⟨w.heap.size, 0, none⟩) 1 1]).run Tryd.prog (w.alloc (.cells #[pv, ev] 37)) = .ok v' w' ∧ w'.ownsRow base 37 2 v' (n + 1) (xs ++ [pv, ev]) ∧ (w.alloc (.cells #[pv, ev] 37)).grownBy w' v.ownBlock ∧ Below base w w' := by
  obtain ⟨i0, hi, hz0, hz1, hz2⟩ := info_parts info37
  have hnb := Blk.new w 37 #[pv, ev]
  have hsz : (w.alloc (.cells #[pv, ev] 37)).heap.size = w.heap.size + 1 := by simp
  obtain ⟨v', wF, hrun, hown', hg, _, _⟩ := run_append_own_at (P := Tryd.prog) (w.alloc (.cells #[pv, ev] 37)) base 27 ty 37 i0 _ 2 48 Tryd.underlying27 hi hz0 hz1 hz2 rfl (by decide) _ _ _ (hown.alloc _) ⟨w.heap.size, 0, none⟩ 1 1 [pv, ev] rfl
    (by
      intro j u hu
      match j, hu with
      | 0, hu => simp at hu; subst hu; exact hnb.cell 0
      | 1, hu => simp at hu; subst hu; exact hnb.cell 1)
    (by intro u hu; simp at hu; rcases hu with rfl | rfl <;> assumption) (by unfold maxLen; omega) (by omega) (by omega)
  exact ⟨v', wF, hrun, hown', hg, ((Below.refl base w).alloc hbase _).grown hg (by omega) (fun k hk => (own_ge hown hk).1)⟩
theorem own_types {w w' : World} {o : Obj} {base n b s k : Nat} {t : TypeId} {v u : Value} {xs ys : List Value} (hrow : w.ownsRow base 37 2 v n xs) (hu : w.ownsRow b t s u k ys) (ht : 37 ≠ t) (hg : (w.alloc o).grownBy w' v.ownBlock) : w'.ownsRow b t s u k ys := own_grown (hu.alloc o) hg (apt_types (hrow.alloc o) (hu.alloc o) ht)
theorem ints_new (w : World) (z : Int) : Ints (w.heap.size + 1) (w.alloc (.cells #[.int .i64 z] 3)) (.slice (some ⟨w.heap.size, 0, none⟩) 1 1) [z] := by
  refine .inr ⟨w.heap.size, 0, 1, rfl, Nat.lt_succ_self _, fun j hj => ?_⟩
  obtain rfl : j = 0 := by simpa using hj
  exact (Blk.new w 3 #[.int .i64 z]).cell 0
theorem els_new (w : World) (x : El) : Els (w.heap.size + 1) (w.alloc (.cells #[.bool x.va, .int .i64 x.pr, .int .i64 x.se, .int .i64 x.te] 49)) (.slice (some ⟨w.heap.size, 0, none⟩) 1 1) [x] := by
  have h := Blk.new w 49 #[.bool x.va, .int .i64 x.pr, .int .i64 x.se, .int .i64 x.te]
  refine .inr ⟨w.heap.size, 0, 1, rfl, Nat.lt_succ_self _, fun j hj => ?_⟩
  obtain rfl : j = 0 := by simpa using hj
  exact ⟨h.cell 0, h.cell 1, h.cell 2, h.cell 3⟩
/-- What lent hands back. -/
structure LntF (w : World) (g cap : Nat) (vs : List (Value × Value)) (l : List Ent) : Prop where
  lt : g < w.heap.size
  len : vs.length = l.length
  cap : l.length + 1 ≤ cap
  cell : ∀ j (h : j < vs.length), w.cell? ⟨g, j * 2, none⟩ = some vs[j].1 ∧ w.cell? ⟨g, j * 2 + 1, none⟩ = some vs[j].2
  mark : ∃ pa pc, w.cell? ⟨g, l.length * 2, none⟩ = some (.slice pa 1 pc)
  ent : ∀ j (h1 : j < vs.length) (h2 : j < l.length), ∃ bp cp be ce, vs[j] = (.slice (some ⟨bp, 0, none⟩) l[j].1.length cp, .slice (some ⟨be, 0, none⟩) l[j].2.length ce) ∧ IOwn w 0 (.slice (some ⟨bp, 0, none⟩) (l[j].1.length + 1) cp) (l[j].1 ++ [-77]) ∧ EOwn w 0 (.slice (some ⟨be, 0, none⟩) (l[j].2.length + 1) ce) (l[j].2 ++ [mkE])
theorem LntF.below {w w' : World} {g cap : Nat} {vs : List (Value × Value)} {l : List Ent} (h : LntF w g cap vs l) (hb : Below w.heap.size w w') : LntF w' g cap vs l := by
  have q : ∀ {u : Value} {b : Nat} {e : TypeId} {s k : Nat} {xs : List Value}, w.ownsRow b e s u k xs → w'.ownsRow b e s u k xs := fun hu => own_after hu hb
  refine ⟨Nat.lt_of_lt_of_le h.lt hb.size, h.len, h.cap, fun j hj => ?_, ?_, fun j h1 h2 => ?_⟩
  · exact ⟨(hb.cell (p := ⟨g, _, none⟩) h.lt).trans (h.cell j hj).1, (hb.cell (p := ⟨g, _, none⟩) h.lt).trans (h.cell j hj).2⟩
  · obtain ⟨pa, pc, hm⟩ := h.mark
    exact ⟨pa, pc, (hb.cell (p := ⟨g, _, none⟩) h.lt).trans hm⟩
  · obtain ⟨bp, cp, be, ce, e1, e2, e3⟩ := h.ent j h1 h2
    exact ⟨bp, cp, be, ce, e1, q e2, q e3⟩
/-- An owned row of ints in memory, cell by cell. -/
theorem iown_at {w : World} {base bp n cp : Nat} {zs : List Int} (h : IOwn w base (.slice (some ⟨bp, 0, none⟩) n cp) zs) : n = zs.length ∧ n ≤ cp ∧ bp < w.heap.size ∧ ∀ j (hj : j < zs.length), w.cell? ⟨bp, j, none⟩ = some (.int .i64 zs[j]) := by
  rcases h.form with ⟨e, _⟩ | ⟨g, c, e, _, h1, h2, h3, _⟩
  · cases e
  · simp only [Value.slice.injEq, Option.some.injEq, Addr.mk.injEq] at e
    obtain ⟨⟨rfl, _, _⟩, rfl, rfl⟩ := e
    refine ⟨rfl, h2, h1, fun j hj => ?_⟩
    rw [h3 j hj]
    simp [hj]
theorem eown_at {w : World} {base be n ce : Nat} {zs : List El} (h : EOwn w base (.slice (some ⟨be, 0, none⟩) n ce) zs) : n = zs.length ∧ n ≤ ce ∧ be < w.heap.size ∧ ∀ j (hj : j < zs.length), w.cell? ⟨be, j * 4, none⟩ = some (.bool zs[j].va) ∧ w.cell? ⟨be, j * 4 + 1, none⟩ = some (.int .i64 zs[j].pr) ∧ w.cell? ⟨be, j * 4 + 2, none⟩ = some (.int .i64 zs[j].se) ∧ w.cell? ⟨be, j * 4 + 3, none⟩ = some (.int .i64 zs[j].te) := by
  rcases h.2 with ⟨e, _⟩ | ⟨g, c, cur, e, _, hg, h2, _, _, ht⟩
  · cases e
  · simp only [Value.slice.injEq, Option.some.injEq, Addr.mk.injEq] at e
    obtain ⟨⟨rfl, _, _⟩, rfl, rfl⟩ := e
    have hB : Blk w be 49 cur := hg
    have q : ∀ j, j < zs.length * 4 → w.cell? ⟨be, j, none⟩ = (elsV zs)[j]? := fun j hj => by
      rw [hB.cell, ← ht, List.getElem?_take_of_lt hj, Array.getElem?_toList]
    refine ⟨rfl, h2, hB.lt, fun j hj => ?_⟩
    obtain ⟨b0, b1, b2, b3⟩ := elsV_at zs j hj
    exact ⟨(q _ (by omega)).trans b0, (q _ (by omega)).trans b1, (q _ (by omega)).trans b2, (q _ (by omega)).trans b3⟩
/-- What was lent can be read as the entries. -/
theorem LntF.inn {w : World} {g cap : Nat} {vs : List (Value × Value)} {l : List Ent} (h : LntF w g cap vs l) : EIn w.heap.size w (.slice (some ⟨g, 0, none⟩) l.length cap) l := by
  refine .inr ⟨g, 0, cap, rfl, h.lt, fun j hj => ?_⟩
  have hj1 : j < vs.length := by rw [h.len]; exact hj
  obtain ⟨bp, cp, be, ce, e1, e2, e3⟩ := h.ent j hj1 hj
  obtain ⟨c0, c1⟩ := h.cell j hj1
  rw [e1] at c0 c1
  obtain ⟨_, _, i1, i2⟩ := iown_at e2
  obtain ⟨_, _, i3, i4⟩ := eown_at e3
  refine ⟨_, _, _, _, by rw [Nat.zero_add]; exact c0, by rw [Nat.zero_add]; exact c1, .inr ⟨bp, 0, cp, rfl, i1, fun k hk => ?_⟩, .inr ⟨be, 0, ce, rfl, i3, fun k hk => ?_⟩⟩
  · have := i2 k (by simp; omega)
    rw [List.getElem_append_left hk] at this
    rw [Nat.zero_add, this]
    simp [hk]
  · have := i4 k (by simp; omega)
    rw [List.getElem_append_left hk] at this
    simpa using this
set_option maxHeartbeats 8000000 in
set_option maxRecDepth 20000 in
theorem plent_any (l : List Ent) (hll : l.length ≤ 1048576) (hpl : ∀ x ∈ l, x.1.length ≤ 1048576 ∧ x.2.length ≤ 1048576) (v : Value) (n₀ : Nat) (w : World) (hn₀ : n₀ ≤ w.heap.size) (hin : EIn n₀ w v l) :
    Calls Tryd.prog 15 #[v] w fun e w' => ∃ g cap vs, e = .returned (.slice (some ⟨g, 0, none⟩) l.length cap) ∧ LntF w' g cap vs l ∧ Below w.heap.size w w' := by
  obtain ⟨a, cap, rfl⟩ := hin.val
  have HIN : Hid (EIn n₀ w (.slice a l.length cap) l) := hin
  have HPL : Hid (∀ x ∈ l, x.1.length ≤ 1048576 ∧ x.2.length ≤ 1048576) := hpl
  obtain ⟨ln, hln⟩ : ∃ ln, l.length = ln := ⟨_, rfl⟩
  have HLN : Hid (l.length = ln) := hln
  have HPO : Hid (∀ (e : Ending) (w' : World), (∃ g cap vs, e = .returned (.slice (some ⟨g, 0, none⟩) ln cap) ∧ LntF w' g cap vs l ∧ Below w.heap.size w w') → ∃ g cap vs, e = .returned (.slice (some ⟨g, 0, none⟩) l.length cap) ∧ LntF w' g cap vs l ∧ Below w.heap.size w w') := fun e w' h => by rw [HLN.out]; exact h
  refine Calls.mono ?_ HPO.out
  rw [hln] at hll ⊢
  clear hin hpl hln HPO
  go_enter Tryd.func15, Tryd.ntmps15
  go_wp2
  go_loopw [3, 4] (fun u i wr => ∃ (k : Nat) (vs : List (Value × Value)), k ≤ ln ∧ i = .int .i64 (k : Int) ∧ Hid (LntO wr w.heap.size u vs (l.take k)) ∧ Hid (Below w.heap.size w wr)) (fun _ i _ => ln - (intOf i).toNat)
  case atStart => exact ⟨0, [], Nat.zero_le _, rfl, by rw [List.take_zero]; exact LntO.nil _ _, Below.refl _ _⟩
  case round =>
    obtain ⟨k, vs, hk, rfl, HO, HB⟩ := hrel
    have hzr := HB.out.size
    by_cases hlt : k < ln
    · have hkl : k < l.length := by rw [HLN.out]; exact hlt
      have tl : decide ((k : Int) < (ln : Int)) = true := decide_eq_true (by omega)
      obtain ⟨b, off, hab, pa, pc, ea, ec, c0, c1, hip, hie⟩ := HIN.out.at hkl
      subst hab
      have hbn : b < n₀ := by
        rcases HIN.out with ⟨a', cap', e, e2⟩ | ⟨b', off', cap', e, hb', _⟩
        · rw [e2] at hkl; exact absurd hkl (by simp)
        · cases e; exact hb'
      have hpp := HPL.out _ (List.getElem_mem hkl)
      have htk : l.take (k + 1) = l.take k ++ [l[k]] := List.take_succ_eq_append_getElem hkl
      obtain ⟨x, hx⟩ : ∃ x, x = l[k] := ⟨_, rfl⟩
      rw [← hx] at c0 c1 hip hie hpp htk
      clear hx
      obtain ⟨p, es⟩ := x
      dsimp only at c0 c1 hip hie hpp
      have HTK : Hid (l.take (k + 1) = l.take k ++ [(p, es)]) := htk
      have HIP : Hid (∀ x, Below w.heap.size w x → Ints n₀ x (.slice pa p.length pc) p) := fun x hx => hip.below hx hn₀
      have HIE : Hid (∀ x, Below w.heap.size w x → Els n₀ x (.slice ea es.length ec) es) := fun x hx => hie.below hx hn₀
      have HC0 : Hid (∀ x, Below w.heap.size w x → x.cell? ⟨b, off + k * 2, none⟩ = some (.slice pa p.length pc) ∧ x.cell? ⟨b, off + k * 2 + 1, none⟩ = some (.slice ea es.length ec)) := fun x hx => ⟨(hx.cell (p := ⟨b, _, none⟩) (show b < w.heap.size by omega)).trans c0, (hx.cell (p := ⟨b, _, none⟩) (show b < w.heap.size by omega)).trans c1⟩
      have HPP : Hid (p.length ≤ 1048576 ∧ es.length ≤ 1048576) := hpp
      obtain ⟨pn, hpn⟩ : ∃ pn, p.length = pn := ⟨_, rfl⟩
      obtain ⟨en, hen⟩ : ∃ en, es.length = en := ⟨_, rfl⟩
      have HPN : Hid (p.length = pn) := hpn
      have HEN : Hid (es.length = en) := hen
      rw [hpn] at HC0 HIP
      rw [hen] at HC0 HIE
      clear c0 c1 hip hie hpp htk hpn hen
      obtain ⟨z0, z1⟩ := HC0.out wr HB.out
      go_upto_region 7 with (first | (at_builtin; refine wpList_app rfl _ _ 34 rfl rfl rfl ?_; obtain ⟨v1, w1, hr1, ho1, _, hb1⟩ := app_ints (IOwn.nil wr wr.heap.size) (HIP.out wr HB.out) (by have := HPP.out.1; simp; omega) (Nat.le_refl _) 34; refine ⟨v1, w1, hr1, ?_⟩))
      rw [List.nil_append] at ho1
      have HO1 : Hid (IOwn w1 wr.heap.size v1 p) := ho1
      have HB1 : Hid (Below wr.heap.size wr w1) := hb1
      clear hr1 ho1 hb1 z0 z1
      go_upto_region 8 with (first | (at_builtin; refine wpList_app rfl _ _ 34 rfl rfl rfl ?_; obtain ⟨v2, w2, hr2, ho2, _, hb2⟩ := app_ints (w := w1.alloc (.cells #[.int .i64 (-77)] 3)) (HO1.out.alloc _) (ints_new w1 (-77)) (by have := HPP.out.1; simp; omega) (Nat.le_trans HB1.out.size (by simp)) 34; refine ⟨v2, w2, hr2, ?_⟩))
      have hb12 : Below wr.heap.size wr w2 := (HB1.out.alloc HB1.out.size _).trans hb2
      obtain ⟨bp, cp, rfl⟩ : ∃ bp cp, v2 = .slice (some ⟨bp, 0, none⟩) (pn + 1) cp := by
        rcases ho2.form with ⟨_, e⟩ | ⟨g, c, e, _⟩
        · simp at e
        · refine ⟨g, c, ?_⟩
          rw [e, List.length_append, HPN.out]
          rfl
      have HO2 : Hid (IOwn w2 wr.heap.size (.slice (some ⟨bp, 0, none⟩) (pn + 1) cp) (p ++ [-77])) := ho2
      have hcp : pn + 1 ≤ cp := (iown_at ho2).2.1
      have HB2 : Hid (Below wr.heap.size wr w2) := hb12
      have HW2 : Hid (Below w.heap.size w w2) := HB.out.trans (hb12.mono hzr)
      clear hr2 ho2 hb2 hb12 HO1 HB1
      obtain ⟨z0, z1⟩ := HC0.out w2 HW2.out
      go_upto_region 10 with (first | (at_builtin; refine wpList_app rfl _ _ 35 rfl rfl rfl ?_; obtain ⟨v3, w3, hr3, ho3, _, hb3⟩ := app_els (EOwn.nil w2 w2.heap.size) (HIE.out w2 HW2.out) (by have := HPP.out.2; simp; omega) (Nat.le_refl _) 35; refine ⟨v3, w3, hr3, ?_⟩))
      rw [List.nil_append] at ho3
      have HO3 : Hid (EOwn w3 w2.heap.size v3 es) := ho3
      have HB3 : Hid (Below w2.heap.size w2 w3) := hb3
      clear hr3 ho3 hb3 z0 z1
      go_upto_region 11 with (first | (at_builtin; refine wpList_app rfl _ _ 35 rfl rfl rfl ?_; obtain ⟨v4, w4, hr4, ho4, _, hb4⟩ := app_els (w := w3.alloc (.cells #[.bool false, .int .i64 (-77), .int .i64 0, .int .i64 0] 49)) (HO3.out.alloc _) (els_new w3 mkE) (by have := HPP.out.2; simp; omega) (Nat.le_trans HB3.out.size (by simp)) 35; refine ⟨v4, w4, hr4, ?_⟩))
      have hb34 : Below w2.heap.size w2 w4 := (HB3.out.alloc HB3.out.size _).trans hb4
      obtain ⟨be, ce, rfl⟩ : ∃ be ce, v4 = .slice (some ⟨be, 0, none⟩) (en + 1) ce := by
        rcases EOwn.form ho4 with ⟨_, e⟩ | ⟨g, c, e, _⟩
        · simp at e
        · refine ⟨g, c, ?_⟩
          rw [e, List.length_append, HEN.out]
          rfl
      have hce : en + 1 ≤ ce := (eown_at ho4).2.1
      have HW4 : Hid (Below w.heap.size w w4) := HW2.out.trans (hb34.mono HW2.out.size)
      have HB4 : Hid (Below wr.heap.size wr w4) := HB2.out.trans (hb34.mono HB2.out.size)
      have HOP : Hid (IOwn w4.drew w.heap.size (.slice (some ⟨bp, 0, none⟩) (pn + 1) cp) (p ++ [-77])) := ownsRow_mono (own_after HO2.out hb34.drew) hzr
      have HOE : Hid (EOwn w4.drew w.heap.size (.slice (some ⟨be, 0, none⟩) (en + 1) ce) (es ++ [mkE])) := ownsRow_mono ho4 HW2.out.size
      have HOL : Hid (LntO w4.drew w.heap.size u3 vs (l.take k)) := HO.out.below HB4.out.drew (Nat.le_refl _)
      have hlk : (l.take k).length = k := by rw [List.length_take, HLN.out]; omega
      obtain ⟨v5, w5, hr5, ho5, hg5, hb5⟩ := app_ents HOL.out.row (.slice (some ⟨bp, 0, none⟩) pn cp) (.slice (some ⟨be, 0, none⟩) en ce) rfl rfl (by omega) (show w.heap.size ≤ w4.drew.heap.size from HW4.out.size) 27
      have hsn := HOL.out.snoc (e := (p, es)) (by rw [HPN.out]; exact HOP.out) (by rw [HEN.out]; exact HOE.out) (by rw [HPN.out, HEN.out]; exact ho5) hg5
      have HOF : Hid (LntO w5 w.heap.size v5 (vs ++ [(.slice (some ⟨bp, 0, none⟩) pn cp, .slice (some ⟨be, 0, none⟩) en ce)]) (l.take (k + 1))) := by
        show LntO _ _ _ _ _
        rw [HTK.out]
        rw [HPN.out, HEN.out] at hsn
        exact hsn
      have HBF : Hid (Below w.heap.size w w5) := HW4.out.drew.trans hb5
      obtain ⟨oa, oc, hu3⟩ := row_val HOL.out.row
      rw [hlk] at hu3
      subst hu3
      have hcp2 : pn ≤ cp := by omega
      have hce2 : en ≤ ce := by omega
      clear ho4 hb4 hr4 hb34 HOP HOE HOL ho5 hg5 hb5 hsn HO3 HB3 HO2 HB2 HO hlk
      go_upto_region 11 with fail
      refine wp_region_held_drew (S := fun x => Below w.heap.size w x) (by kernel_rfl) (HW4.out.drew) (fun hHelde => ?_)
      refine wpAnyH_takeD (i := 0) (some 34) (v := ?ve0) rfl rfl (by kernel_rfl) (by kernel_rfl) (by kernel_rfl) (fun _ _ _ h => h) (Or.inl ⟨by kernel_rfl, ?hye0⟩) (by assumption) ?reste0
      case hye0 => (intro x hSx; (try dsimp only at hSx); go_simp; first | done | with_reducible rfl)
      try simp only [Act.put, List.setIfInBounds_toArray, List.set_cons_zero, List.set_cons_succ]
      refine wpAnyH_takeD (i := 1) (some 35) (v := ?ve1) rfl rfl (by kernel_rfl) (by kernel_rfl) (by kernel_rfl) (fun _ _ _ h => h) (Or.inl ⟨by kernel_rfl, ?hye1⟩) (by assumption) ?reste1
      case hye1 => (intro x hSx; (try dsimp only at hSx); go_simp; first | done | with_reducible rfl)
      try simp only [Act.put, List.setIfInBounds_toArray, List.set_cons_zero, List.set_cons_succ]
      refine wpAnyH_takeD (i := 2) (some 36) (v := ?ve2) rfl rfl (by kernel_rfl) (by kernel_rfl) (by kernel_rfl) (fun _ _ _ h => h) (Or.inl ⟨by kernel_rfl, ?hye2⟩) (by assumption) ?reste2
      case hye2 => (intro x hSx; (try dsimp only at hSx); go_simp; first | done | with_reducible rfl)
      try simp only [Act.put, List.setIfInBounds_toArray, List.set_cons_zero, List.set_cons_succ]
      refine wpAnyH_takeD (i := 3) (some 37) (v := ?ve3) rfl rfl (by kernel_rfl) (by kernel_rfl) (by kernel_rfl) (fun _ _ _ h => h) (Or.inl ⟨by kernel_rfl, ?hye3⟩) (by assumption) ?reste3
      case hye3 => (intro x hSx; (try dsimp only at hSx); go_simp; first | done | with_reducible rfl)
      try simp only [Act.put, List.setIfInBounds_toArray, List.set_cons_zero, List.set_cons_succ]
      refine wpAnyH_takeD (i := 4) (some 38) (v := ?ve4) rfl rfl (by kernel_rfl) (by kernel_rfl) (by kernel_rfl) (fun _ _ _ h => h) (Or.inl ⟨by kernel_rfl, ?hye4⟩) (by assumption) ?reste4
      case hye4 => (intro x hSx; (try dsimp only at hSx); go_simp; first | done | with_reducible rfl)
      try simp only [Act.put, List.setIfInBounds_toArray, List.set_cons_zero, List.set_cons_succ]
      refine wpAnyH_takeD (i := 5) (some 39) (v := ?ve5) rfl rfl (by kernel_rfl) (by kernel_rfl) (by kernel_rfl) (fun _ _ _ h => h) (Or.inl ⟨by kernel_rfl, ?hye5⟩) (by assumption) ?reste5
      case hye5 => (intro x hSx; (try dsimp only at hSx); go_simp; first | done | with_reducible rfl)
      try simp only [Act.put, List.setIfInBounds_toArray, List.set_cons_zero, List.set_cons_succ]
      refine wpAnyH_takeD (i := 6) (some 40) (v := ?ve6) rfl rfl (by kernel_rfl) (by kernel_rfl) (by kernel_rfl) (fun _ _ _ h => h) (Or.inl ⟨by kernel_rfl, ?hye6⟩) (by assumption) ?reste6
      case hye6 => (intro x hSx; (try dsimp only at hSx); obtain ⟨z0, z1⟩ := HC0.out x hSx; go_simp; first | done | with_reducible rfl)
      try simp only [Act.put, List.setIfInBounds_toArray, List.set_cons_zero, List.set_cons_succ]
      refine wpAnyH_takeD (i := 7) (some 41) (v := ?ve7) rfl rfl (by kernel_rfl) (by kernel_rfl) (by kernel_rfl) (fun _ _ _ h => h) (Or.inl ⟨by kernel_rfl, ?hye7⟩) (by assumption) ?reste7
      case hye7 => (intro x hSx; (try dsimp only at hSx); go_simp; first | done | with_reducible rfl)
      try simp only [Act.put, List.setIfInBounds_toArray, List.set_cons_zero, List.set_cons_succ]
      refine wpAnyH_takeD (i := 8) (some 42) (v := ?ve8) rfl rfl (by kernel_rfl) (by kernel_rfl) (by kernel_rfl) (fun _ _ _ h => h) (Or.inl ⟨by kernel_rfl, ?hye8⟩) (by assumption) ?reste8
      case hye8 => (intro x hSx; (try dsimp only at hSx); go_simp; first | done | with_reducible rfl)
      try simp only [Act.put, List.setIfInBounds_toArray, List.set_cons_zero, List.set_cons_succ]
      refine wpAnyH_takeD (i := 9) (some 43) (v := ?ve9) rfl rfl (by kernel_rfl) (by kernel_rfl) (by kernel_rfl) (fun _ _ _ h => h) (Or.inl ⟨by kernel_rfl, ?hye9⟩) (by assumption) ?reste9
      case hye9 => (intro x hSx; (try dsimp only at hSx); go_simp; first | done | with_reducible rfl)
      try simp only [Act.put, List.setIfInBounds_toArray, List.set_cons_zero, List.set_cons_succ]
      refine wpAnyH_takeD (i := 10) (some 44) (v := ?ve10) rfl rfl (by kernel_rfl) (by kernel_rfl) (by kernel_rfl) (fun _ _ _ h => h) (Or.inl ⟨by kernel_rfl, ?hye10⟩) (by assumption) ?reste10
      case hye10 => (intro x hSx; (try dsimp only at hSx); go_simp; first | done | with_reducible rfl)
      try simp only [Act.put, List.setIfInBounds_toArray, List.set_cons_zero, List.set_cons_succ]
      refine wpAnyH_takeD (i := 11) (some 45) (v := ?ve11) rfl rfl (by kernel_rfl) (by kernel_rfl) (by kernel_rfl) (fun _ _ _ h => h) (Or.inl ⟨by kernel_rfl, ?hye11⟩) (by assumption) ?reste11
      case hye11 => (intro x hSx; (try dsimp only at hSx); go_simp; first | done | with_reducible rfl)
      try simp only [Act.put, List.setIfInBounds_toArray, List.set_cons_zero, List.set_cons_succ]
      refine wpAnyH_takeD (i := 12) (some 46) (v := ?ve12) rfl rfl (by kernel_rfl) (by kernel_rfl) (by kernel_rfl) (fun _ _ _ h => h) (Or.inl ⟨by kernel_rfl, ?hye12⟩) (by assumption) ?reste12
      case hye12 => (intro x hSx; (try dsimp only at hSx); go_simp; first | done | with_reducible rfl)
      try simp only [Act.put, List.setIfInBounds_toArray, List.set_cons_zero, List.set_cons_succ]
      refine wpAnyH_takeD (i := 13) (some 47) (v := ?ve13) rfl rfl (by kernel_rfl) (by kernel_rfl) (by kernel_rfl) (fun _ _ _ h => h) (Or.inl ⟨by kernel_rfl, ?hye13⟩) (by assumption) ?reste13
      case hye13 => (intro x hSx; (try dsimp only at hSx); go_simp; first | done | with_reducible rfl)
      try simp only [Act.put, List.setIfInBounds_toArray, List.set_cons_zero, List.set_cons_succ]
      refine wpAnyH_takeD (i := 14) (some 48) (v := ?ve14) rfl rfl (by kernel_rfl) (by kernel_rfl) (by kernel_rfl) (fun _ _ _ h => h) (Or.inl ⟨by kernel_rfl, ?hye14⟩) (by assumption) ?reste14
      case hye14 => (intro x hSx; (try dsimp only at hSx); obtain ⟨z0, z1⟩ := HC0.out x hSx; go_simp; first | done | with_reducible rfl)
      try simp only [Act.put, List.setIfInBounds_toArray, List.set_cons_zero, List.set_cons_succ]
      refine wpAnyH_takeD (i := 15) (some 49) (v := ?ve15) rfl rfl (by kernel_rfl) (by kernel_rfl) (by kernel_rfl) (fun _ _ _ h => h) (Or.inl ⟨by kernel_rfl, ?hye15⟩) (by assumption) ?reste15
      case hye15 => (intro x hSx; (try dsimp only at hSx); go_simp; first | done | with_reducible rfl)
      try simp only [Act.put, List.setIfInBounds_toArray, List.set_cons_zero, List.set_cons_succ]
      refine wpAnyH_takeD (i := 16) (some 50) (v := ?ve16) rfl rfl (by kernel_rfl) (by kernel_rfl) (by kernel_rfl) (fun _ _ _ h => h) (Or.inl ⟨by kernel_rfl, ?hye16⟩) (by assumption) ?reste16
      case hye16 => (intro x hSx; (try dsimp only at hSx); go_simp; first | done | with_reducible rfl)
      try simp only [Act.put, List.setIfInBounds_toArray, List.set_cons_zero, List.set_cons_succ]
      refine wpAnyH_takeD (i := 17) (some 51) (v := ?ve17) rfl rfl (by kernel_rfl) (by kernel_rfl) (by kernel_rfl) (fun _ _ _ h => h) (Or.inl ⟨by kernel_rfl, ?hye17⟩) (by assumption) ?reste17
      case hye17 => (intro x hSx; (try dsimp only at hSx); go_simp; first | done | with_reducible rfl)
      try simp only [Act.put, List.setIfInBounds_toArray, List.set_cons_zero, List.set_cons_succ]
      refine wpAnyH_ready (rs := [18]) (by kernel_rfl) (by simp) ?_
      refine AllReadyH.cons rfl (fun K hK => ?_) AllReadyH.nil
      go_simp
      refine hK.out _ _ (hHelde.alloc hHelde.size _) (fun hHelde18 => ?_)
      clear hK K
      try simp only [Act.put, List.setIfInBounds_toArray, List.set_cons_zero, List.set_cons_succ]
      refine wpAnyH_ready (rs := [19]) (by kernel_rfl) (by simp) ?_
      refine AllReadyH.cons rfl (fun K hK => ?_) AllReadyH.nil
      rw [if_pos (by kernel_rfl)]
      refine wp_append (.tmp 34) (.tmp 52) rfl rfl rfl hr5 (hK.out _ _ HBF.out (fun hHelde19 => ?_))
      clear hK K
      try simp only [Act.put, List.setIfInBounds_toArray]
      refine wpAnyH_takeD (i := 20) (some 3) (v := ?ve20) rfl rfl (by kernel_rfl) (by kernel_rfl) (by kernel_rfl) (fun _ _ _ h => h) (Or.inl ⟨by kernel_rfl, ?hye20⟩) (by assumption) ?reste20
      case hye20 => (intro x hSx; (try dsimp only at hSx); go_simp; first | done | with_reducible rfl)
      try simp only [Act.put]
      refine wpAnyH_done (by kernel_rfl) ?_ _
      have HZ : Hid (Below w.heap.size w w5) := HBF.out
      clear HC0 HIP HIE HPP
      go_wp2
      go_roundw
      case rel => exact ⟨k + 1, _, by omega, by simp, HOF, HBF⟩
      case measure => simp only [intOf]; omega
    · obtain rfl : k = ln := by omega
      have tl : decide ((k : Int) < (k : Int)) = false := decide_eq_false (by omega)
      have htl : l.take k = l := List.take_of_length_le (by rw [HLN.out]; exact Nat.le_refl _)
      have HOL : Hid (LntO wr w.heap.size u3 vs l) := by
        show LntO _ _ _ _ _
        have := HO.out
        rwa [htl] at this
      have HOA : Hid (LntO (wr.alloc (.cells #[.int .i64 (-77)] 3)) w.heap.size u3 vs l) := HOL.out.below ((Below.refl wr.heap.size wr).alloc (Nat.le_refl _) _) (Nat.le_refl _)
      obtain ⟨v5, w5, hr5, ho5, hg5, hb5⟩ := app_ents HOA.out.row (.slice (some ⟨wr.heap.size, 0, none⟩) 1 1) (.slice none 0 0) rfl rfl (by rw [HLN.out]; omega) (Nat.le_trans hzr (by simp)) 27
      obtain ⟨oa, oc, hu3⟩ := row_val HOL.out.row
      rw [HLN.out] at hu3
      subst hu3
      have hA : Hid ((wr.alloc (.cells #[.int .i64 (-77)] 3)).heap.size = wr.heap.size + 1) := by show _ = _; simp
      have HR5 : Hid _ := hr5
      clear hr5
      have hent : ∀ j (h1 : j < vs.length) (h2 : j < l.length), ∃ bp cp be ce, vs[j] = (.slice (some ⟨bp, 0, none⟩) l[j].1.length cp, .slice (some ⟨be, 0, none⟩) l[j].2.length ce) ∧ IOwn w5 0 (.slice (some ⟨bp, 0, none⟩) (l[j].1.length + 1) cp) (l[j].1 ++ [-77]) ∧ EOwn w5 0 (.slice (some ⟨be, 0, none⟩) (l[j].2.length + 1) ce) (l[j].2 ++ [mkE]) := fun j h1 h2 => by
        obtain ⟨bp, cp, be, ce, e1, e2, e3⟩ := HOA.out.ent j h1 h2
        exact ⟨bp, cp, be, ce, e1, ownsRow_mono (own_types HOA.out.row e2 (by decide) hg5) (Nat.zero_le _), ownsRow_mono (own_types HOA.out.row e3 (by decide) hg5) (Nat.zero_le _)⟩
      have hvl : vs.length = l.length := HOA.out.len
      have hBF : Below w.heap.size w w5 := (HB.out.alloc hzr _).trans hb5
      obtain ⟨g, cap5, rfl, hLF⟩ : ∃ g cap5, v5 = .slice (some ⟨g, 0, none⟩) (k + 1) cap5 ∧ LntF w5 g cap5 vs l := by
        rcases ho5.2 with ⟨_, h0⟩ | ⟨g, cap5, cur, e, hb, hg, hn, hm, hs, ht⟩
        · exact absurd h0 (by omega)
        · have hB : Blk w5 g 37 cur := hg
          have q : ∀ i, i < (l.length + 1) * 2 → w5.cell? ⟨g, i, none⟩ = (flatV vs ++ [.slice (some ⟨wr.heap.size, 0, none⟩) 1 1, .slice none 0 0])[i]? := fun i hi => by
            rw [hB.cell, ← ht, List.getElem?_take_of_lt hi, Array.getElem?_toList]
          have hfl := flatV_len vs
          refine ⟨g, cap5, by rw [e, HLN.out], ⟨hB.lt, hvl, hn, fun j hj => ?_, ?_, hent⟩⟩
          · obtain ⟨f1, f2⟩ := flatV_at vs j hj
            refine ⟨(q _ (by omega)).trans ?_, (q _ (by omega)).trans ?_⟩
            · rw [List.getElem?_append_left (by omega)]; exact f1
            · rw [List.getElem?_append_left (by omega)]; exact f2
          · refine ⟨some ⟨wr.heap.size, 0, none⟩, 1, (q (l.length * 2) (by omega)).trans ?_⟩
            rw [List.getElem?_append_right (by omega), hfl, hvl, Nat.sub_self]
            rfl
      have hcap5 : k ≤ cap5 := by have := hLF.cap; rw [HLN.out] at this; omega
      have HLF : Hid (LntF w5 g cap5 vs l) := hLF
      have HBF : Hid (Below w.heap.size w w5) := hBF
      clear HO htl hLF hBF hent hvl ho5 hg5 hb5 HOA HOL
      go_upto_region 13 with (first | (at_builtin; refine wpList_app rfl _ _ 27 rfl rfl rfl ⟨_, w5, (by have h := HR5.out; rw [hA.out] at h; exact h), ?_⟩))
      go_wp2
      go_ret
      exact ⟨g, cap5, vs, rfl, HLF.out, HBF.out⟩
end Go.Proofs.YtfeppbiodbhpcaaDoor

namespace Go.Proofs.YtfeppbiodbhpcaaDoor
open Go.RowKit Go.Vf Go.Maps

set_option maxHeartbeats 4000000 in
set_option maxRecDepth 20000 in
theorem intsCopy_any (v : Value) (zs : List Int) (hl : zs.length ≤ 17592186044416) (n₀ : Nat) (w : World) (hn₀ : n₀ ≤ w.heap.size) (hin : Ints n₀ w v zs) :
    Calls Tryd.prog 34 #[v] w fun e w' => ∃ v', e = .returned v' ∧ IOwn w' w.heap.size v' zs ∧ Below w.heap.size w w' := by
  obtain ⟨a, cap, rfl⟩ := ints_val hin
  have HIN : Hid (Ints n₀ w (.slice a zs.length cap) zs) := hin
  obtain ⟨n, hn⟩ : ∃ n, zs.length = n := ⟨_, rfl⟩
  have HN : Hid (zs.length = n) := hn
  rw [hn] at hl ⊢
  clear hin hn
  go_enter Tryd.func34, Tryd.ntmps34
  go_wp2
  go_loopw [3, 4] (fun u i wr => ∃ k : Nat, k ≤ n ∧ i = .int .i64 (k : Int) ∧ Hid (IOwn wr w.heap.size u (zs.take k)) ∧ Hid (Below w.heap.size w wr)) (fun _ i _ => n - (intOf i).toNat)
  case atStart => exact ⟨0, Nat.zero_le _, rfl, by rw [List.take_zero]; exact IOwn.nil _ _, Below.refl _ _⟩
  case round =>
    obtain ⟨k, hk, rfl, HO, HB⟩ := hrel
    have hzr := HB.out.size
    by_cases hlt : k < n
    · have hkl : k < zs.length := by rw [HN.out]; exact hlt
      have tl : decide ((k : Int) < (n : Int)) = true := decide_eq_true (by omega)
      obtain ⟨b, off, hab, hbn, hc⟩ : ∃ b off, a = some ⟨b, off, none⟩ ∧ b < n₀ ∧ w.cell? ⟨b, off + k, none⟩ = some (.int .i64 zs[k]) := by
        rcases HIN.out with ⟨_, _, _, e⟩ | ⟨b, off, c, e, hb, hc⟩
        · rw [e] at hkl; exact absurd hkl (by simp)
        · refine ⟨b, off, (Value.slice.inj e).1, hb, ?_⟩
          rw [hc k hkl]
          simp [hkl]
      subst hab
      have hcw : wr.cell? ⟨b, off + k, none⟩ = some (.int .i64 zs[k]) := (HB.out.cell (p := ⟨b, _, none⟩) (show b < w.heap.size by omega)).trans hc
      have htk : zs.take (k + 1) = zs.take k ++ [zs[k]] := List.take_succ_eq_append_getElem hkl
      have htl : (zs.take k).length = k := by rw [List.length_take]; omega
      generalize zs[k] = z at hcw htk
      have HTK : Hid (zs.take (k + 1) = zs.take k ++ [z]) := htk
      have HTL : Hid ((zs.take k).length = k) := htl
      clear hc htk htl
      go_wp2_with (at_builtin; refine wpList_app rfl _ _ 34 rfl rfl rfl ?_; obtain ⟨v1, w1, hr1, ho1, _, hb1⟩ := app_ints (w := wr.alloc (.cells #[.int .i64 z] 3)) (HO.out.alloc _) (ints_new wr z) (by rw [HTL.out]; simp; omega) (Nat.le_trans hzr (by simp)) 34; refine ⟨v1, w1, hr1, ?_⟩)
      have HO1 : Hid (IOwn w1 w.heap.size v1 (zs.take (k + 1))) := by rw [HTK.out]; exact ho1
      have HB1 : Hid (Below w.heap.size w w1) := (HB.out.alloc hzr _).trans hb1
      clear hr1 ho1 hb1 HO
      go_roundw
      case rel => exact ⟨k + 1, by omega, by simp, HO1, HB1⟩
      case measure => simp only [intOf]; omega
    · obtain rfl : k = n := by omega
      have tl : decide ((k : Int) < (k : Int)) = false := decide_eq_false (by omega)
      have HO1 : Hid (IOwn wr w.heap.size u3 zs) := by
        have := HO.out
        rw [List.take_of_length_le (by rw [HN.out]; exact Nat.le_refl _)] at this
        exact this
      clear HO
      go_wp2
      go_ret
      exact ⟨_, rfl, HO1.out, HB.out⟩
end Go.Proofs.YtfeppbiodbhpcaaDoor
