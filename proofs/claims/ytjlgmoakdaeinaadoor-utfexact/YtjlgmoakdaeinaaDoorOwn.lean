/- Lists of ints that a call owns, many of them: lemmas on stores and appends (of the verifier's own; nothing is claimed here). -/
import Derived.Test.YtjlgmoakdaeinaaDoorRefB
import Derived.Maps.AppendAt
namespace Go.Proofs.YtjlgmoakdaeinaaDoor
open Go.RowKit Go.Vf

theorem info25 : (Tryd.prog.info? 25).map (fun i => (i.zero, i.size, i.bytes)) = some (some (.slice none 0 0), 1, 24) := by kernel_rfl

/-- Rows of unlike elements lie in unlike blocks. -/
theorem own_ne {w : World} {b1 b2 : Nat} {e1 e2 : TypeId} {s1 s2 k1 k2 : Nat} {v1 v2 : Value} {x1 x2 : List Value} (h1 : w.ownsRow b1 e1 s1 v1 k1 x1) (h2 : w.ownsRow b2 e2 s2 v2 k2 x2) (hne : e1 ≠ e2) {b : Nat} (hb : v1.ownBlock = some b) : v2.ownBlock ≠ some b := fun hb2 => by
  obtain ⟨_, c1, f1, g1⟩ := own_ge h1 hb
  obtain ⟨_, c2, f2, g2⟩ := own_ge h2 hb2
  rw [g1] at g2
  simp only [Option.some.injEq, Obj.cells.injEq] at g2
  exact hne g2.2.1

/-- A store into a list of the call's own. -/
theorem IOwn.set {w : World} {base g len cap : Nat} {zs : List Int} (h : IOwn w base (.slice (some ⟨g, 0, none⟩) len cap) zs) (k : Nat) (x : Int) : IOwn (w.setCell ⟨g, k, none⟩ (.int .i64 x)) base (.slice (some ⟨g, 0, none⟩) len cap) (zs.set k x) := by
  obtain ⟨h1, h2⟩ := h
  rcases h2 with ⟨h2, _⟩ | ⟨g', cap', cur, e1, hb, hg, hc1, hc2, hc3, hc4⟩
  · cases h2
  · simp only [Value.slice.injEq, Option.some.injEq, Addr.mk.injEq] at e1
    obtain ⟨⟨rfl, _⟩, rfl, rfl⟩ := e1
    refine ⟨by simp, .inr ⟨g, cap, cur.setIfInBounds k (.int .i64 x), by simp, hb, (show Blk w g 3 cur from hg).set k _, by simpa using hc1, hc2, by simpa using hc3, ?_⟩⟩
    rw [Array.toList_setIfInBounds, List.length_set, List.take_set, hc4, List.map_set]

theorem IOwn.other {w : World} {base g k : Nat} {v : Value} {zs : List Int} (h : IOwn w base v zs) (hne : v.ownBlock ≠ some g) (x : Value) : IOwn (w.setCell ⟨g, k, none⟩ x) base v zs := ownsRow_setCell_other h (a := ⟨g, k, none⟩) hne x

/-- An append of one int to a list of the call's own: where what comes lies, and what is left as it was. -/
theorem append_int_at (w : World) (base : Nat) (ty : TypeId) (v : Value) (zs : List Int) (n : Int) (hown : IOwn w base v zs) (a : Addr) (c : Nat) (hcell : w.cell? a = some (.int .i64 n)) (hlen : zs.length ≤ 1099511627776) (hbase : base ≤ w.heap.size) :
    ∃ v' w', (Builtin.append_ #[25, 25] ty #[v, .slice (some a) 1 c]).run Tryd.prog w = .ok v' w' ∧ IOwn w' base v' (zs ++ [n]) ∧ w.grownBy w' v.ownBlock ∧ (v'.ownBlock = v.ownBlock ∨ (v'.ownBlock = some w.heap.size ∧ w.grownBy w' none)) := by
  obtain ⟨i, hi, hz, hsz, hby⟩ := info_parts info3
  have hnews : ∀ j u, [Value.int .i64 n][j]? = some u → w.cell? (a.add j) = some u := fun j u hj => by
    match j, hj with
    | 0, hj => simp at hj; subst hj; rw [show a.add 0 = a by cases a; simp [Addr.add]]; exact hcell
  have h1 : ∀ u ∈ [Value.int .i64 n], u.oneCell' = true := fun u hu => by simp at hu; subst hu; rfl
  obtain ⟨v', w', hr, ho, hg, _, hat⟩ := run_append_own_at (P := Tryd.prog) w base 25 ty 3 i (.int .i64 0) 1 8 Tryd.underlying25 hi hz hsz hby rfl (by decide) v zs.length (zs.map (Value.int .i64)) hown a 1 c [.int .i64 n] rfl hnews h1 (by unfold maxLen; omega) (by omega) hbase
  have ho' : IOwn w' base v' (zs ++ [n]) := by unfold IOwn; rw [List.map_append, List.length_append]; exact ho
  refine ⟨v', w', hr, ho', hg, ?_⟩
  rcases hat with hat | hat
  · exact .inl hat
  · rcases hown.2 with ⟨rfl, _⟩ | ⟨g, cap, cur, rfl, hbg, hgg, hnc, hcm, hcs, htake⟩
    · exact .inr ⟨hat, hg⟩
    · by_cases hroom : zs.length + 1 ≤ cap
      · have hfit : zs.length * i.size + [Value.int .i64 n].length ≤ cur.size := by rw [hsz, hcs]; simp; omega
        have hr2 := run_append_room (P := Tryd.prog) w 25 ty 3 i Tryd.underlying25 hi g zs.length cap cur hgg a 1 c [.int .i64 n] (by rw [hsz]; rfl) hnews h1 hroom hfit
        rw [hr] at hr2
        have e := (Result.ok.inj hr2).1
        rw [e] at hat
        exact .inl (by rw [e]; rfl)
      · have holds : ∀ j u, (zs.map (Value.int .i64))[j]? = some u → w.cell? ((⟨g, 0, none⟩ : Addr).add j) = some u := World.ownsRow.cells (g := g) hown rfl
        have hr2 := run_append_grow (P := Tryd.prog) w 25 ty 3 i (.int .i64 0) Tryd.underlying25 hi hz ⟨g, 0, none⟩ zs.length cap (zs.map (Value.int .i64)) (by rw [hsz]; simp) holds a 1 c [.int .i64 n] (by rw [hsz]; rfl) hnews (by omega) (by omega) (growslice_fits (by omega) (by rw [hby]; omega))
        rw [hr] at hr2
        have e := (Result.ok.inj hr2).2
        refine .inr ⟨hat, ?_⟩
        rw [e]
        exact ⟨rfl, rfl, rfl, by simp, fun k hk _ => Below.heap_alloc w.drew _ k hk⟩

/-- .. for the walk, the new int having been laid in a block. -/
theorem wpList_append_at {w : World} {ops : Array Oper} {rest : List Oper} {o : Oper} {a : Act} {Q : Exit → Act → World → Prop} (hgd : o.guard = none) (s x : Operand)
    (ho : o.op = .call { callee := .builtin .append, args := #[s, x], argTypes := #[25, 25] })
    (base : Nat) (v : Value) (zs : List Int) (hs : a.eval s = v) (hown : IOwn w base v zs) (n : Int) (ad : Addr) (c : Nat) (hx : a.eval x = .slice (some ad) 1 c) (hcell : w.cell? ad = some (.int .i64 n))
    (hlen : zs.length ≤ 1099511627776) (hbase : base ≤ w.heap.size)
    (h : ∀ v' w', IOwn w' base v' (zs ++ [n]) → w.grownBy w' v.ownBlock → (v'.ownBlock = v.ownBlock ∨ (v'.ownBlock = some w.heap.size ∧ w.grownBy w' none)) → wpList Tryd.prog ops Q rest (a.put o.dst v') w') :
    wpList Tryd.prog ops Q (o :: rest) a w := by
  refine wpList_plain hgd fun K hK => ?_
  obtain ⟨v', w', hr, h2, h3, h4⟩ := append_int_at w base o.type v zs n hown ad c hcell hlen hbase
  unfold Oper.wp execOp
  simp only [ho, resolve, invoke, builtin, Sem.run_bind, Sem.run_pure, Result.andThen_ok, List.map_toArray, List.map_cons, List.map_nil, hs, hx, hr]
  exact hK _ _ (h v' w' h2 h3 h4)

/-- A list of lists that the call owns. -/
def LOwn (w : World) (base : Nat) (T : Value) (vs : List Value) : Prop := w.ownsRow base 25 1 T vs.length vs

theorem LOwn.nil (w : World) (base : Nat) : LOwn w base (.slice none 0 0) [] := World.ownsRow_nil _ _ _ _

theorem LOwn.form {w : World} {base : Nat} {T : Value} {vs : List Value} (h : LOwn w base T vs) :
    (T = .slice none 0 0 ∧ vs = []) ∨ ∃ g cap, T = .slice (some ⟨g, 0, none⟩) vs.length cap ∧ base ≤ g ∧ g < w.heap.size ∧ (∀ j (hj : j < vs.length), w.cell? ⟨g, j, none⟩ = some vs[j]) := by
  obtain ⟨h1, h2⟩ := h
  rcases h2 with ⟨rfl, hn⟩ | ⟨g, cap, cur, rfl, hb, hh, hc1, hc2, hc3, hc4⟩
  · exact .inl ⟨rfl, List.eq_nil_of_length_eq_zero hn⟩
  · refine .inr ⟨g, cap, rfl, hb, (Array.getElem?_eq_some_iff.1 hh).1, fun j hj => ?_⟩
    have hx : vs[j]? = some vs[j] := List.getElem?_eq_getElem hj
    have hx2 : (cur.toList.take (vs.length * 1))[j]? = some vs[j] := by rw [hc4]; exact hx
    rw [List.getElem?_take_of_lt (by omega)] at hx2
    simp only [World.cell?, hh]
    simpa using hx2

/-- 'told = append(told, a)', a having been laid in a new block. -/
theorem wpList_append_list {w : World} {ops : Array Oper} {rest : List Oper} {o : Oper} {a : Act} {Q : Exit → Act → World → Prop} (hgd : o.guard = none) (s x : Operand)
    (ho : o.op = .call { callee := .builtin .append, args := #[s, x], argTypes := #[28, 28] })
    (base : Nat) (T : Value) (vs : List Value) (hs : a.eval s = T) (hown : LOwn w base T vs) (va : Option Addr) (vl vc : Nat) (c : Nat) (hx : a.eval x = .slice (some ⟨w.heap.size, 0, none⟩) 1 c)
    (hlen : vs.length ≤ 1099511627776) (hbase : base ≤ w.heap.size)
    (h : ∀ T' w', LOwn w' base T' (vs ++ [.slice va vl vc]) → w.grownBy w' T.ownBlock → (T'.ownBlock = T.ownBlock ∨ ∃ g, T'.ownBlock = some g ∧ w.heap.size ≤ g) → wpList Tryd.prog ops Q rest (a.put o.dst T') w') :
    wpList Tryd.prog ops Q (o :: rest) a (w.alloc (.cells #[.slice va vl vc] 25)) := by
  obtain ⟨i, hi, hz, hsz, hby⟩ := info_parts info25
  refine wpList_append_own_at (P := Tryd.prog) _ hgd s x 28 ho base 25 i (.slice none 0 0) 1 24 Tryd.underlying28 hi hz hsz hby rfl (by decide) T vs.length vs hs (World.ownsRow.alloc hown _) ⟨w.heap.size, 0, none⟩ 1 c [.slice va vl vc] hx rfl (cell_one_new _ _ _) ?_ ?_ ?_ ?_ ?_
  · intro u hu; simp at hu; subst hu; rfl
  · unfold maxLen; omega
  · omega
  · simp; omega
  · intro v' w' h1 h2 _ hat
    refine h v' w' ?_ ⟨h2.os.trans rfl, h2.tape.trans rfl, h2.output.trans rfl, by have := h2.size; simp at this; omega, fun k hk hne => (h2.block k (by simp; omega) hne).trans (Below.heap_alloc w _ k hk)⟩ ?_
    · unfold LOwn; rw [List.length_append]; exact h1
    · rcases hat with hat | hat
      · exact .inl hat
      · exact .inr ⟨_, hat, by simp⟩

end Go.Proofs.YtjlgmoakdaeinaaDoor
