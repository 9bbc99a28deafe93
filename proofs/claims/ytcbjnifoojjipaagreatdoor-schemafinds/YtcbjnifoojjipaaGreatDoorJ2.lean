/- Contracts and lemmas (nothing is claimed here). -/
import Derived.Test.YtcbjnifoojjipaaGreatDoorJ1
import Derived.Maps.AppendAt
import Derived.Maps.OwnSet
import Derived.Maps.Ext
namespace Go.Proofs.YtcbjnifoojjipaaGreatDoor
open Go.RowKit Go.Vf
def cellsF (o : Own) (a : Option Addr) (n c : Nat) : Array Value := #[.string o.name, .int .u8 o.kind, .bool o.down, .int .u8 o.nulls, .bool o.bnd, .bool o.ln, .string o.lm, .bool o.hn, .string o.hm, .int .i64 o.most, .int .i64 o.str, .bool o.shf, .bool o.bck, .slice a n c]
def fV (o : Own) (a : Option Addr) (n c : Nat) : Value := .agg #[.string o.name, .int .u8 o.kind, .bool o.down, .int .u8 o.nulls, .bool o.bnd, .bool o.ln, .string o.lm, .bool o.hn, .string o.hm, .int .i64 o.most, .int .i64 o.str, .bool o.shf, .bool o.bck, .slice a n c]
structure RowF (w : World) (b off : Nat) (o : Own) (a : Option Addr) (n c : Nat) : Prop where
  c0 : w.cell? ⟨b, off, none⟩ = some (.string o.name)
  c1 : w.cell? ⟨b, off + 1, none⟩ = some (.int .u8 o.kind)
  c2 : w.cell? ⟨b, off + 2, none⟩ = some (.bool o.down)
  c3 : w.cell? ⟨b, off + 3, none⟩ = some (.int .u8 o.nulls)
  c4 : w.cell? ⟨b, off + 4, none⟩ = some (.bool o.bnd)
  c5 : w.cell? ⟨b, off + 5, none⟩ = some (.bool o.ln)
  c6 : w.cell? ⟨b, off + 6, none⟩ = some (.string o.lm)
  c7 : w.cell? ⟨b, off + 7, none⟩ = some (.bool o.hn)
  c8 : w.cell? ⟨b, off + 8, none⟩ = some (.string o.hm)
  c9 : w.cell? ⟨b, off + 9, none⟩ = some (.int .i64 o.most)
  c10 : w.cell? ⟨b, off + 10, none⟩ = some (.int .i64 o.str)
  c11 : w.cell? ⟨b, off + 11, none⟩ = some (.bool o.shf)
  c12 : w.cell? ⟨b, off + 12, none⟩ = some (.bool o.bck)
  c13 : w.cell? ⟨b, off + 13, none⟩ = some (.slice a n c)
theorem Blk.rowF {w : World} {b : Nat} {t : TypeId} {o : Own} {a : Option Addr} {n c : Nat} (h : Blk w b t (cellsF o a n c)) : RowF w b 0 o a n c :=
  ⟨h.cell 0, h.cell 1, h.cell 2, h.cell 3, h.cell 4, h.cell 5, h.cell 6, h.cell 7, h.cell 8, h.cell 9, h.cell 10, h.cell 11, h.cell 12, h.cell 13⟩
theorem Blk.c14 {w : World} {b : Nat} {t : TypeId} {a0 a1 a2 a3 a4 a5 a6 a7 a8 a9 a10 a11 a12 a13 : Value} (h : Blk w b t #[a0, a1, a2, a3, a4, a5, a6, a7, a8, a9, a10, a11, a12, a13]) :
    (w.cell? ⟨b, 0, none⟩ = some a0 ∧ w.cell? ⟨b, 1, none⟩ = some a1 ∧ w.cell? ⟨b, 2, none⟩ = some a2 ∧ w.cell? ⟨b, 3, none⟩ = some a3 ∧ w.cell? ⟨b, 4, none⟩ = some a4 ∧ w.cell? ⟨b, 5, none⟩ = some a5 ∧ w.cell? ⟨b, 6, none⟩ = some a6 ∧ w.cell? ⟨b, 7, none⟩ = some a7 ∧ w.cell? ⟨b, 8, none⟩ = some a8 ∧ w.cell? ⟨b, 9, none⟩ = some a9 ∧ w.cell? ⟨b, 10, none⟩ = some a10 ∧ w.cell? ⟨b, 11, none⟩ = some a11 ∧ w.cell? ⟨b, 12, none⟩ = some a12 ∧ w.cell? ⟨b, 13, none⟩ = some a13) :=
  ⟨h.cell 0, h.cell 1, h.cell 2, h.cell 3, h.cell 4, h.cell 5, h.cell 6, h.cell 7, h.cell 8, h.cell 9, h.cell 10, h.cell 11, h.cell 12, h.cell 13⟩
inductive FIn (w : World) (lo n₀ : Nat) : List Fld → Option Addr → Prop where
  | nil {a : Option Addr} : FIn w lo n₀ [] a
  | cons {l : List Fld} {b off : Nat} (A : Nat → Option Addr) (C : Nat → Nat) : lo ≤ b → b < n₀ → (∀ j (hj : j < l.length), RowF w b (off + j * 14) l[j].own (A j) l[j].fields.length (C j)) →
      (∀ j (hj : j < l.length), l[j].fields.length ≤ C j) → (∀ j (hj : j < l.length), FIn w lo n₀ l[j].fields (A j)) → FIn w lo n₀ l (some ⟨b, off, none⟩)
theorem RowF.of {w w' : World} {b off : Nat} {o : Own} {a : Option Addr} {n c : Nat} (h : RowF w b off o a n c) (q : ∀ k, w'.cell? ⟨b, k, none⟩ = w.cell? ⟨b, k, none⟩) : RowF w' b off o a n c :=
  ⟨(q _).trans h.c0, (q _).trans h.c1, (q _).trans h.c2, (q _).trans h.c3, (q _).trans h.c4, (q _).trans h.c5, (q _).trans h.c6, (q _).trans h.c7, (q _).trans h.c8, (q _).trans h.c9, (q _).trans h.c10, (q _).trans h.c11, (q _).trans h.c12, (q _).trans h.c13⟩
theorem RowF.below {w w' : World} {b off n' : Nat} {o : Own} {a : Option Addr} {n c : Nat} (h : RowF w b off o a n c) (hb : Below n' w w') (hn : b < n') : RowF w' b off o a n c :=
  h.of fun k => hb.cell (p := ⟨b, k, none⟩) hn
theorem FIn.keep {w w' : World} {lo n₀ n : Nat} {l : List Fld} {a : Option Addr} (h : FIn w lo n₀ l a) (hb : Below n w w') (hn : n₀ ≤ n) : FIn w' lo n₀ l a := by
  induction h with
  | nil => exact .nil
  | cons A C hlo hlt hr hc _ ih => exact .cons A C hlo hlt (fun j hj => (hr j hj).below hb (by omega)) hc ih
theorem FIn.keep' {w w' : World} {lo n₀ : Nat} {l : List Fld} {a : Option Addr} (h : FIn w lo n₀ l a) (hb : ∀ b, lo ≤ b → b < n₀ → w'.heap[b]? = w.heap[b]?) : FIn w' lo n₀ l a := by
  induction h with
  | nil => exact .nil
  | cons A C hlo hlt hr hc _ ih => exact .cons A C hlo hlt (fun j hj => (hr j hj).of fun k => cell_of_block (hb _ hlo hlt) k) hc ih
theorem FIn.mono {w : World} {lo lo' n₀ n : Nat} {l : List Fld} {a : Option Addr} (h : FIn w lo n₀ l a) (hn : n₀ ≤ n) (hlo : lo' ≤ lo) : FIn w lo' n l a := by
  induction h with
  | nil => exact .nil
  | cons A C h1 hlt hr hc _ ih => exact .cons A C (by omega) (by omega) hr hc ih
theorem FIn.atC {w : World} {lo n₀ : Nat} {l : List Fld} {a : Option Addr} (h : FIn w lo n₀ l a) {j : Nat} (hj : j < l.length) : ∃ b off aj cj, a = some ⟨b, off, none⟩ ∧ lo ≤ b ∧ b < n₀ ∧ RowF w b (off + j * 14) l[j].own aj l[j].fields.length cj ∧ FIn w lo n₀ l[j].fields aj ∧ l[j].fields.length ≤ cj := by
  cases h with
  | nil => simp at hj
  | cons A C hlo hlt hr hc hin => exact ⟨_, _, A j, C j, rfl, hlo, hlt, hr j hj, hin j hj, hc j hj⟩
theorem FIn.at {w : World} {lo n₀ : Nat} {l : List Fld} {a : Option Addr} (h : FIn w lo n₀ l a) {j : Nat} (hj : j < l.length) : ∃ b off aj cj, a = some ⟨b, off, none⟩ ∧ lo ≤ b ∧ b < n₀ ∧ RowF w b (off + j * 14) l[j].own aj l[j].fields.length cj ∧ FIn w lo n₀ l[j].fields aj := by
  obtain ⟨b, off, aj, cj, h1, h2, h3, h4, h5, _⟩ := h.atC hj
  exact ⟨b, off, aj, cj, h1, h2, h3, h4, h5⟩
theorem FIn.take {w : World} {lo n₀ : Nat} {l : List Fld} {a : Option Addr} (h : FIn w lo n₀ l a) (m : Nat) : FIn w lo n₀ (l.take m) a := by
  cases h with
  | nil => rw [List.take_nil]; exact .nil
  | cons A C hlo hlt hr hc hin =>
    have e : ∀ j (hj : j < (l.take m).length), (l.take m)[j] = l[j]'(by rw [List.length_take] at hj; omega) := fun j hj => List.getElem_take
    refine .cons A C hlo hlt (fun j hj => ?_) (fun j hj => ?_) (fun j hj => ?_)
    · rw [e j hj]; exact hr j _
    · rw [e j hj]; exact hc j _
    · rw [e j hj]; exact hin j _
structure OwnFits (B : Nat) (o : Own) : Prop where
  k0 : 0 ≤ o.kind
  k1 : o.kind < 256
  n0 : 0 ≤ o.nulls
  n1 : o.nulls < 256
  nm : o.name.size ≤ B
  lm : o.lm.size ≤ B
  hm : o.hm.size ≤ B
  m0 : -9223372036854775808 ≤ o.most
  m1 : o.most < 9223372036854775808
  s0 : -9223372036854775808 ≤ o.str
  s1 : o.str < 9223372036854775808
inductive FitsF (B : Nat) : Fld → Prop where
  | mk {f : Fld} : OwnFits B f.own → f.fields.length ≤ B → (∀ x ∈ f.fields, FitsF B x) → FitsF B f
theorem FitsF.own {B : Nat} {f : Fld} (h : FitsF B f) : OwnFits B f.own := by cases h; assumption
theorem FitsF.len {B : Nat} {f : Fld} (h : FitsF B f) : f.fields.length ≤ B := by cases h; assumption
theorem FitsF.mem {B : Nat} {f : Fld} (h : FitsF B f) {x : Fld} (hx : x ∈ f.fields) : FitsF B x := by cases h with | mk _ _ h => exact h x hx
end Go.Proofs.YtcbjnifoojjipaaGreatDoor
namespace Go.Proofs.YtcbjnifoojjipaaGreatDoor
open Go.RowKit Go.Vf Go.Maps
theorem info3 : (Tryz.prog.info? 3).map (fun i => (i.zero, i.size, i.bytes)) = some (some (.int .i64 0), 1, 8) := by kernel_rfl
def IOwn (w : World) (base : Nat) (v : Value) (zs : List Int) : Prop := w.ownsRow base 3 1 v zs.length (zs.map (Value.int .i64))
theorem ownsRow_mono {w : World} {b b' : Nat} {e : TypeId} {size : Nat} {v : Value} {k : Nat} {xs : List Value} (h : w.ownsRow b e size v k xs) (hb : b' ≤ b) : w.ownsRow b' e size v k xs := by
  obtain ⟨h1, h2⟩ := h
  refine ⟨h1, ?_⟩
  rcases h2 with h2 | ⟨g, cap, cur, e1, e2, e3⟩
  · exact .inl h2
  · exact .inr ⟨g, cap, cur, e1, Nat.le_trans hb e2, e3⟩
theorem IOwn.mono {w : World} {b b' : Nat} {v : Value} {zs : List Int} (h : IOwn w b v zs) (hb : b' ≤ b) : IOwn w b' v zs := ownsRow_mono h hb
theorem IOwn.nil (w : World) (base : Nat) : IOwn w base (.slice none 0 0) [] := World.ownsRow_nil _ _ _ _
theorem own_ge {w : World} {base : Nat} {e : TypeId} {size : Nat} {v : Value} {k : Nat} {xs : List Value} (h : w.ownsRow base e size v k xs) {j : Nat} (hj : v.ownBlock = some j) : base ≤ j ∧ ∃ cs f, w.heap[j]? = some (.cells cs e f) := by
  rcases h.2 with ⟨rfl, _⟩ | ⟨g, cap, cur, rfl, hb, hgb, _⟩
  · simp [Value.ownBlock] at hj
  · obtain rfl : g = j := by simpa [Value.ownBlock] using hj
    exact ⟨hb, _, _, hgb⟩
def Ints (n₀ : Nat) (W : World) (v : Value) (zs : List Int) : Prop :=
  (∃ a cap, v = .slice a 0 cap ∧ zs = []) ∨ ∃ b off cap, v = .slice (some ⟨b, off, none⟩) zs.length cap ∧ b < n₀ ∧ ∀ j, j < zs.length → W.cell? ⟨b, off + j, none⟩ = some (.int .i64 (zs[j]?.getD 0))
theorem Ints.below {n₀ n : Nat} {A B : World} (h : Below n A B) (hn : n₀ ≤ n) {v : Value} {zs : List Int} : Ints n₀ A v zs → Ints n₀ B v zs
  | .inl e => .inl e
  | .inr ⟨b, off, cap, e, hb, hc⟩ => .inr ⟨b, off, cap, e, hb, fun j hj => (h.cell (p := ⟨b, off + j, none⟩) (show b < n by omega)).trans (hc j hj)⟩
theorem Ints.mono {n₀ n : Nat} {A : World} (hn : n₀ ≤ n) {v : Value} {zs : List Int} : Ints n₀ A v zs → Ints n A v zs
  | .inl e => .inl e
  | .inr ⟨b, off, cap, e, hb, hc⟩ => .inr ⟨b, off, cap, e, Nat.lt_of_lt_of_le hb hn, hc⟩
theorem IOwn.form {w : World} {base : Nat} {v : Value} {zs : List Int} (h : IOwn w base v zs) :
    (v = .slice none 0 0 ∧ zs = []) ∨ ∃ g cap, v = .slice (some ⟨g, 0, none⟩) zs.length cap ∧ base ≤ g ∧ g < w.heap.size ∧ zs.length ≤ cap ∧ (∀ j, j < zs.length → w.cell? ⟨g, j, none⟩ = some (.int .i64 (zs[j]?.getD 0))) ∧ (∀ j, w.frozen? ⟨g, j, none⟩ = false) := by
  obtain ⟨h1, h2⟩ := h
  rcases h2 with ⟨rfl, hn⟩ | ⟨g, cap, cur, rfl, hb, hh, hc1, hc2, hc3, hc4⟩
  · exact .inl ⟨rfl, List.eq_nil_of_length_eq_zero hn⟩
  · refine .inr ⟨g, cap, rfl, hb, (Array.getElem?_eq_some_iff.1 hh).1, hc1, fun j hj => ?_, fun j => ?_⟩
    · have hx : (zs.map (Value.int .i64))[j]? = some (.int .i64 (zs[j]?.getD 0)) := by simp [hj]
      rw [← hc4, List.getElem?_take_of_lt (by omega)] at hx
      simp only [World.cell?, hh]
      simpa using hx
    · simp [World.frozen?, hh]
theorem IOwn.ints {w : World} {base : Nat} {v : Value} {zs : List Int} (h : IOwn w base v zs) : Ints w.heap.size w v zs := by
  rcases h.form with h | ⟨g, cap, rfl, hb, hlt, _, hc, _⟩
  · exact .inl ⟨none, 0, h⟩
  · exact .inr ⟨g, 0, cap, rfl, hlt, fun j hj => by rw [Nat.zero_add]; exact hc j hj⟩
theorem IOwn.val {w : World} {base : Nat} {v : Value} {zs : List Int} (h : IOwn w base v zs) : ∃ a cap, v = .slice a zs.length cap := by
  rcases h.form with ⟨rfl, rfl⟩ | ⟨g, cap, rfl, _⟩
  · exact ⟨_, _, rfl⟩
  · exact ⟨_, _, rfl⟩
theorem grown_of_below {w w' : World} (h : Below w.heap.size w w') : w.grownBy w' none := ⟨h.os, h.tape, h.output, h.size, fun k hk _ => h.block k hk⟩
theorem own_after {w w' : World} {base : Nat} {e : TypeId} {size : Nat} {v : Value} {k : Nat} {xs : List Value} (h : w.ownsRow base e size v k xs) (hb : Below w.heap.size w w') : w'.ownsRow base e size v k xs := by
  refine World.ownsRow.kept h (grown_of_below hb) ?_
  cases v.ownBlock with
  | none => exact .inl rfl
  | some j => exact .inr (fun e => by cases e)
theorem wpList_append_ints {w : World} {ops : Array Oper} {rest : List Oper} {o : Oper} {a : Act} {Q : Exit → Act → World → Prop} (hgd : o.guard = none) (s x : Operand)
    (ho : o.op = .call { callee := .builtin .append, args := #[s, x], argTypes := #[29, 29] })
    (base : Nat) (v : Value) (zs : List Int) (hs : a.eval s = v) (hown : IOwn w base v zs) (ys : List Int) (ad : Addr) (c : Nat) (hx : a.eval x = .slice (some ad) ys.length c)
    (hcell : ∀ j, j < ys.length → w.cell? (ad.add j) = some (.int .i64 (ys[j]?.getD 0))) (hlen : zs.length + ys.length ≤ 1099511627776) (hbase : base ≤ w.heap.size)
    (h : ∀ a' c' w', IOwn w' base (.slice a' (zs.length + ys.length) c') (zs ++ ys) → w.grownBy w' v.ownBlock → ((.slice a' (zs.length + ys.length) c' : Value) = .slice none 0 0 ↔ v = .slice none 0 0 ∧ ys.length = 0) → ((Value.slice a' (zs.length + ys.length) c').ownBlock = v.ownBlock ∨ (Value.slice a' (zs.length + ys.length) c').ownBlock = some w.heap.size) → wpList Tryz.prog ops Q rest (a.put o.dst (.slice a' (zs.length + ys.length) c')) w') :
    wpList Tryz.prog ops Q (o :: rest) a w := by
  obtain ⟨i, hi, hz, hsz, hby⟩ := info_parts info3
  refine wpList_append_own_at (P := Tryz.prog) _ hgd s x 29 ho base 3 i (.int .i64 0) 1 8 Tryz.underlying29 hi hz hsz hby rfl (by decide) v zs.length (zs.map (Value.int .i64)) hs hown ad ys.length c (ys.map (Value.int .i64)) hx (by simp) ?_ ?_ ?_ ?_ hbase ?_
  · intro j u hu
    have hj : j < ys.length := by have := (List.getElem?_eq_some_iff.1 hu).1; simpa using this
    rw [hcell j hj]
    simp [List.getElem?_map, List.getElem?_eq_getElem hj] at hu
    simp [List.getElem?_eq_getElem hj, hu]
  · intro u hu
    obtain ⟨y, _, rfl⟩ := List.mem_map.1 hu
    rfl
  · unfold maxLen; omega
  · omega
  · intro v' w' h1 h2 h3 hat
    have h4 : IOwn w' base v' (zs ++ ys) := by
      unfold IOwn
      rw [List.map_append, List.length_append]
      exact h1
    obtain ⟨a', c', hv⟩ := h4.val
    rw [List.length_append] at hv
    subst hv
    exact h a' c' w' h4 h2 h3 hat
theorem IOwn.some_of {w : World} {base : Nat} {a : Option Addr} {n c : Nat} {zs : List Int} (h : IOwn w base (.slice a n c) zs) (hne : 0 < zs.length) : ∃ g, a = some ⟨g, 0, none⟩ ∧ base ≤ g ∧ zs.length ≤ c := by
  rcases h.form with ⟨_, hbad⟩ | ⟨g, cap, he, hg, _, hcap, _⟩
  · rw [hbad] at hne; simp at hne
  · simp only [Value.slice.injEq] at he
    exact ⟨g, he.1, hg, by rw [he.2.2]; exact hcap⟩
theorem own_take {w : World} {base g n cap : Nat} {e : TypeId} {size : Nat} {xs : List Value} (h : w.ownsRow base e size (.slice (some ⟨g, 0, none⟩) n cap) n xs) {m : Nat} (hm : m ≤ n) : w.ownsRow base e size (.slice (some ⟨g, 0, none⟩) m cap) m (xs.take (m * size)) := by
  obtain ⟨h1, h2⟩ := h
  have hms : m * size ≤ n * size := Nat.mul_le_mul_right _ hm
  refine ⟨by rw [List.length_take, h1]; exact Nat.min_eq_left hms, ?_⟩
  rcases h2 with ⟨e, _⟩ | ⟨g', cap', cur, e, hb, hh, hc1, hc2, hc3, hc4⟩
  · cases e
  · cases e
    exact .inr ⟨g, cap, cur, rfl, hb, hh, by omega, hc2, hc3, by rw [← hc4, List.take_take, Nat.min_eq_left hms]⟩
theorem IOwn.take {w : World} {base g n cap : Nat} {zs : List Int} (h : IOwn w base (.slice (some ⟨g, 0, none⟩) n cap) zs) {m : Nat} (hm : m ≤ zs.length) : IOwn w base (.slice (some ⟨g, 0, none⟩) m cap) (zs.take m) := by
  obtain ⟨a, c, hv⟩ := h.val
  have hn : n = zs.length := (Value.slice.inj hv).2.1
  subst hn
  have := own_take h hm
  unfold IOwn
  rw [List.length_take, Nat.min_eq_left hm, List.map_take]
  simpa using this
theorem calls_lost {P : Program} {f : FuncId} {args : Array Value} {w : World} {F : Ending → World → Prop} {e0 : Ending} {R : World → Prop} (v0 : Value) (hc : Calls P f args w fun e w' => e = e0 ∧ R w') (hF : ∀ w', R w' → F e0 w') (_fake : Hid False → F (.returned v0) w) : Calls P f args w F :=
  hc.mono (by rintro e w' ⟨rfl, h⟩; exact hF w' h)
theorem calls_fake {P : Program} {f : FuncId} {args : Array Value} {w : World} {F : Ending → World → Prop} (v0 : Value) (hX : Hid False) (_fake : F (.returned v0) w) : Calls P f args w F := hX.out.elim
theorem own_none (w : World) : IOwn (w.alloc (.cells #[] 3)) w.heap.size (.slice (some ⟨w.heap.size, 0, none⟩) 0 0) [] :=
  ⟨rfl, .inr ⟨w.heap.size, 0, #[], rfl, Nat.le_refl _, heap_alloc_new w _, Nat.le_refl _, by unfold maxLen; omega, rfl, rfl⟩⟩
theorem wpAnyH_takeD {P : Program} {md : Region.Mode} {ops : Array Oper} {Q : Exit → Act → World → Prop} {S : World → Prop} {i : Nat} {oi : Oper} {v : Value} {fuel : Nat} {listed : Array Bool} {a : Act} {w : World} (d : Option Nat) (hi : ops[i]? = some oi) (hd : oi.dst = d)
    (hs : Region.noSelect ops = true) (hf : Region.free md ops listed i = true) (hr : (Region.ready md ops listed).contains i = true)
    (hQ : ∀ c a w, Q (.panic c) (a.put oi.dst v) w → Q (.panic c) a w) (hy : YieldsIf P ops S oi v a) (hS : S w)
    (h : wpAnyH P md ops Q S fuel (listed.setIfInBounds i true) (a.put d v) w) : wpAnyH P md ops Q S (fuel + 1) listed a w := by
  subst hd
  exact wpAnyH_take hi hs hf hr hQ hy hS h
theorem islice_some (g n cap : Nat) (w : World) : (binOp .eql 29 (.slice (some ⟨g, 0, none⟩) n cap) (.slice none 0 0)).run Tryz.prog w = .ok (.bool false) w := by kernel_rfl
theorem islice_nil (w : World) : (binOp .eql 29 (.slice none 0 0) (.slice none 0 0)).run Tryz.prog w = .ok (.bool true) w := by kernel_rfl
set_option maxRecDepth 20000 in
theorem cloneI_any (v : Value) (zs : List Int) (base : Nat) (w : World) (hz : zs.length ≤ 1000000) (h : IOwn w base v zs) :
    Calls Tryz.prog 67 #[v] w fun e w' => ∃ a c, e = .returned (.slice a zs.length c) ∧ IOwn w' w.heap.size (.slice a zs.length c) zs ∧ Below w.heap.size w w' := by
  rcases h.form with ⟨rfl, rfl⟩ | ⟨g, cap, rfl, hg, hlt, hcap, hc, hf⟩
  · have hnil := islice_nil
    clear h
    go_enter Tryz.func67, Tryz.ntmps67
    go_wp2_with fail
    go_ret
    exact ⟨_, _, rfl, IOwn.nil _ _, Below.refl _ _⟩
  · have hnil := islice_some g
    have hb1 := (Below.refl w.heap.size w).alloc (Nat.le_refl _) (.cells #[] 3)
    have hs1 := alloc_size w (.cells #[] 3)
    have hown := own_none w
    have HC : Hid (∀ j, j < zs.length → (w.alloc (.cells #[] 3)).cell? ((⟨g, 0, none⟩ : Addr).add j) = some (.int .i64 (zs[j]?.getD 0))) := fun j hj => by
      rw [show (⟨g, 0, none⟩ : Addr).add j = ⟨g, j, none⟩ by by_cases hj : j = 0 <;> simp [Addr.add, hj]]
      rw [World.cell?_alloc_lt _ _ _ hlt]; exact hc j hj
    have hl : ([] : List Int).length + zs.length ≤ 1099511627776 := by simp; omega
    have HL : Hid (zs.length = zs.length) := rfl
    clear hc hf h
    go_enter Tryz.func67, Tryz.ntmps67
    go_upto_region 3 with fail
    go_wp2_with (first | (at_builtin; refine wpList_append_ints rfl _ _ rfl w.heap.size _ [] rfl hown zs ⟨g, 0, none⟩ _ rfl HC.out hl (by rw [hs1]; omega) ?_; intro a4 c4 w4 hown4 hgr4 hnil4 hat4))
    go_ret
    simp only [List.length_nil, Nat.zero_add, List.nil_append] at hown4 ⊢
    refine ⟨a4, c4, rfl, hown4, ?_⟩
    exact hb1.grown hgr4 (by rw [hs1]; omega) (fun k hk => by cases hk; exact Nat.le_refl _)
end Go.Proofs.YtcbjnifoojjipaaGreatDoor
