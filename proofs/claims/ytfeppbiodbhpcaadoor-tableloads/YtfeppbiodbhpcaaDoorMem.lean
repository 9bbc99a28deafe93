/- Lists of ints in memory; maps by their keys (lemmas; nothing is claimed here). -/
import Derived.Test.YtfeppbiodbhpcaaDoorJ1
import Derived.Test.YtfeppbiodbhpcaaDoorJ2
import Derived.Test.YtfeppbiodbhpcaaDoorProg
import Derived.Deep.RegionHeld
import Derived.Deep.RegionHeldLaw
import Derived.Deep.QuietTactic
import Derived.BigQuiet
import Derived.Maps.AppendAt
import Derived.Maps.OwnSet
import Derived.Maps.Ext
namespace Go.Proofs.YtfeppbiodbhpcaaDoor
open Go.RowKit Go.Vf Go.Maps

theorem info3 : (Tryd.prog.info? 3).map (fun i => (i.zero, i.size, i.bytes)) = some (some (.int .i64 0), 1, 8) := by kernel_rfl

/-- The slice v owns these ints (in blocks from base on). -/
def IOwn (w : World) (base : Nat) (v : Value) (zs : List Int) : Prop := w.ownsRow base 3 1 v zs.length (zs.map (Value.int .i64))

theorem ownsRow_mono {w : World} {b b' : Nat} {e : TypeId} {size : Nat} {v : Value} {k : Nat} {xs : List Value} (h : w.ownsRow b e size v k xs) (hb : b' ≤ b) : w.ownsRow b' e size v k xs := by
  obtain ⟨h1, h2⟩ := h
  refine ⟨h1, ?_⟩
  rcases h2 with h2 | ⟨g, cap, cur, e1, e2, e3⟩
  · exact .inl h2
  · exact .inr ⟨g, cap, cur, e1, Nat.le_trans hb e2, e3⟩
theorem IOwn.mono {w : World} {b b' : Nat} {v : Value} {zs : List Int} (h : IOwn w b v zs) (hb : b' ≤ b) : IOwn w b' v zs := ownsRow_mono h hb
theorem IOwn.nil (w : World) (base : Nat) : IOwn w base (.slice none 0 0) [] := World.ownsRow_nil _ _ _ _

theorem own_ge {w : World} {base : Nat} {e : TypeId} {size : Nat} {v : Value} {k : Nat} {xs : List Value} (h : w.ownsRow base e size v k xs) {j : Nat} (hj : v.ownBlock = some j) : base ≤ j ∧ ∃ cs f, w.heap[j]? = some (.cells cs e f) := by
  rcases h.2 with ⟨rfl, _⟩ | ⟨g, cap, cur, rfl, hb, hgb, _⟩
  · simp [Value.ownBlock] at hj
  · obtain rfl : g = j := by simpa [Value.ownBlock] using hj
    exact ⟨hb, _, _, hgb⟩

/-- A slice of these ints, in a block that lies here. -/
def Ints (n₀ : Nat) (W : World) (v : Value) (zs : List Int) : Prop :=
  (∃ a cap, v = .slice a 0 cap ∧ zs = []) ∨ ∃ b off cap, v = .slice (some ⟨b, off, none⟩) zs.length cap ∧ b < n₀ ∧ ∀ j, j < zs.length → W.cell? ⟨b, off + j, none⟩ = some (.int .i64 (zs[j]?.getD 0))
theorem Ints.below {n₀ n : Nat} {A B : World} (h : Below n A B) (hn : n₀ ≤ n) {v : Value} {zs : List Int} : Ints n₀ A v zs → Ints n₀ B v zs
  | .inl e => .inl e
  | .inr ⟨b, off, cap, e, hb, hc⟩ => .inr ⟨b, off, cap, e, hb, fun j hj => (h.cell (p := ⟨b, off + j, none⟩) (show b < n by omega)).trans (hc j hj)⟩
theorem Ints.mono {n₀ n : Nat} {A : World} (hn : n₀ ≤ n) {v : Value} {zs : List Int} : Ints n₀ A v zs → Ints n A v zs
  | .inl e => .inl e
  | .inr ⟨b, off, cap, e, hb, hc⟩ => .inr ⟨b, off, cap, e, Nat.lt_of_lt_of_le hb hn, hc⟩

theorem IOwn.form {w : World} {base : Nat} {v : Value} {zs : List Int} (h : IOwn w base v zs) :
    (v = .slice none 0 0 ∧ zs = []) ∨ ∃ g cap, v = .slice (some ⟨g, 0, none⟩) zs.length cap ∧ base ≤ g ∧ g < w.heap.size ∧ zs.length ≤ cap ∧ (∀ j, j < zs.length → w.cell? ⟨g, j, none⟩ = some (.int .i64 (zs[j]?.getD 0))) ∧ (∀ j, w.frozen? ⟨g, j, none⟩ = false) := by
  obtain ⟨h1, h2⟩ := h
  rcases h2 with ⟨rfl, hn⟩ | ⟨g, cap, cur, rfl, hb, hh, hc1, hc2, hc3, hc4⟩
  · exact .inl ⟨rfl, List.eq_nil_of_length_eq_zero hn⟩
  · refine .inr ⟨g, cap, rfl, hb, (Array.getElem?_eq_some_iff.1 hh).1, hc1, fun j hj => ?_, fun j => ?_⟩
    · have hx : (zs.map (Value.int .i64))[j]? = some (.int .i64 (zs[j]?.getD 0)) := by simp [hj]
      rw [← hc4, List.getElem?_take_of_lt (by omega)] at hx
      simp only [World.cell?, hh]
      simpa using hx
    · simp [World.frozen?, hh]
theorem IOwn.ints {w : World} {base : Nat} {v : Value} {zs : List Int} (h : IOwn w base v zs) : Ints w.heap.size w v zs := by
  rcases h.form with h | ⟨g, cap, rfl, hb, hlt, _, hc, _⟩
  · exact .inl ⟨none, 0, h⟩
  · exact .inr ⟨g, 0, cap, rfl, hlt, fun j hj => by rw [Nat.zero_add]; exact hc j hj⟩
theorem IOwn.val {w : World} {base : Nat} {v : Value} {zs : List Int} (h : IOwn w base v zs) : ∃ a cap, v = .slice a zs.length cap := by
  rcases h.form with ⟨rfl, rfl⟩ | ⟨g, cap, rfl, _⟩
  · exact ⟨_, _, rfl⟩
  · exact ⟨_, _, rfl⟩
theorem grown_of_below {w w' : World} (h : Below w.heap.size w w') : w.grownBy w' none := ⟨h.os, h.tape, h.output, h.size, fun k hk _ => h.block k hk⟩
theorem own_after {w w' : World} {base : Nat} {e : TypeId} {size : Nat} {v : Value} {k : Nat} {xs : List Value} (h : w.ownsRow base e size v k xs) (hb : Below w.heap.size w w') : w'.ownsRow base e size v k xs := by
  refine World.ownsRow.kept h (grown_of_below hb) ?_
  cases v.ownBlock with
  | none => exact .inl rfl
  | some j => exact .inr (fun e => by cases e)

/-- An append of ints to a list that the call owns. -/
theorem wpList_append_ints {w : World} {ops : Array Oper} {rest : List Oper} {o : Oper} {a : Act} {Q : Exit → Act → World → Prop} (hgd : o.guard = none) (s x : Operand)
    (ho : o.op = .call { callee := .builtin .append, args := #[s, x], argTypes := #[34, 34] })
    (base : Nat) (v : Value) (zs : List Int) (hs : a.eval s = v) (hown : IOwn w base v zs) (ys : List Int) (ad : Addr) (c : Nat) (hx : a.eval x = .slice (some ad) ys.length c)
    (hcell : ∀ j, j < ys.length → w.cell? (ad.add j) = some (.int .i64 (ys[j]?.getD 0))) (hlen : zs.length + ys.length ≤ 1099511627776) (hbase : base ≤ w.heap.size)
    (h : ∀ a' c' w', IOwn w' base (.slice a' (zs.length + ys.length) c') (zs ++ ys) → w.grownBy w' v.ownBlock → ((.slice a' (zs.length + ys.length) c' : Value) = .slice none 0 0 ↔ v = .slice none 0 0 ∧ ys.length = 0) → ((Value.slice a' (zs.length + ys.length) c').ownBlock = v.ownBlock ∨ (Value.slice a' (zs.length + ys.length) c').ownBlock = some w.heap.size) → wpList Tryd.prog ops Q rest (a.put o.dst (.slice a' (zs.length + ys.length) c')) w') :
    wpList Tryd.prog ops Q (o :: rest) a w := by
  obtain ⟨i, hi, hz, hsz, hby⟩ := info_parts info3
  refine wpList_append_own_at (P := Tryd.prog) _ hgd s x 34 ho base 3 i (.int .i64 0) 1 8 Tryd.underlying34 hi hz hsz hby rfl (by decide) v zs.length (zs.map (Value.int .i64)) hs hown ad ys.length c (ys.map (Value.int .i64)) hx (by simp) ?_ ?_ ?_ ?_ hbase ?_
  · intro j u hu
    have hj : j < ys.length := by have := (List.getElem?_eq_some_iff.1 hu).1; simpa using this
    rw [hcell j hj]
    simp [List.getElem?_map, List.getElem?_eq_getElem hj] at hu
    simp [List.getElem?_eq_getElem hj, hu]
  · intro u hu
    obtain ⟨y, _, rfl⟩ := List.mem_map.1 hu
    rfl
  · unfold maxLen; omega
  · omega
  · intro v' w' h1 h2 h3 hat
    have h4 : IOwn w' base v' (zs ++ ys) := by
      unfold IOwn
      rw [List.map_append, List.length_append]
      exact h1
    obtain ⟨a', c', hv⟩ := h4.val
    rw [List.length_append] at hv
    subst hv
    exact h a' c' w' h4 h2 h3 hat

/-! ### blocks -/
def Blk (W : World) (B : Nat) (t : TypeId) (cs : Array Value) : Prop := W.heap[B]? = some (.cells cs t (0, 0))

theorem Blk.lt {W : World} {B : Nat} {t : TypeId} {cs : Array Value} (h : Blk W B t cs) : B < W.heap.size := (Array.getElem?_eq_some_iff.1 h).1
theorem Blk.cell {W : World} {B : Nat} {t : TypeId} {cs : Array Value} (h : Blk W B t cs) (j : Nat) : W.cell? ⟨B, j, none⟩ = cs[j]? := by simp [World.cell?, show W.heap[B]? = _ from h]
theorem Blk.frozen {W : World} {B : Nat} {t : TypeId} {cs : Array Value} (h : Blk W B t cs) (j : Nat) : W.frozen? ⟨B, j, none⟩ = false := by simp [World.frozen?, show W.heap[B]? = _ from h]
theorem Blk.new (W : World) (t : TypeId) (cs : Array Value) : Blk (W.alloc (.cells cs t)) W.heap.size t cs := heap_alloc_new W _
theorem Blk.below {W W' : World} {B n : Nat} {t : TypeId} {cs : Array Value} (h : Blk W B t cs) (hb : Below n W W') (hB : B < n) : Blk W' B t cs := (hb.block B hB).trans h
theorem Blk.set {W : World} {B : Nat} {t : TypeId} {cs : Array Value} (j : Nat) (v : Value) (h : Blk W B t cs) : Blk (W.setCell ⟨B, j, none⟩ v) B t (cs.setIfInBounds j v) := by
  obtain ⟨hlt, hk⟩ := Array.getElem?_eq_some_iff.1 h
  show (W.heap.modify B _)[B]? = _
  rw [Array.getElem?_eq_getElem (by rw [Array.size_modify]; exact hlt), Array.getElem_modify_self, hk]
  rfl
theorem Blk.set3 {W : World} {B : Nat} {t : TypeId} {a b c : Value} (h : Blk W B t #[a, b, c]) (a' b' c' : Value) : Blk (((W.setCell ⟨B, 0, none⟩ a').setCell ⟨B, 1, none⟩ b').setCell ⟨B, 2, none⟩ c') B t #[a', b', c'] := by
  have := ((h.set 0 a').set 1 b').set 2 c'
  simpa using this

/-! ### maps -/
/-- An element of a map is told by itself. -/
def tokR (v : Value) : Option (DataW Value × List MemPlace) := some (.held v, [])
def InI (x : Int) : Prop := -9223372036854775808 ≤ x ∧ x ≤ 9223372036854775807
theorem keyed3 : Keyed Tryd.prog 3 := int_keyed Tryd.underlying3
theorem key3 {x : Int} (h : InI x) : keyOf Tryd.prog 3 (.int .i64 x) = some (.int .i64 x) := keyOf_int_mk Tryd.underlying3 (by obtain ⟨h1, h2⟩ := h; exact WalkArith.wf_i64 (by omega))

/-- Block b is a map of at most n entries with these elements at its keys. -/
def MapAt (w : World) (b n : Nat) (f : Int → Option Value) : Prop :=
  ∃ D : DataW Value, w.ownsMap Tryd.prog 3 tokR b n D ∧ ∀ x, InI x → Maps.has D (.int .i64 x) = (f x).isSome ∧ ∀ z, D.atKey (.int .i64 x) (.held z) = .held ((f x).getD z)
def updO (f : Int → Option Value) (x : Int) (v : Value) : Int → Option Value := fun y => if y = x then some v else f y

section
variable {w : World} {b n : Nat} {f : Int → Option Value}
theorem MapAt.made (w : World) : MapAt (w.alloc (.map #[] 0)) w.heap.size 0 (fun _ => none) := ⟨_, World.ownsMap_made w _ _ _, fun _ _ => ⟨rfl, fun _ => rfl⟩⟩
theorem MapAt.lt (h : MapAt w b n f) : b < w.heap.size := let ⟨_, h, _⟩ := h; h.lt
theorem MapAt.kept {w' : World} {row : Option Nat} (h : MapAt w b n f) (hg : w.grownBy w' row) (hne : some b ≠ row) : MapAt w' b n f := let ⟨D, h, h2⟩ := h; ⟨D, h.kept hg hne, h2⟩
theorem MapAt.block {w' : World} (h : MapAt w b n f) (hg : w'.heap[b]? = w.heap[b]?) : MapAt w' b n f := by
  obtain ⟨D, ⟨es, clock, hb, F, hs, hD⟩, h2⟩ := h
  exact ⟨D, ⟨es, clock, hg.trans hb, F, hs, hD⟩, h2⟩
theorem MapAt.below {w' : World} {B : Nat} (h : MapAt w b n f) (hg : Below B w w') (hb : b < B) : MapAt w' b n f := h.block (hg.block b hb)
theorem MapAt.alloc (h : MapAt w b n f) (o : Obj) : MapAt (w.alloc o) b n f := let ⟨D, h, h2⟩ := h; ⟨D, h.alloc o, h2⟩
theorem MapAt.drew (h : MapAt w b n f) : MapAt w.drew b n f := let ⟨D, h, h2⟩ := h; ⟨D, h.drew, h2⟩
theorem MapAt.mono (h : MapAt w b n f) {n' : Nat} (hn : n ≤ n') : MapAt w b n' f := let ⟨D, h, h2⟩ := h; ⟨D, h.mono hn, h2⟩
theorem MapAt.setCell (h : MapAt w b n f) {a : Addr} (ha : b ≠ a.block) (u : Value) : MapAt (w.setCell a u) b n f := let ⟨D, h, h2⟩ := h; ⟨D, h.setCell ha u, h2⟩

theorem MapAt.look (h : MapAt w b n f) {t e : TypeId} (ht : Tryd.prog.underlying t = some (.map 3 e)) {z : Value} (hz : (zeroValue e).run Tryd.prog w = .ok z w) {k : Int} (hk : InI k) :
    (Instr.lookup t (.map (some b)) (.int .i64 k) false).run Tryd.prog w = .ok ((f k).getD z) w := by
  obtain ⟨D, hown, h2⟩ := h
  obtain ⟨v, ps, hrun, hv⟩ := hown.lookup keyed3 ht hz (zd := .held z) (zp := []) rfl (key3 hk)
  rw [(h2 k hk).2 z] at hv
  simp only [tokR, Option.some.injEq, Prod.mk.injEq, DataW.held.injEq] at hv
  rw [hrun, hv.1]

theorem MapAt.look_ok (h : MapAt w b n f) {t e : TypeId} (ht : Tryd.prog.underlying t = some (.map 3 e)) {z : Value} (hz : (zeroValue e).run Tryd.prog w = .ok z w) {k : Int} (hk : InI k) :
    (Instr.lookup t (.map (some b)) (.int .i64 k) true).run Tryd.prog w = .ok (.tuple #[(f k).getD z, .bool (f k).isSome]) w := by
  obtain ⟨D, hown, h2⟩ := h
  obtain ⟨v, ps, hrun, hv⟩ := hown.look_ok keyed3 ht hz (zd := .held z) (zp := []) rfl (key3 hk)
  rw [(h2 k hk).2 z] at hv
  simp only [tokR, Option.some.injEq, Prod.mk.injEq, DataW.held.injEq] at hv
  rw [hrun, hv.1, (h2 k hk).1]

theorem MapAt.update (h : MapAt w b n f) {t e : TypeId} (ht : Tryd.prog.underlying t = some (.map 3 e)) (hn : n < maxLen) {k : Int} (hk : InI k) (v : Value) :
    ∃ w', (Instr.mapUpdate t (.map (some b)) (.int .i64 k) v).run Tryd.prog w = .ok () w' ∧ MapAt w' b (n + 1) (updO f k v) ∧ w.grownBy w' (some b) ∧ w'.heap.size = w.heap.size := by
  obtain ⟨D, hown, h2⟩ := h
  have him := hown.isMap
  obtain ⟨w', hrun, hown', hturn⟩ := hown.store keyed3 ht hn (key3 hk) (d := .held v) (ps := []) (val := v) rfl
  refine ⟨w', hrun, ⟨_, hown', fun x hx => ?_⟩, hturn.grown, ?_⟩
  · by_cases e : x = k
    · subst e
      refine ⟨?_, fun z => ?_⟩
      · rw [Maps.has_put_same him (show WideAt.IsKeyLit (.int .i64 x) from trivial)]; simp [updO]
      · rw [Maps.atKey_put_same him (show WideAt.IsKeyLit (.int .i64 x) from trivial)]; simp [updO]
    · have hne : (Lit.int .i64 x) ≠ .int .i64 k := fun e' => e (by cases e'; rfl)
      refine ⟨?_, fun z => ?_⟩
      · rw [Maps.has_put_other hne, (h2 x hx).1]; simp [updO, e]
      · rw [Maps.atKey_put_other hne, (h2 x hx).2]; simp [updO, e]
  · obtain ⟨es, clock, es', clock', _, e⟩ := hturn
    rw [e]; simp [ChangeMaps.setBlock]
end

end Go.Proofs.YtfeppbiodbhpcaaDoor
