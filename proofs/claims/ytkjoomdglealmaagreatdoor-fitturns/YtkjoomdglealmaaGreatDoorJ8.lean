/- Contracts and lemmas (nothing is claimed here). -/
import Derived.Test.YtkjoomdglealmaaGreatDoorJ1
import Derived.Maps.AppendAt
import Derived.Maps.OwnSet
import Derived.Maps.Ext
import Derived.Test.YtkjoomdglealmaaGreatDoorJ7
import Derived.BigRegion
namespace Go.Proofs.YtkjoomdglealmaaGreatDoor
open Go.RowKit Go.Vf Go.Maps

theorem info3 : (Tryz.prog.info? 3).map (fun i => (i.zero, i.size, i.bytes)) = some (some (.int .i64 0), 1, 8) := by kernel_rfl

/-- The slice v owns these ints (in blocks from base on). -/
def IOwn (w : World) (base : Nat) (v : Value) (zs : List Int) : Prop := w.ownsRow base 3 1 v zs.length (zs.map (Value.int .i64))

theorem ownsRow_mono {w : World} {b b' : Nat} {e : TypeId} {size : Nat} {v : Value} {k : Nat} {xs : List Value} (h : w.ownsRow b e size v k xs) (hb : b' ≤ b) : w.ownsRow b' e size v k xs := by
  obtain ⟨h1, h2⟩ := h
  refine ⟨h1, ?_⟩
  rcases h2 with h2 | ⟨g, cap, cur, e1, e2, e3⟩
  · exact .inl h2
  · exact .inr ⟨g, cap, cur, e1, Nat.le_trans hb e2, e3⟩
theorem IOwn.mono {w : World} {b b' : Nat} {v : Value} {zs : List Int} (h : IOwn w b v zs) (hb : b' ≤ b) : IOwn w b' v zs := ownsRow_mono h hb
theorem IOwn.nil (w : World) (base : Nat) : IOwn w base (.slice none 0 0) [] := World.ownsRow_nil _ _ _ _

theorem own_ge {w : World} {base : Nat} {e : TypeId} {size : Nat} {v : Value} {k : Nat} {xs : List Value} (h : w.ownsRow base e size v k xs) {j : Nat} (hj : v.ownBlock = some j) : base ≤ j ∧ ∃ cs f, w.heap[j]? = some (.cells cs e f) := by
  rcases h.2 with ⟨rfl, _⟩ | ⟨g, cap, cur, rfl, hb, hgb, _⟩
  · simp [Value.ownBlock] at hj
  · obtain rfl : g = j := by simpa [Value.ownBlock] using hj
    exact ⟨hb, _, _, hgb⟩

/-- A slice of these ints, in a block that lies here. -/
def Ints (n₀ : Nat) (W : World) (v : Value) (zs : List Int) : Prop :=
  (∃ a cap, v = .slice a 0 cap ∧ zs = []) ∨ ∃ b off cap, v = .slice (some ⟨b, off, none⟩) zs.length cap ∧ b < n₀ ∧ ∀ j, j < zs.length → W.cell? ⟨b, off + j, none⟩ = some (.int .i64 (zs[j]?.getD 0))
theorem Ints.below {n₀ n : Nat} {A B : World} (h : Below n A B) (hn : n₀ ≤ n) {v : Value} {zs : List Int} : Ints n₀ A v zs → Ints n₀ B v zs
  | .inl e => .inl e
  | .inr ⟨b, off, cap, e, hb, hc⟩ => .inr ⟨b, off, cap, e, hb, fun j hj => (h.cell (p := ⟨b, off + j, none⟩) (show b < n by omega)).trans (hc j hj)⟩
theorem Ints.mono {n₀ n : Nat} {A : World} (hn : n₀ ≤ n) {v : Value} {zs : List Int} : Ints n₀ A v zs → Ints n A v zs
  | .inl e => .inl e
  | .inr ⟨b, off, cap, e, hb, hc⟩ => .inr ⟨b, off, cap, e, Nat.lt_of_lt_of_le hb hn, hc⟩

theorem IOwn.form {w : World} {base : Nat} {v : Value} {zs : List Int} (h : IOwn w base v zs) :
    (v = .slice none 0 0 ∧ zs = []) ∨ ∃ g cap, v = .slice (some ⟨g, 0, none⟩) zs.length cap ∧ base ≤ g ∧ g < w.heap.size ∧ zs.length ≤ cap ∧ (∀ j, j < zs.length → w.cell? ⟨g, j, none⟩ = some (.int .i64 (zs[j]?.getD 0))) ∧ (∀ j, w.frozen? ⟨g, j, none⟩ = false) := by
  obtain ⟨h1, h2⟩ := h
  rcases h2 with ⟨rfl, hn⟩ | ⟨g, cap, cur, rfl, hb, hh, hc1, hc2, hc3, hc4⟩
  · exact .inl ⟨rfl, List.eq_nil_of_length_eq_zero hn⟩
  · refine .inr ⟨g, cap, rfl, hb, (Array.getElem?_eq_some_iff.1 hh).1, hc1, fun j hj => ?_, fun j => ?_⟩
    · have hx : (zs.map (Value.int .i64))[j]? = some (.int .i64 (zs[j]?.getD 0)) := by simp [hj]
      rw [← hc4, List.getElem?_take_of_lt (by omega)] at hx
      simp only [World.cell?, hh]
      simpa using hx
    · simp [World.frozen?, hh]
theorem IOwn.ints {w : World} {base : Nat} {v : Value} {zs : List Int} (h : IOwn w base v zs) : Ints w.heap.size w v zs := by
  rcases h.form with h | ⟨g, cap, rfl, hb, hlt, _, hc, _⟩
  · exact .inl ⟨none, 0, h⟩
  · exact .inr ⟨g, 0, cap, rfl, hlt, fun j hj => by rw [Nat.zero_add]; exact hc j hj⟩
theorem IOwn.val {w : World} {base : Nat} {v : Value} {zs : List Int} (h : IOwn w base v zs) : ∃ a cap, v = .slice a zs.length cap := by
  rcases h.form with ⟨rfl, rfl⟩ | ⟨g, cap, rfl, _⟩
  · exact ⟨_, _, rfl⟩
  · exact ⟨_, _, rfl⟩
theorem grown_of_below {w w' : World} (h : Below w.heap.size w w') : w.grownBy w' none := ⟨h.os, h.tape, h.output, h.size, fun k hk _ => h.block k hk⟩
theorem own_after {w w' : World} {base : Nat} {e : TypeId} {size : Nat} {v : Value} {k : Nat} {xs : List Value} (h : w.ownsRow base e size v k xs) (hb : Below w.heap.size w w') : w'.ownsRow base e size v k xs := by
  refine World.ownsRow.kept h (grown_of_below hb) ?_
  cases v.ownBlock with
  | none => exact .inl rfl
  | some j => exact .inr (fun e => by cases e)

/-- An append of ints to a list that the call owns. -/
theorem wpList_append_ints {w : World} {ops : Array Oper} {rest : List Oper} {o : Oper} {a : Act} {Q : Exit → Act → World → Prop} (hgd : o.guard = none) (s x : Operand)
    (ho : o.op = .call { callee := .builtin .append, args := #[s, x], argTypes := #[45, 45] })
    (base : Nat) (v : Value) (zs : List Int) (hs : a.eval s = v) (hown : IOwn w base v zs) (ys : List Int) (ad : Addr) (c : Nat) (hx : a.eval x = .slice (some ad) ys.length c)
    (hcell : ∀ j, j < ys.length → w.cell? (ad.add j) = some (.int .i64 (ys[j]?.getD 0))) (hlen : zs.length + ys.length ≤ 1099511627776) (hbase : base ≤ w.heap.size)
    (h : ∀ a' c' w', IOwn w' base (.slice a' (zs.length + ys.length) c') (zs ++ ys) → w.grownBy w' v.ownBlock → ((.slice a' (zs.length + ys.length) c' : Value) = .slice none 0 0 ↔ v = .slice none 0 0 ∧ ys.length = 0) → ((Value.slice a' (zs.length + ys.length) c').ownBlock = v.ownBlock ∨ (Value.slice a' (zs.length + ys.length) c').ownBlock = some w.heap.size) → wpList Tryz.prog ops Q rest (a.put o.dst (.slice a' (zs.length + ys.length) c')) w') :
    wpList Tryz.prog ops Q (o :: rest) a w := by
  obtain ⟨i, hi, hz, hsz, hby⟩ := info_parts info3
  refine wpList_append_own_at (P := Tryz.prog) _ hgd s x 45 ho base 3 i (.int .i64 0) 1 8 Tryz.underlying45 hi hz hsz hby rfl (by decide) v zs.length (zs.map (Value.int .i64)) hs hown ad ys.length c (ys.map (Value.int .i64)) hx (by simp) ?_ ?_ ?_ ?_ hbase ?_
  · intro j u hu
    have hj : j < ys.length := by have := (List.getElem?_eq_some_iff.1 hu).1; simpa using this
    rw [hcell j hj]
    simp [List.getElem?_map, List.getElem?_eq_getElem hj] at hu
    simp [List.getElem?_eq_getElem hj, hu]
  · intro u hu
    obtain ⟨y, _, rfl⟩ := List.mem_map.1 hu
    rfl
  · unfold maxLen; omega
  · omega
  · intro v' w' h1 h2 h3 hat
    have h4 : IOwn w' base v' (zs ++ ys) := by
      unfold IOwn
      rw [List.map_append, List.length_append]
      exact h1
    obtain ⟨a', c', hv⟩ := h4.val
    rw [List.length_append] at hv
    subst hv
    exact h a' c' w' h4 h2 h3 hat

theorem IOwn.some_of {w : World} {base : Nat} {a : Option Addr} {n c : Nat} {zs : List Int} (h : IOwn w base (.slice a n c) zs) (hne : 0 < zs.length) : ∃ g, a = some ⟨g, 0, none⟩ ∧ base ≤ g ∧ zs.length ≤ c := by
  rcases h.form with ⟨_, hbad⟩ | ⟨g, cap, he, hg, _, hcap, _⟩
  · rw [hbad] at hne; simp at hne
  · simp only [Value.slice.injEq] at he
    exact ⟨g, he.1, hg, by rw [he.2.2]; exact hcap⟩
theorem own_take {w : World} {base g n cap : Nat} {e : TypeId} {size : Nat} {xs : List Value} (h : w.ownsRow base e size (.slice (some ⟨g, 0, none⟩) n cap) n xs) {m : Nat} (hm : m ≤ n) : w.ownsRow base e size (.slice (some ⟨g, 0, none⟩) m cap) m (xs.take (m * size)) := by
  obtain ⟨h1, h2⟩ := h
  have hms : m * size ≤ n * size := Nat.mul_le_mul_right _ hm
  refine ⟨by rw [List.length_take, h1]; exact Nat.min_eq_left hms, ?_⟩
  rcases h2 with ⟨e, _⟩ | ⟨g', cap', cur, e, hb, hh, hc1, hc2, hc3, hc4⟩
  · cases e
  · cases e
    exact .inr ⟨g, cap, cur, rfl, hb, hh, by omega, hc2, hc3, by rw [← hc4, List.take_take, Nat.min_eq_left hms]⟩
theorem IOwn.take {w : World} {base g n cap : Nat} {zs : List Int} (h : IOwn w base (.slice (some ⟨g, 0, none⟩) n cap) zs) {m : Nat} (hm : m ≤ zs.length) : IOwn w base (.slice (some ⟨g, 0, none⟩) m cap) (zs.take m) := by
  obtain ⟨a, c, hv⟩ := h.val
  have hn : n = zs.length := (Value.slice.inj hv).2.1
  subst hn
  have := own_take h hm
  unfold IOwn
  rw [List.length_take, Nat.min_eq_left hm, List.map_take]
  simpa using this

theorem calls_lost {P : Program} {f : FuncId} {args : Array Value} {w : World} {F : Ending → World → Prop} {e0 : Ending} {R : World → Prop} (v0 : Value) (hc : Calls P f args w fun e w' => e = e0 ∧ R w') (hF : ∀ w', R w' → F e0 w') (_fake : Hid False → F (.returned v0) w) : Calls P f args w F :=
  hc.mono (by rintro e w' ⟨rfl, h⟩; exact hF w' h)

theorem calls_fake {P : Program} {f : FuncId} {args : Array Value} {w : World} {F : Ending → World → Prop} (v0 : Value) (hX : Hid False) (_fake : F (.returned v0) w) : Calls P f args w F := hX.out.elim


/-- A row without an int. -/
theorem own_none (w : World) : IOwn (w.alloc (.cells #[] 3)) w.heap.size (.slice (some ⟨w.heap.size, 0, none⟩) 0 0) [] :=
  ⟨rfl, .inr ⟨w.heap.size, 0, #[], rfl, Nat.le_refl _, heap_alloc_new w _, Nat.le_refl _, by unfold maxLen; omega, rfl, rfl⟩⟩
theorem wpAnyH_takeD {P : Program} {md : Region.Mode} {ops : Array Oper} {Q : Exit → Act → World → Prop} {S : World → Prop} {i : Nat} {oi : Oper} {v : Value} {fuel : Nat} {listed : Array Bool} {a : Act} {w : World} (d : Option Nat) (hi : ops[i]? = some oi) (hd : oi.dst = d)
    (hs : Region.noSelect ops = true) (hf : Region.free md ops listed i = true) (hr : (Region.ready md ops listed).contains i = true)
    (hQ : ∀ c a w, Q (.panic c) (a.put oi.dst v) w → Q (.panic c) a w) (hy : YieldsIf P ops S oi v a) (hS : S w)
    (h : wpAnyH P md ops Q S fuel (listed.setIfInBounds i true) (a.put d v) w) : wpAnyH P md ops Q S (fuel + 1) listed a w := by
  subst hd
  exact wpAnyH_take hi hs hf hr hQ hy hS h
theorem islice_some (g n cap : Nat) (w : World) : (binOp .eql 45 (.slice (some ⟨g, 0, none⟩) n cap) (.slice none 0 0)).run Tryz.prog w = .ok (.bool false) w := by kernel_rfl
theorem islice_nil (w : World) : (binOp .eql 45 (.slice none 0 0) (.slice none 0 0)).run Tryz.prog w = .ok (.bool true) w := by kernel_rfl
set_option maxRecDepth 20000 in
theorem cloneI_any (v : Value) (zs : List Int) (base : Nat) (w : World) (hz : zs.length ≤ 1000000) (h : IOwn w base v zs) :
    Calls Tryz.prog 180 #[v] w fun e w' => ∃ a c, e = .returned (.slice a zs.length c) ∧ IOwn w' w.heap.size (.slice a zs.length c) zs ∧ Below w.heap.size w w' := by
  rcases h.form with ⟨rfl, rfl⟩ | ⟨g, cap, rfl, hg, hlt, hcap, hc, hf⟩
  · have hnil := islice_nil
    clear h
    go_enter Tryz.func180, Tryz.ntmps180
    go_wp2_with fail
    go_ret
    exact ⟨_, _, rfl, IOwn.nil _ _, Below.refl _ _⟩
  · have hnil := islice_some g
    have hb1 := (Below.refl w.heap.size w).alloc (Nat.le_refl _) (.cells #[] 3)
    have hs1 := alloc_size w (.cells #[] 3)
    have hown := own_none w
    have HC : Hid (∀ j, j < zs.length → (w.alloc (.cells #[] 3)).cell? ((⟨g, 0, none⟩ : Addr).add j) = some (.int .i64 (zs[j]?.getD 0))) := fun j hj => by
      rw [show (⟨g, 0, none⟩ : Addr).add j = ⟨g, j, none⟩ by by_cases hj : j = 0 <;> simp [Addr.add, hj]]
      rw [World.cell?_alloc_lt _ _ _ hlt]; exact hc j hj
    have hl : ([] : List Int).length + zs.length ≤ 1099511627776 := by simp; omega
    have HL : Hid (zs.length = zs.length) := rfl
    clear hc hf h
    go_enter Tryz.func180, Tryz.ntmps180
    go_upto_region 3 with fail
    go_wp2_with (first | (at_builtin; refine wpList_append_ints rfl _ _ rfl w.heap.size _ [] rfl hown zs ⟨g, 0, none⟩ _ rfl HC.out hl (by rw [hs1]; omega) ?_; intro a4 c4 w4 hown4 hgr4 hnil4 hat4))
    go_ret
    simp only [List.length_nil, Nat.zero_add, List.nil_append] at hown4 ⊢
    refine ⟨a4, c4, rfl, hown4, ?_⟩
    exact hb1.grown hgr4 (by rw [hs1]; omega) (fun k hk => by cases hk; exact Nat.le_refl _)

end Go.Proofs.YtkjoomdglealmaaGreatDoor

namespace Go.Proofs.YtkjoomdglealmaaGreatDoor
open Go.RowKit Go.Vf
theorem cell_w {w w' : World} {b j : Nat} {v : Value} (h : w.cell? ⟨b, j, none⟩ = some v) (hb : Below w.heap.size w w') (hlt : b < w.heap.size) : w'.cell? ⟨b, j, none⟩ = some v := (hb.cell (p := ⟨b, j, none⟩) hlt).trans h
theorem cell_na {w : World} {b j : Nat} {v : Value} {o : Obj} (h : w.cell? ⟨b, j, none⟩ = some v) (hlt : b < w.heap.size) : (w.alloc o).cell? ⟨b, j, none⟩ = some v := by rw [World.cell?_alloc_lt _ _ _ hlt]; exact h
theorem cells14 {w : World} {b : Nat} {t : TypeId} {o : Own} {a : Option Addr} {n c : Nat} (h : Blk w b t (cellsF o a n c)) :
    (w.cell? ⟨b, 0, none⟩ = some (.string o.name) ∧ w.cell? ⟨b, 1, none⟩ = some (.int .u8 o.kind) ∧ w.cell? ⟨b, 2, none⟩ = some (.bool o.down) ∧ w.cell? ⟨b, 3, none⟩ = some (.int .u8 o.nulls) ∧ w.cell? ⟨b, 4, none⟩ = some (.bool o.bnd) ∧ w.cell? ⟨b, 5, none⟩ = some (.bool o.ln) ∧ w.cell? ⟨b, 6, none⟩ = some (.string o.lm) ∧ w.cell? ⟨b, 7, none⟩ = some (.bool o.hn) ∧ w.cell? ⟨b, 8, none⟩ = some (.string o.hm) ∧ w.cell? ⟨b, 9, none⟩ = some (.int .i64 o.most) ∧ w.cell? ⟨b, 10, none⟩ = some (.int .i64 o.str) ∧ w.cell? ⟨b, 11, none⟩ = some (.bool o.shf) ∧ w.cell? ⟨b, 12, none⟩ = some (.bool o.bck) ∧ w.cell? ⟨b, 13, none⟩ = some (.slice a n c)) :=
  Blk.c14 h
theorem kv_kept {W w2 : World} (h : Below (W.alloc (.cells #[.string ⟨#[]⟩, .nilFunc, .nilFunc, .nilFunc, .nilFunc] 302)).drew.heap.size (W.alloc (.cells #[.string ⟨#[]⟩, .nilFunc, .nilFunc, .nilFunc, .nilFunc] 302)).drew w2) : w2.cell? ⟨W.heap.size, 0, none⟩ = some (.string ⟨#[]⟩) ∧ w2.cell? ⟨W.heap.size, 1, none⟩ = some (.nilFunc) ∧ w2.cell? ⟨W.heap.size, 2, none⟩ = some (.nilFunc) ∧ w2.cell? ⟨W.heap.size, 3, none⟩ = some (.nilFunc) ∧ w2.cell? ⟨W.heap.size, 4, none⟩ = some (.nilFunc) ∧ w2.frozen? ⟨W.heap.size, 0, none⟩ = false ∧ w2.frozen? ⟨W.heap.size, 1, none⟩ = false ∧ w2.frozen? ⟨W.heap.size, 2, none⟩ = false ∧ w2.frozen? ⟨W.heap.size, 3, none⟩ = false ∧ w2.frozen? ⟨W.heap.size, 4, none⟩ = false := by
  have hb0 : Blk (W.alloc (.cells #[.string ⟨#[]⟩, .nilFunc, .nilFunc, .nilFunc, .nilFunc] 302)).drew W.heap.size 302 #[.string ⟨#[]⟩, .nilFunc, .nilFunc, .nilFunc, .nilFunc] := Blk.new W 302 #[.string ⟨#[]⟩, .nilFunc, .nilFunc, .nilFunc, .nilFunc]
  have hb := hb0.old h
  exact ⟨hb.cell 0, hb.cell 1, hb.cell 2, hb.cell 3, hb.cell 4, hb.frozen 0, hb.frozen 1, hb.frozen 2, hb.frozen 3, hb.frozen 4⟩
theorem kv_new (W : World) : (W.alloc (.cells #[.string ⟨#[]⟩, .nilFunc, .nilFunc, .nilFunc, .nilFunc] 302)).cell? ⟨W.heap.size, 0, none⟩ = some (.string ⟨#[]⟩) ∧ (W.alloc (.cells #[.string ⟨#[]⟩, .nilFunc, .nilFunc, .nilFunc, .nilFunc] 302)).cell? ⟨W.heap.size, 1, none⟩ = some (.nilFunc) ∧ (W.alloc (.cells #[.string ⟨#[]⟩, .nilFunc, .nilFunc, .nilFunc, .nilFunc] 302)).cell? ⟨W.heap.size, 2, none⟩ = some (.nilFunc) ∧ (W.alloc (.cells #[.string ⟨#[]⟩, .nilFunc, .nilFunc, .nilFunc, .nilFunc] 302)).cell? ⟨W.heap.size, 3, none⟩ = some (.nilFunc) ∧ (W.alloc (.cells #[.string ⟨#[]⟩, .nilFunc, .nilFunc, .nilFunc, .nilFunc] 302)).cell? ⟨W.heap.size, 4, none⟩ = some (.nilFunc) ∧ (W.alloc (.cells #[.string ⟨#[]⟩, .nilFunc, .nilFunc, .nilFunc, .nilFunc] 302)).frozen? ⟨W.heap.size, 0, none⟩ = false ∧ (W.alloc (.cells #[.string ⟨#[]⟩, .nilFunc, .nilFunc, .nilFunc, .nilFunc] 302)).frozen? ⟨W.heap.size, 1, none⟩ = false ∧ (W.alloc (.cells #[.string ⟨#[]⟩, .nilFunc, .nilFunc, .nilFunc, .nilFunc] 302)).frozen? ⟨W.heap.size, 2, none⟩ = false ∧ (W.alloc (.cells #[.string ⟨#[]⟩, .nilFunc, .nilFunc, .nilFunc, .nilFunc] 302)).frozen? ⟨W.heap.size, 3, none⟩ = false ∧ (W.alloc (.cells #[.string ⟨#[]⟩, .nilFunc, .nilFunc, .nilFunc, .nilFunc] 302)).frozen? ⟨W.heap.size, 4, none⟩ = false := by
  have hb := Blk.new W 302 #[.string ⟨#[]⟩, .nilFunc, .nilFunc, .nilFunc, .nilFunc]
  exact ⟨hb.cell 0, hb.cell 1, hb.cell 2, hb.cell 3, hb.cell 4, hb.frozen 0, hb.frozen 1, hb.frozen 2, hb.frozen 3, hb.frozen 4⟩


end Go.Proofs.YtkjoomdglealmaaGreatDoor

namespace Go.Proofs.YtkjoomdglealmaaGreatDoor
open Go.RowKit Go.Vf

set_option maxHeartbeats 4000000 in
set_option maxRecDepth 20000 in
theorem maySay_1 (name : ByteArray) (down : Bool) (nulls : Int) (bnd ln : Bool) (lm : ByteArray) (hn : Bool) (hm : ByteArray) (most str : Int) (shf bck : Bool) (a : Option Addr) (n c : Nat) (hnn : n ≤ 281474976710656) (_hl : lm.size ≤ 17179869184) (_hh : hm.size ≤ 17179869184) (hnu : nulls ≤ 2) (w : World) :
    Calls Tryz.prog 141 #[fV ⟨name, 1, down, nulls, bnd, ln, lm, hn, hm, most, str, shf, bck⟩ a n c] w fun e w' => e = .returned (.bool (true && saysN ⟨name, 1, down, nulls, bnd, ln, lm, hn, hm, most, str, shf, bck⟩ n)) ∧ Below w.heap.size w w' := by
  have hN0 := Blk.new w 57 (cellsF ⟨name, 1, down, nulls, bnd, ln, lm, hn, hm, most, str, shf, bck⟩ a n c)
  have hb0 := (Below.refl w.heap.size w).alloc (Nat.le_refl _) (.cells (cellsF ⟨name, 1, down, nulls, bnd, ln, lm, hn, hm, most, str, shf, bck⟩ a n c) 57)
  obtain ⟨c0, c1, c2, c3, c4, c5, c6, c7, c8, c9, c10, c11, c12, c13⟩ := cells14 hN0
  have t3 : decide ((2 : Int) < nulls) = false := by simp; omega
  have hkd := kinds_any
  have hs1 := alloc_size w (.cells (cellsF ⟨name, 1, down, nulls, bnd, ln, lm, hn, hm, most, str, shf, bck⟩ a n c) 57)
  unfold fV
  simp only [cellsF] at hN0 hb0 c0 c1 c2 c3 c4 c5 c6 c7 c8 c9 c10 c11 c12 c13 hs1
  go_enter Tryz.func141, Tryz.ntmps141
  go_upto_region 3 with fail
  generalize w.alloc (.cells #[.string name, .int .u8 1, .bool down, .int .u8 nulls, .bool bnd, .bool ln, .string lm, .bool hn, .string hm, .int .i64 most, .int .i64 str, .bool shf, .bool bck, .slice a n c] 57) = w1 at hN0 hb0 c0 c1 c2 c3 c4 c5 c6 c7 c8 c9 c10 c11 c12 c13 hs1 ⊢
  have hlt : w.heap.size < w1.heap.size := hN0.lt
  clear hs1
  go_cut [3] from 18 (fun v wx => KVar w1 (.string ⟨#[98, 111, 111, 108]⟩) (.func (.func 208) #[] #[]) (.func (.func 209) #[] #[]) (.func (.func 210) #[] #[]) (.func (.func 211) #[] #[]) v wx)
  case first =>
    have hc1 : ∀ x, Below w1.heap.size w1 x → x.cell? ⟨w.heap.size, 1, none⟩ = some (.int .u8 1) := fun x h => (h.cell (p := ⟨w.heap.size, 1, none⟩) hlt).trans c1
    have HKeep : Hid (∀ x y, Below w1.heap.size w1 x → Below x.heap.size x y → Below w1.heap.size w1 y) := fun x y h1 h2 => h1.trans (h2.mono h1.size)
    clear c0 c1 c2 c3 c4 c5 c6 c7 c8 c9 c10 c11 c12 c13
    refine wp_region_held_drew (S := fun x => Below w1.heap.size w1 x) (by kernel_rfl) ((Below.refl _ _).drew) (fun hHeld => ?_)
    refine wpAnyH_takeD (i := 1) (some 19) (v := .pointer (some ⟨w.heap.size, 1, none⟩)) rfl rfl (by kernel_rfl) (by kernel_rfl) (by kernel_rfl) (fun _ _ _ h => h) (Or.inl ⟨by kernel_rfl, ?hy1⟩) (by assumption) ?rest1
    case hy1 => (intro x hSx; (try dsimp only at hSx); go_simp; first | done | with_reducible rfl)
    try simp only [Act.put, List.setIfInBounds_toArray, List.set_cons_zero, List.set_cons_succ]
    refine wpAnyH_takeD (i := 2) (some 20) (v := .int .u8 1) rfl rfl (by kernel_rfl) (by kernel_rfl) (by kernel_rfl) (fun _ _ _ h => h) (Or.inl ⟨by kernel_rfl, ?hy2⟩) (by assumption) ?rest2
    case hy2 => (intro x hSx; have hq := hc1 _ hSx; (try dsimp only at hSx); go_simp; first | done | with_reducible rfl)
    try simp only [Act.put, List.setIfInBounds_toArray, List.set_cons_zero, List.set_cons_succ]
    refine wpAnyH_ready (rs := [0, 5]) (by kernel_rfl) (by simp) ?_
    refine AllReadyH.cons rfl (fun K hK => ?_) (AllReadyH.cons rfl (fun K hK => ?_) AllReadyH.nil)
    · skip
      go_simp
      go_wp2_with (go_at_call 178; refine (hkd _).mono ?_; rintro e y ⟨g, rfl, hg, hKd, hby⟩)
      refine hK.out _ _ (HKeep.out _ _ hHeld hby) (fun hH1 => ?_)
      clear hK K
      try simp only [Act.put, List.setIfInBounds_toArray, List.set_cons_zero, List.set_cons_succ]
      obtain ⟨q0, q1, q2, q3, q4⟩ := kind_at1 hKd
      have hgl := hKd.lt
      refine wpAnyH_takeD (i := 3) (some 21) (v := .pointer (some ⟨g, 5, none⟩)) rfl rfl (by kernel_rfl) (by kernel_rfl) (by kernel_rfl) (fun _ _ _ h => h) (Or.inl ⟨by kernel_rfl, ?hy3⟩) (by assumption) ?rest3
      case hy3 => (intro x hSx; (try dsimp only at hSx); go_simp; first | done | with_reducible rfl)
      try simp only [Act.put, List.setIfInBounds_toArray, List.set_cons_zero, List.set_cons_succ]
      refine wpAnyH_ready (rs := [4, 5]) (by kernel_rfl) (by simp) ?_
      refine AllReadyH.cons rfl (fun K hK => ?_) (AllReadyH.cons rfl (fun K hK => ?_) AllReadyH.nil)
      · skip
        go_simp
        refine hK.out _ _ hH1 (fun hH2 => ?_)
        clear hK K
        try simp only [Act.put, List.setIfInBounds_toArray, List.set_cons_zero, List.set_cons_succ]
        refine wpAnyH_ready (rs := [5]) (by kernel_rfl) (by simp) ?_
        refine AllReadyH.cons rfl (fun K hK => ?_) AllReadyH.nil
        go_simp
        refine hK.out _ _ (hH2.alloc hH2.size _) (fun hH3 => ?_)
        clear hK K
        try simp only [Act.put, List.setIfInBounds_toArray, List.set_cons_zero, List.set_cons_succ]
        obtain ⟨n0, n1, n2, n3, n4, n5, n6, n7, n8, n9⟩ := kv_new y
        refine wpAnyH_ready (rs := [6]) (by kernel_rfl) (by simp) ?_
        refine AllReadyH.cons rfl (fun K hK => ?_) AllReadyH.nil
        go_simp
        refine hK.out _ _ (hH2.alloc hH2.size _) (fun hEnd => ?_)
        clear hK K
        try simp only [Act.put, List.setIfInBounds_toArray, List.set_cons_zero, List.set_cons_succ]
        refine wpAnyH_done (by kernel_rfl) ?_ _
        go_wp2_with fail
        go_meet
        case rel => exact kvar_new _ _ _ _ _ hH2
      · skip
        go_simp
        refine hK.out _ _ (hH1.alloc hH1.size _) (fun hH2 => ?_)
        clear hK K
        try simp only [Act.put, List.setIfInBounds_toArray, List.set_cons_zero, List.set_cons_succ]
        obtain ⟨n0, n1, n2, n3, n4, n5, n6, n7, n8, n9⟩ := kv_new y
        refine wpAnyH_ready (rs := [4]) (by kernel_rfl) (by simp) ?_
        refine AllReadyH.cons rfl (fun K hK => ?_) AllReadyH.nil
        go_simp
        refine hK.out _ _ hH2 (fun hH3 => ?_)
        clear hK K
        try simp only [Act.put, List.setIfInBounds_toArray, List.set_cons_zero, List.set_cons_succ]
        refine wpAnyH_ready (rs := [6]) (by kernel_rfl) (by simp) ?_
        refine AllReadyH.cons rfl (fun K hK => ?_) AllReadyH.nil
        go_simp
        refine hK.out _ _ (hH1.alloc hH1.size _) (fun hEnd => ?_)
        clear hK K
        try simp only [Act.put, List.setIfInBounds_toArray, List.set_cons_zero, List.set_cons_succ]
        refine wpAnyH_done (by kernel_rfl) ?_ _
        go_wp2_with fail
        go_meet
        case rel => exact kvar_new _ _ _ _ _ hH1
    · skip
      go_simp
      refine hK.out _ _ (hHeld.alloc hHeld.size _) (fun hH1 => ?_)
      clear hK K
      try simp only [Act.put, List.setIfInBounds_toArray, List.set_cons_zero, List.set_cons_succ]
      refine wpAnyH_ready (rs := [0]) (by kernel_rfl) (by simp) ?_
      refine AllReadyH.cons rfl (fun K hK => ?_) AllReadyH.nil
      go_simp
      go_wp2_with (go_at_call 178; refine (hkd _).mono ?_; rintro e y ⟨g, rfl, hg, hKd, hby⟩)
      refine hK.out _ _ (HKeep.out _ _ hH1 hby) (fun hH2 => ?_)
      clear hK K
      try simp only [Act.put, List.setIfInBounds_toArray, List.set_cons_zero, List.set_cons_succ]
      obtain ⟨q0, q1, q2, q3, q4⟩ := kind_at1 hKd
      have hgl := hKd.lt
      obtain ⟨n0, n1, n2, n3, n4, n5, n6, n7, n8, n9⟩ := kv_kept hby
      refine wpAnyH_takeD (i := 3) (some 21) (v := .pointer (some ⟨g, 5, none⟩)) rfl rfl (by kernel_rfl) (by kernel_rfl) (by kernel_rfl) (fun _ _ _ h => h) (Or.inl ⟨by kernel_rfl, ?hyb3⟩) (by assumption) ?restb3
      case hyb3 => (intro x hSx; (try dsimp only at hSx); go_simp; first | done | with_reducible rfl)
      try simp only [Act.put, List.setIfInBounds_toArray, List.set_cons_zero, List.set_cons_succ]
      refine wpAnyH_ready (rs := [4]) (by kernel_rfl) (by simp) ?_
      refine AllReadyH.cons rfl (fun K hK => ?_) AllReadyH.nil
      go_simp
      refine hK.out _ _ hH2 (fun hH3 => ?_)
      clear hK K
      try simp only [Act.put, List.setIfInBounds_toArray, List.set_cons_zero, List.set_cons_succ]
      refine wpAnyH_ready (rs := [6]) (by kernel_rfl) (by simp) ?_
      refine AllReadyH.cons rfl (fun K hK => ?_) AllReadyH.nil
      go_simp
      refine hK.out _ _ ((((((hH2.setCell (Nat.le_refl _) _).setCell (Nat.le_refl _) _).setCell (Nat.le_refl _) _).setCell (Nat.le_refl _) _).setCell (Nat.le_refl _) _)) (fun hEnd => ?_)
      clear hK K
      try simp only [Act.put, List.setIfInBounds_toArray, List.set_cons_zero, List.set_cons_succ]
      refine wpAnyH_done (by kernel_rfl) ?_ _
      go_wp2_with fail
      go_meet
      case rel => exact kvar_set _ _ _ _ _ (((Below.refl _ (World.alloc w1 _)).drew).trans hby)
  case rest =>
    obtain ⟨g, rfl, hg, hK, hb2⟩ := hcut
    have hNc := hN0.old hb2
    obtain ⟨d0, d1, d2, d3, d4, d5, d6, d7, d8, d9, d10, d11, d12, d13⟩ := hNc.c14
    have hgl := hK.lt
    have hkl := hNc.lt
    have hN2 : Blk (wc.alloc (.cells #[.string name, .int .u8 1, .bool down, .int .u8 nulls, .bool bnd, .bool ln, .string lm, .bool hn, .string hm, .int .i64 most, .int .i64 str, .bool shf, .bool bck, .slice a n c] 57)) wc.heap.size 57 (cellsF ⟨name, 1, down, nulls, bnd, ln, lm, hn, hm, most, str, shf, bck⟩ a n c) := Blk.new wc 57 _
    have hb3 : Below wc.heap.size wc (wc.alloc (.cells #[.string name, .int .u8 1, .bool down, .int .u8 nulls, .bool bnd, .bool ln, .string lm, .bool hn, .string hm, .int .i64 most, .int .i64 str, .bool shf, .bool bck, .slice a n c] 57)) := (Below.refl wc.heap.size wc).alloc (Nat.le_refl _) _
    have hK3 := hK.old hb3
    have hN3 := hNc.old hb3
    have hs3 := alloc_size wc (.cells #[.string name, .int .u8 1, .bool down, .int .u8 nulls, .bool bnd, .bool ln, .string lm, .bool hn, .string hm, .int .i64 most, .int .i64 str, .bool shf, .bool bck, .slice a n c] 57)
    have hst := stripNothing_any wc.heap.size (wc.alloc (.cells #[.string name, .int .u8 1, .bool down, .int .u8 nulls, .bool bnd, .bool ln, .string lm, .bool hn, .string hm, .int .i64 most, .int .i64 str, .bool shf, .bool bck, .slice a n c] 57))
    have f2 := hK3.cell 2
    clear c0 c1 c2 c3 c4 c5 c6 c7 c8 c9 c10 c11 c12 c13 hkd hN0
    go_upto_region 5 with fail
    clear d0 d1 d2 d3 d4 d5 d6 d7 d8 d9 d10 d11 d12 d13
    generalize wc.alloc (.cells #[.string name, .int .u8 1, .bool down, .int .u8 nulls, .bool bnd, .bool ln, .string lm, .bool hn, .string hm, .int .i64 most, .int .i64 str, .bool shf, .bool bck, .slice a n c] 57) = w3 at hN2 hb3 hK3 hN3 hs3 hst f2 ⊢
    go_wp2_with fail
    refine hst.mono ?_
    rintro _ w4 ⟨rfl, rfl⟩
    have hb4 := Below.refl wc.heap.size w4
    have hB4 := hN2
    have hb04 : Below w.heap.size w w4 := ((hb0.trans (hb2.mono hb0.size)).trans (hb3.mono (by have := hb0.size; have := hb2.size; omega))).trans (hb4.mono (by have := hb0.size; have := hb2.size; omega))
    have hK4 := hK3.below hb4 hgl
    have hN4 := hN3.below hb4 hkl
    have g1 := hK4.cell 1
    obtain ⟨d0, d1, d2, d3, d4, d5, d6, d7, d8, d9, d10, d11, d12, d13⟩ := hN4.c14
    have hri := anyRight_any ⟨name, 1, down, nulls, bnd, ln, lm, hn, hm, most, str, shf, bck⟩ a n c w4
    unfold fV at hri
    dsimp only at hri
    clear hst hN2 hb3 hK3 hN3 hK hNc f2 hb4
    go_wp2_with fail
    refine hri.mono ?_
    rintro _ w5 ⟨rfl, hb5⟩
    have hb05 := hb04.trans (hb5.mono hb04.size)
    have hB5 := hB4.old hb5
    have hsn := saysNothing_any ⟨name, 1, down, nulls, bnd, ln, lm, hn, hm, most, str, shf, bck⟩ a n c (by omega) w5
    unfold fV at hsn
    simp only [cellsF] at hB5
    dsimp only at hsn
    obtain ⟨e0, e1, e2, e3, e4, e5, e6, e7, e8, e9, e10, e11, e12, e13⟩ := hB5.c14
    clear d0 d1 d2 d3 d4 d5 d6 d7 d8 d9 d10 d11 d12 d13 hri hB4 hB5 hN4 hK4
    go_wp2_with fail
    refine hsn.mono ?_
    rintro _ w6 ⟨rfl, hb6⟩
    go_wp2_with fail
    go_ret
    exact ⟨rfl, hb05.trans (hb6.mono hb05.size)⟩

end Go.Proofs.YtkjoomdglealmaaGreatDoor
