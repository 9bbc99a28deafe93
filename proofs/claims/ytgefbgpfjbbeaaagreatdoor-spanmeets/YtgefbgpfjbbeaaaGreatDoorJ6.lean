/- Contracts and lemmas (nothing is claimed here). -/
import Derived.Test.YtgefbgpfjbbeaaaGreatDoorJ1
import Derived.Maps.AppendAt
import Derived.Maps.OwnSet
import Derived.Maps.Ext
import Derived.Test.YtgefbgpfjbbeaaaGreatDoorFMay
import Derived.BigRegion
namespace Go.Proofs.YtgefbgpfjbbeaaaGreatDoor
open Go.RowKit Go.Vf Go.Maps

theorem info3 : (Tryz.prog.info? 3).map (fun i => (i.zero, i.size, i.bytes)) = some (some (.int .i64 0), 1, 8) := by kernel_rfl

/-- The slice v owns these ints (in blocks from base on). -/
def IOwn (w : World) (base : Nat) (v : Value) (zs : List Int) : Prop := w.ownsRow base 3 1 v zs.length (zs.map (Value.int .i64))

theorem ownsRow_mono {w : World} {b b' : Nat} {e : TypeId} {size : Nat} {v : Value} {k : Nat} {xs : List Value} (h : w.ownsRow b e size v k xs) (hb : b' ≤ b) : w.ownsRow b' e size v k xs := by
  obtain ⟨h1, h2⟩ := h
  refine ⟨h1, ?_⟩
  rcases h2 with h2 | ⟨g, cap, cur, e1, e2, e3⟩
  · exact .inl h2
  · exact .inr ⟨g, cap, cur, e1, Nat.le_trans hb e2, e3⟩
theorem IOwn.mono {w : World} {b b' : Nat} {v : Value} {zs : List Int} (h : IOwn w b v zs) (hb : b' ≤ b) : IOwn w b' v zs := ownsRow_mono h hb
theorem IOwn.nil (w : World) (base : Nat) : IOwn w base (.slice none 0 0) [] := World.ownsRow_nil _ _ _ _

theorem own_ge {w : World} {base : Nat} {e : TypeId} {size : Nat} {v : Value} {k : Nat} {xs : List Value} (h : w.ownsRow base e size v k xs) {j : Nat} (hj : v.ownBlock = some j) : base ≤ j ∧ ∃ cs f, w.heap[j]? = some (.cells cs e f) := by
  rcases h.2 with ⟨rfl, _⟩ | ⟨g, cap, cur, rfl, hb, hgb, _⟩
  · simp [Value.ownBlock] at hj
  · obtain rfl : g = j := by simpa [Value.ownBlock] using hj
    exact ⟨hb, _, _, hgb⟩

/-- A slice of these ints, in a block that lies here. -/
def Ints (n₀ : Nat) (W : World) (v : Value) (zs : List Int) : Prop :=
  (∃ a cap, v = .slice a 0 cap ∧ zs = []) ∨ ∃ b off cap, v = .slice (some ⟨b, off, none⟩) zs.length cap ∧ b < n₀ ∧ ∀ j, j < zs.length → W.cell? ⟨b, off + j, none⟩ = some (.int .i64 (zs[j]?.getD 0))
theorem Ints.below {n₀ n : Nat} {A B : World} (h : Below n A B) (hn : n₀ ≤ n) {v : Value} {zs : List Int} : Ints n₀ A v zs → Ints n₀ B v zs
  | .inl e => .inl e
  | .inr ⟨b, off, cap, e, hb, hc⟩ => .inr ⟨b, off, cap, e, hb, fun j hj => (h.cell (p := ⟨b, off + j, none⟩) (show b < n by omega)).trans (hc j hj)⟩
theorem Ints.mono {n₀ n : Nat} {A : World} (hn : n₀ ≤ n) {v : Value} {zs : List Int} : Ints n₀ A v zs → Ints n A v zs
  | .inl e => .inl e
  | .inr ⟨b, off, cap, e, hb, hc⟩ => .inr ⟨b, off, cap, e, Nat.lt_of_lt_of_le hb hn, hc⟩

theorem IOwn.form {w : World} {base : Nat} {v : Value} {zs : List Int} (h : IOwn w base v zs) :
    (v = .slice none 0 0 ∧ zs = []) ∨ ∃ g cap, v = .slice (some ⟨g, 0, none⟩) zs.length cap ∧ base ≤ g ∧ g < w.heap.size ∧ zs.length ≤ cap ∧ (∀ j, j < zs.length → w.cell? ⟨g, j, none⟩ = some (.int .i64 (zs[j]?.getD 0))) ∧ (∀ j, w.frozen? ⟨g, j, none⟩ = false) := by
  obtain ⟨h1, h2⟩ := h
  rcases h2 with ⟨rfl, hn⟩ | ⟨g, cap, cur, rfl, hb, hh, hc1, hc2, hc3, hc4⟩
  · exact .inl ⟨rfl, List.eq_nil_of_length_eq_zero hn⟩
  · refine .inr ⟨g, cap, rfl, hb, (Array.getElem?_eq_some_iff.1 hh).1, hc1, fun j hj => ?_, fun j => ?_⟩
    · have hx : (zs.map (Value.int .i64))[j]? = some (.int .i64 (zs[j]?.getD 0)) := by simp [hj]
      rw [← hc4, List.getElem?_take_of_lt (by omega)] at hx
      simp only [World.cell?, hh]
      simpa using hx
    · simp [World.frozen?, hh]
theorem IOwn.ints {w : World} {base : Nat} {v : Value} {zs : List Int} (h : IOwn w base v zs) : Ints w.heap.size w v zs := by
  rcases h.form with h | ⟨g, cap, rfl, hb, hlt, _, hc, _⟩
  · exact .inl ⟨none, 0, h⟩
  · exact .inr ⟨g, 0, cap, rfl, hlt, fun j hj => by rw [Nat.zero_add]; exact hc j hj⟩
theorem IOwn.val {w : World} {base : Nat} {v : Value} {zs : List Int} (h : IOwn w base v zs) : ∃ a cap, v = .slice a zs.length cap := by
  rcases h.form with ⟨rfl, rfl⟩ | ⟨g, cap, rfl, _⟩
  · exact ⟨_, _, rfl⟩
  · exact ⟨_, _, rfl⟩
theorem grown_of_below {w w' : World} (h : Below w.heap.size w w') : w.grownBy w' none := ⟨h.os, h.tape, h.output, h.size, fun k hk _ => h.block k hk⟩
theorem own_after {w w' : World} {base : Nat} {e : TypeId} {size : Nat} {v : Value} {k : Nat} {xs : List Value} (h : w.ownsRow base e size v k xs) (hb : Below w.heap.size w w') : w'.ownsRow base e size v k xs := by
  refine World.ownsRow.kept h (grown_of_below hb) ?_
  cases v.ownBlock with
  | none => exact .inl rfl
  | some j => exact .inr (fun e => by cases e)

/-- An append of ints to a list that the call owns. -/
theorem wpList_append_ints {w : World} {ops : Array Oper} {rest : List Oper} {o : Oper} {a : Act} {Q : Exit → Act → World → Prop} (hgd : o.guard = none) (s x : Operand)
    (ho : o.op = .call { callee := .builtin .append, args := #[s, x], argTypes := #[80, 80] })
    (base : Nat) (v : Value) (zs : List Int) (hs : a.eval s = v) (hown : IOwn w base v zs) (ys : List Int) (ad : Addr) (c : Nat) (hx : a.eval x = .slice (some ad) ys.length c)
    (hcell : ∀ j, j < ys.length → w.cell? (ad.add j) = some (.int .i64 (ys[j]?.getD 0))) (hlen : zs.length + ys.length ≤ 1099511627776) (hbase : base ≤ w.heap.size)
    (h : ∀ a' c' w', IOwn w' base (.slice a' (zs.length + ys.length) c') (zs ++ ys) → w.grownBy w' v.ownBlock → ((.slice a' (zs.length + ys.length) c' : Value) = .slice none 0 0 ↔ v = .slice none 0 0 ∧ ys.length = 0) → ((Value.slice a' (zs.length + ys.length) c').ownBlock = v.ownBlock ∨ (Value.slice a' (zs.length + ys.length) c').ownBlock = some w.heap.size) → wpList Tryz.prog ops Q rest (a.put o.dst (.slice a' (zs.length + ys.length) c')) w') :
    wpList Tryz.prog ops Q (o :: rest) a w := by
  obtain ⟨i, hi, hz, hsz, hby⟩ := info_parts info3
  refine wpList_append_own_at (P := Tryz.prog) _ hgd s x 80 ho base 3 i (.int .i64 0) 1 8 Tryz.underlying80 hi hz hsz hby rfl (by decide) v zs.length (zs.map (Value.int .i64)) hs hown ad ys.length c (ys.map (Value.int .i64)) hx (by simp) ?_ ?_ ?_ ?_ hbase ?_
  · intro j u hu
    have hj : j < ys.length := by have := (List.getElem?_eq_some_iff.1 hu).1; simpa using this
    rw [hcell j hj]
    simp [List.getElem?_map, List.getElem?_eq_getElem hj] at hu
    simp [List.getElem?_eq_getElem hj, hu]
  · intro u hu
    obtain ⟨y, _, rfl⟩ := List.mem_map.1 hu
    rfl
  · unfold maxLen; omega
  · omega
  · intro v' w' h1 h2 h3 hat
    have h4 : IOwn w' base v' (zs ++ ys) := by
      unfold IOwn
      rw [List.map_append, List.length_append]
      exact h1
    obtain ⟨a', c', hv⟩ := h4.val
    rw [List.length_append] at hv
    subst hv
    exact h a' c' w' h4 h2 h3 hat

theorem IOwn.some_of {w : World} {base : Nat} {a : Option Addr} {n c : Nat} {zs : List Int} (h : IOwn w base (.slice a n c) zs) (hne : 0 < zs.length) : ∃ g, a = some ⟨g, 0, none⟩ ∧ base ≤ g ∧ zs.length ≤ c := by
  rcases h.form with ⟨_, hbad⟩ | ⟨g, cap, he, hg, _, hcap, _⟩
  · rw [hbad] at hne; simp at hne
  · simp only [Value.slice.injEq] at he
    exact ⟨g, he.1, hg, by rw [he.2.2]; exact hcap⟩
theorem own_take {w : World} {base g n cap : Nat} {e : TypeId} {size : Nat} {xs : List Value} (h : w.ownsRow base e size (.slice (some ⟨g, 0, none⟩) n cap) n xs) {m : Nat} (hm : m ≤ n) : w.ownsRow base e size (.slice (some ⟨g, 0, none⟩) m cap) m (xs.take (m * size)) := by
  obtain ⟨h1, h2⟩ := h
  have hms : m * size ≤ n * size := Nat.mul_le_mul_right _ hm
  refine ⟨by rw [List.length_take, h1]; exact Nat.min_eq_left hms, ?_⟩
  rcases h2 with ⟨e, _⟩ | ⟨g', cap', cur, e, hb, hh, hc1, hc2, hc3, hc4⟩
  · cases e
  · cases e
    exact .inr ⟨g, cap, cur, rfl, hb, hh, by omega, hc2, hc3, by rw [← hc4, List.take_take, Nat.min_eq_left hms]⟩
theorem IOwn.take {w : World} {base g n cap : Nat} {zs : List Int} (h : IOwn w base (.slice (some ⟨g, 0, none⟩) n cap) zs) {m : Nat} (hm : m ≤ zs.length) : IOwn w base (.slice (some ⟨g, 0, none⟩) m cap) (zs.take m) := by
  obtain ⟨a, c, hv⟩ := h.val
  have hn : n = zs.length := (Value.slice.inj hv).2.1
  subst hn
  have := own_take h hm
  unfold IOwn
  rw [List.length_take, Nat.min_eq_left hm, List.map_take]
  simpa using this

theorem calls_lost {P : Program} {f : FuncId} {args : Array Value} {w : World} {F : Ending → World → Prop} {e0 : Ending} {R : World → Prop} (v0 : Value) (hc : Calls P f args w fun e w' => e = e0 ∧ R w') (hF : ∀ w', R w' → F e0 w') (_fake : Hid False → F (.returned v0) w) : Calls P f args w F :=
  hc.mono (by rintro e w' ⟨rfl, h⟩; exact hF w' h)

theorem calls_fake {P : Program} {f : FuncId} {args : Array Value} {w : World} {F : Ending → World → Prop} (v0 : Value) (hX : Hid False) (_fake : F (.returned v0) w) : Calls P f args w F := hX.out.elim


/-- A row without an int. -/
theorem own_none (w : World) : IOwn (w.alloc (.cells #[] 3)) w.heap.size (.slice (some ⟨w.heap.size, 0, none⟩) 0 0) [] :=
  ⟨rfl, .inr ⟨w.heap.size, 0, #[], rfl, Nat.le_refl _, heap_alloc_new w _, Nat.le_refl _, by unfold maxLen; omega, rfl, rfl⟩⟩
theorem wpAnyH_takeD {P : Program} {md : Region.Mode} {ops : Array Oper} {Q : Exit → Act → World → Prop} {S : World → Prop} {i : Nat} {oi : Oper} {v : Value} {fuel : Nat} {listed : Array Bool} {a : Act} {w : World} (d : Option Nat) (hi : ops[i]? = some oi) (hd : oi.dst = d)
    (hs : Region.noSelect ops = true) (hf : Region.free md ops listed i = true) (hr : (Region.ready md ops listed).contains i = true)
    (hQ : ∀ c a w, Q (.panic c) (a.put oi.dst v) w → Q (.panic c) a w) (hy : YieldsIf P ops S oi v a) (hS : S w)
    (h : wpAnyH P md ops Q S fuel (listed.setIfInBounds i true) (a.put d v) w) : wpAnyH P md ops Q S (fuel + 1) listed a w := by
  subst hd
  exact wpAnyH_take hi hs hf hr hQ hy hS h
theorem islice_some (g n cap : Nat) (w : World) : (binOp .eql 80 (.slice (some ⟨g, 0, none⟩) n cap) (.slice none 0 0)).run Tryz.prog w = .ok (.bool false) w := by kernel_rfl
theorem islice_nil (w : World) : (binOp .eql 80 (.slice none 0 0) (.slice none 0 0)).run Tryz.prog w = .ok (.bool true) w := by kernel_rfl
set_option maxRecDepth 20000 in
theorem cloneI_any (v : Value) (zs : List Int) (base : Nat) (w : World) (hz : zs.length ≤ 1000000) (h : IOwn w base v zs) :
    Calls Tryz.prog 152 #[v] w fun e w' => ∃ a c, e = .returned (.slice a zs.length c) ∧ IOwn w' w.heap.size (.slice a zs.length c) zs ∧ Below w.heap.size w w' := by
  rcases h.form with ⟨rfl, rfl⟩ | ⟨g, cap, rfl, hg, hlt, hcap, hc, hf⟩
  · have hnil := islice_nil
    clear h
    go_enter Tryz.func152, Tryz.ntmps152
    go_wp2_with fail
    go_ret
    exact ⟨_, _, rfl, IOwn.nil _ _, Below.refl _ _⟩
  · have hnil := islice_some g
    have hb1 := (Below.refl w.heap.size w).alloc (Nat.le_refl _) (.cells #[] 3)
    have hs1 := alloc_size w (.cells #[] 3)
    have hown := own_none w
    have HC : Hid (∀ j, j < zs.length → (w.alloc (.cells #[] 3)).cell? ((⟨g, 0, none⟩ : Addr).add j) = some (.int .i64 (zs[j]?.getD 0))) := fun j hj => by
      rw [show (⟨g, 0, none⟩ : Addr).add j = ⟨g, j, none⟩ by by_cases hj : j = 0 <;> simp [Addr.add, hj]]
      rw [World.cell?_alloc_lt _ _ _ hlt]; exact hc j hj
    have hl : ([] : List Int).length + zs.length ≤ 1099511627776 := by simp; omega
    have HL : Hid (zs.length = zs.length) := rfl
    clear hc hf h
    go_enter Tryz.func152, Tryz.ntmps152
    go_upto_region 3 with fail
    go_wp2_with (first | (at_builtin; refine wpList_append_ints rfl _ _ rfl w.heap.size _ [] rfl hown zs ⟨g, 0, none⟩ _ rfl HC.out hl (by rw [hs1]; omega) ?_; intro a4 c4 w4 hown4 hgr4 hnil4 hat4))
    go_ret
    simp only [List.length_nil, Nat.zero_add, List.nil_append] at hown4 ⊢
    refine ⟨a4, c4, rfl, hown4, ?_⟩
    exact hb1.grown hgr4 (by rw [hs1]; omega) (fun k hk => by cases hk; exact Nat.le_refl _)

end Go.Proofs.YtgefbgpfjbbeaaaGreatDoor

namespace Go.Proofs.YtgefbgpfjbbeaaaGreatDoor
open Go.RowKit Go.Vf
theorem cell_w {w w' : World} {b j : Nat} {v : Value} (h : w.cell? ⟨b, j, none⟩ = some v) (hb : Below w.heap.size w w') (hlt : b < w.heap.size) : w'.cell? ⟨b, j, none⟩ = some v := (hb.cell (p := ⟨b, j, none⟩) hlt).trans h
theorem cell_na {w : World} {b j : Nat} {v : Value} {o : Obj} (h : w.cell? ⟨b, j, none⟩ = some v) (hlt : b < w.heap.size) : (w.alloc o).cell? ⟨b, j, none⟩ = some v := by rw [World.cell?_alloc_lt _ _ _ hlt]; exact h
theorem cells14 {w : World} {b : Nat} {t : TypeId} {o : Own} {a : Option Addr} {n c : Nat} (h : Blk w b t (cellsF o a n c)) :
    (w.cell? ⟨b, 0, none⟩ = some (.string o.name) ∧ w.cell? ⟨b, 1, none⟩ = some (.int .u8 o.kind) ∧ w.cell? ⟨b, 2, none⟩ = some (.bool o.down) ∧ w.cell? ⟨b, 3, none⟩ = some (.int .u8 o.nulls) ∧ w.cell? ⟨b, 4, none⟩ = some (.bool o.bnd) ∧ w.cell? ⟨b, 5, none⟩ = some (.bool o.ln) ∧ w.cell? ⟨b, 6, none⟩ = some (.string o.lm) ∧ w.cell? ⟨b, 7, none⟩ = some (.bool o.hn) ∧ w.cell? ⟨b, 8, none⟩ = some (.string o.hm) ∧ w.cell? ⟨b, 9, none⟩ = some (.int .i64 o.most) ∧ w.cell? ⟨b, 10, none⟩ = some (.int .i64 o.str) ∧ w.cell? ⟨b, 11, none⟩ = some (.bool o.shf) ∧ w.cell? ⟨b, 12, none⟩ = some (.bool o.bck) ∧ w.cell? ⟨b, 13, none⟩ = some (.slice a n c)) :=
  Blk.c14 h
theorem kv_kept {W w2 : World} (h : Below (W.alloc (.cells #[.string ⟨#[]⟩, .nilFunc, .nilFunc, .nilFunc, .nilFunc] 254)).drew.heap.size (W.alloc (.cells #[.string ⟨#[]⟩, .nilFunc, .nilFunc, .nilFunc, .nilFunc] 254)).drew w2) : w2.cell? ⟨W.heap.size, 0, none⟩ = some (.string ⟨#[]⟩) ∧ w2.cell? ⟨W.heap.size, 1, none⟩ = some (.nilFunc) ∧ w2.cell? ⟨W.heap.size, 2, none⟩ = some (.nilFunc) ∧ w2.cell? ⟨W.heap.size, 3, none⟩ = some (.nilFunc) ∧ w2.cell? ⟨W.heap.size, 4, none⟩ = some (.nilFunc) ∧ w2.frozen? ⟨W.heap.size, 0, none⟩ = false ∧ w2.frozen? ⟨W.heap.size, 1, none⟩ = false ∧ w2.frozen? ⟨W.heap.size, 2, none⟩ = false ∧ w2.frozen? ⟨W.heap.size, 3, none⟩ = false ∧ w2.frozen? ⟨W.heap.size, 4, none⟩ = false := by
  have hb0 : Blk (W.alloc (.cells #[.string ⟨#[]⟩, .nilFunc, .nilFunc, .nilFunc, .nilFunc] 254)).drew W.heap.size 254 #[.string ⟨#[]⟩, .nilFunc, .nilFunc, .nilFunc, .nilFunc] := Blk.new W 254 #[.string ⟨#[]⟩, .nilFunc, .nilFunc, .nilFunc, .nilFunc]
  have hb := hb0.old h
  exact ⟨hb.cell 0, hb.cell 1, hb.cell 2, hb.cell 3, hb.cell 4, hb.frozen 0, hb.frozen 1, hb.frozen 2, hb.frozen 3, hb.frozen 4⟩
theorem kv_new (W : World) : (W.alloc (.cells #[.string ⟨#[]⟩, .nilFunc, .nilFunc, .nilFunc, .nilFunc] 254)).cell? ⟨W.heap.size, 0, none⟩ = some (.string ⟨#[]⟩) ∧ (W.alloc (.cells #[.string ⟨#[]⟩, .nilFunc, .nilFunc, .nilFunc, .nilFunc] 254)).cell? ⟨W.heap.size, 1, none⟩ = some (.nilFunc) ∧ (W.alloc (.cells #[.string ⟨#[]⟩, .nilFunc, .nilFunc, .nilFunc, .nilFunc] 254)).cell? ⟨W.heap.size, 2, none⟩ = some (.nilFunc) ∧ (W.alloc (.cells #[.string ⟨#[]⟩, .nilFunc, .nilFunc, .nilFunc, .nilFunc] 254)).cell? ⟨W.heap.size, 3, none⟩ = some (.nilFunc) ∧ (W.alloc (.cells #[.string ⟨#[]⟩, .nilFunc, .nilFunc, .nilFunc, .nilFunc] 254)).cell? ⟨W.heap.size, 4, none⟩ = some (.nilFunc) ∧ (W.alloc (.cells #[.string ⟨#[]⟩, .nilFunc, .nilFunc, .nilFunc, .nilFunc] 254)).frozen? ⟨W.heap.size, 0, none⟩ = false ∧ (W.alloc (.cells #[.string ⟨#[]⟩, .nilFunc, .nilFunc, .nilFunc, .nilFunc] 254)).frozen? ⟨W.heap.size, 1, none⟩ = false ∧ (W.alloc (.cells #[.string ⟨#[]⟩, .nilFunc, .nilFunc, .nilFunc, .nilFunc] 254)).frozen? ⟨W.heap.size, 2, none⟩ = false ∧ (W.alloc (.cells #[.string ⟨#[]⟩, .nilFunc, .nilFunc, .nilFunc, .nilFunc] 254)).frozen? ⟨W.heap.size, 3, none⟩ = false ∧ (W.alloc (.cells #[.string ⟨#[]⟩, .nilFunc, .nilFunc, .nilFunc, .nilFunc] 254)).frozen? ⟨W.heap.size, 4, none⟩ = false := by
  have hb := Blk.new W 254 #[.string ⟨#[]⟩, .nilFunc, .nilFunc, .nilFunc, .nilFunc]
  exact ⟨hb.cell 0, hb.cell 1, hb.cell 2, hb.cell 3, hb.cell 4, hb.frozen 0, hb.frozen 1, hb.frozen 2, hb.frozen 3, hb.frozen 4⟩


end Go.Proofs.YtgefbgpfjbbeaaaGreatDoor
