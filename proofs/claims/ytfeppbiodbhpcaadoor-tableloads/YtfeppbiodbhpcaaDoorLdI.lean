/- What the statements' all does (contracts; nothing is claimed here). -/
import Derived.Test.YtfeppbiodbhpcaaDoorJ7
namespace Go.Proofs.YtfeppbiodbhpcaaDoor
open Go.RowKit Go.Vf Go.Maps

theorem nin_ein {n₀ : Nat} {w : World} {v : Value} {l : List Ent} (h : NIn n₀ w v l) : EIn n₀ w v l := by
  rcases h with h | ⟨b, off, cap, e, hb, hc⟩
  · exact .inl h
  · refine .inr ⟨b, off, cap, e, hb, fun j hj => ?_⟩
    obtain ⟨pv, ev, h1, h2, h3, h4⟩ := hc j hj
    obtain ⟨pa, pc, rfl⟩ := ints_val h2
    obtain ⟨ea, ec, rfl⟩ := h4.val
    exact ⟨pa, pc, ea, ec, h1, h3, h2, h4⟩
/-- Blocks below lo, and those from hi on that were there, stay. -/
structure Wr (lo hi : Nat) (w w' : World) : Prop where
  below : Below lo w w'
  above : ∀ b, hi ≤ b → b < w.heap.size → w'.heap[b]? = w.heap[b]?
theorem Wr.refl (lo hi : Nat) (w : World) : Wr lo hi w w := ⟨Below.refl _ _, fun _ _ _ => rfl⟩
theorem Wr.trans {lo hi : Nat} {a b c : World} (h : Wr lo hi a b) (g : Wr lo hi b c) : Wr lo hi a c := ⟨h.below.trans g.below, fun k h1 h2 => (g.above k h1 (Nat.lt_of_lt_of_le h2 h.below.size)).trans (h.above k h1 h2)⟩
/-- An own row's block is one of its base's. -/
theorem Wr.grown {lo hi : Nat} {a b c : World} {v : Value} (h : Wr lo hi a b) (hg : b.grownBy c v.ownBlock) (hlo : lo ≤ b.heap.size) (hv : ∀ g, v.ownBlock = some g → lo ≤ g ∧ (g < hi ∨ a.heap.size ≤ g)) : Wr lo hi a c :=
  ⟨h.below.grown hg hlo (fun k hk => (hv k hk).1), fun k h1 h2 => (hg.block k (Nat.lt_of_lt_of_le h2 h.below.size) (fun e => by have := (hv k e.symm).2; omega)).trans (h.above k h1 h2)⟩
theorem Wr.set {lo hi : Nat} {a b : World} {g k : Nat} (h : Wr lo hi a b) (h1 : lo ≤ g) (h2 : g < hi) (v : Value) : Wr lo hi a (b.setCell ⟨g, k, none⟩ v) :=
  ⟨h.below.setCell (p := ⟨g, k, none⟩) h1 v, fun j q1 q2 => (Below.heap_setCell b ⟨g, k, none⟩ v j (by show j ≠ g; omega)).trans (h.above j q1 q2)⟩
theorem Wr.alloc {lo hi : Nat} {a b : World} (h : Wr lo hi a b) (hlo : lo ≤ b.heap.size) (o : Obj) : Wr lo hi a (b.alloc o) :=
  ⟨h.below.alloc hlo o, fun k h1 h2 => (Below.heap_alloc b o k (Nat.lt_of_lt_of_le h2 h.below.size)).trans (h.above k h1 h2)⟩
/-- Entries from the i-th on, as they were answered; the row they lie in. -/
structure OneR (w : World) (base g : Nat) (vs : List (Value × Value)) (l : List Ent) (i : Nat) : Prop where
  blk : ∃ cs, Blk w g 37 cs ∧ l.length * 2 ≤ cs.size
  cell : ∀ j (h : j < vs.length), i ≤ j → w.cell? ⟨g, j * 2, none⟩ = some vs[j].1 ∧ w.cell? ⟨g, j * 2 + 1, none⟩ = some vs[j].2
  pts : ∀ j (h1 : j < vs.length) (h2 : j < l.length), i ≤ j → IOwn w base vs[j].1 l[j].1
  els : ∀ j (h1 : j < vs.length) (h2 : j < l.length), i ≤ j → EOwn w base vs[j].2 l[j].2
/-- A row of ints that the call owns, whatever they are. -/
def XInt (w : World) (base : Nat) (v : Value) (n : Nat) : Prop := ∃ zs, zs.length = n ∧ IOwn w base v zs
/-- Block g and block p aside, all that was there stays. -/
structure But (g : Nat) (v : Value) (w w' : World) : Prop where
  size : w.heap.size ≤ w'.heap.size
  same : ∀ b, b < w.heap.size → b ≠ g → v.ownBlock ≠ some b → w'.heap[b]? = w.heap[b]?
theorem EntsO.oneR {w : World} {base : Nat} {v : Value} {vs : List (Value × Value)} {l : List Ent} (h : EntsO w base v vs l) (hne : 0 < l.length) : ∃ g cap, v = .slice (some ⟨g, 0, none⟩) l.length cap ∧ base ≤ g ∧ OneR w base g vs l 0 := by
  rcases h.row.2 with ⟨_, h0⟩ | ⟨g, cap, cur, rfl, hb, hg, hn, hm, hs, ht⟩
  · omega
  · have hB : Blk w g 37 cur := hg
    have q : ∀ k, k < l.length * 2 → w.cell? ⟨g, k, none⟩ = (flatV vs)[k]? := fun k hk => by
      rw [hB.cell, ← ht, List.getElem?_take_of_lt hk, Array.getElem?_toList]
    have hlen := h.len
    have hfl := flatV_len vs
    refine ⟨g, cap, rfl, hb, ⟨⟨cur, hB, ?_⟩, fun j hj _ => ?_, fun j h1 h2 _ => h.pts j h1 h2, fun j h1 h2 _ => h.els j h1 h2⟩⟩
    · have h1 : (cur.toList.take (l.length * 2)).length = vs.length * 2 := by rw [ht, hfl]
      rw [List.length_take, Array.length_toList] at h1
      omega
    · obtain ⟨f1, f2⟩ := flatV_at vs j hj
      exact ⟨(q _ (by omega)).trans f1, (q _ (by omega)).trans f2⟩
theorem apt_at {vs : List (Value × Value)} (h : (flatV vs).Pairwise Apt) {i j : Nat} (hi : i < vs.length) (hj : j < vs.length) (hij : i < j) : Apt vs[i].1 vs[j].1 ∧ Apt vs[i].1 vs[j].2 ∧ Apt vs[i].2 vs[j].1 ∧ Apt vs[i].2 vs[j].2 := by
  have hfl := flatV_len vs
  have key : ∀ (a b : Nat) (u v : Value), a < b → (flatV vs)[a]? = some u → (flatV vs)[b]? = some v → Apt u v := fun a b u v hab hu hv => by
    obtain ⟨ha, rfl⟩ := List.getElem?_eq_some_iff.1 hu
    obtain ⟨hb, rfl⟩ := List.getElem?_eq_some_iff.1 hv
    exact List.pairwise_iff_getElem.1 h a b ha hb hab
  obtain ⟨f1, f2⟩ := flatV_at vs i hi
  obtain ⟨e1, e2⟩ := flatV_at vs j hj
  exact ⟨key _ _ _ _ (by omega) f1 e1, key _ _ _ _ (by omega) f1 e2, key _ _ _ _ (by omega) f2 e1, key _ _ _ _ (by omega) f2 e2⟩
theorem OneR.but {w w' : World} {base g i : Nat} {vs : List (Value × Value)} {l : List Ent} {pv : Value} (h : OneR w base g vs l (i + 1)) (hb : But g pv w w') (hg : ∃ cs, Blk w' g 37 cs ∧ l.length * 2 ≤ cs.size) (hc : ∀ k, i * 2 + 1 < k → w'.cell? ⟨g, k, none⟩ = w.cell? ⟨g, k, none⟩) (ha : ∀ j (hj : j < vs.length), i < j → Apt pv vs[j].1 ∧ Apt pv vs[j].2) : OneR w' base g vs l (i + 1) := by
  obtain ⟨cs, hB, _⟩ := h.blk
  have q : ∀ {u : Value} {b : Nat} {t : TypeId} {s k : Nat} {xs : List Value}, w.ownsRow b t s u k xs → t ≠ 37 → Apt pv u → w'.ownsRow b t s u k xs := fun hu ht hap => own_other hu (fun b hbk => hb.same b (own_lt hu b hbk) (fun e => by
    obtain ⟨_, c1, f1, q1⟩ := own_ge hu hbk
    subst e
    rw [show w.heap[b]? = _ from hB] at q1
    simp only [Option.some.injEq, Obj.cells.injEq] at q1
    exact ht q1.2.1.symm) (fun e => hap b e hbk))
  refine ⟨hg, fun j hj hij => ?_, fun j h1 h2 hij => q (h.pts j h1 h2 hij) (by decide) (ha j h1 (by omega)).1, fun j h1 h2 hij => q (h.els j h1 h2 hij) (by decide) (ha j h1 (by omega)).2⟩
  exact ⟨(hc _ (by omega)).trans (h.cell j hj hij).1, (hc _ (by omega)).trans (h.cell j hj hij).2⟩
theorem app_one {w : World} {base : Nat} {v : Value} {zs : List Int} (hown : IOwn w base v zs) (z : Int) (hlen : zs.length ≤ 1099511627776) (hbase : base ≤ w.heap.size) (ty : TypeId) :
    ∃ v' w', (Builtin.append_ #[34, 34] ty #[v, .slice (some ⟨w.heap.size, 0, none⟩) 1 1]).run Tryd.prog (w.alloc (.cells #[.int .i64 z] 3)) = .ok v' w' ∧ IOwn w' base v' (zs ++ [z]) ∧ (w.alloc (.cells #[.int .i64 z] 3)).grownBy w' v.ownBlock ∧ (v'.ownBlock = v.ownBlock ∨ v'.ownBlock = some (w.heap.size + 1)) := by
  obtain ⟨i, hi, hz, hsz, hby⟩ := info_parts info3
  have hnb := Blk.new w 3 #[.int .i64 z]
  have hs : (w.alloc (.cells #[.int .i64 z] 3)).heap.size = w.heap.size + 1 := by simp
  obtain ⟨v', w', h1, h2, h3, _, h5⟩ := run_append_own_at (P := Tryd.prog) (w.alloc (.cells #[.int .i64 z] 3)) base 34 ty 3 i (.int .i64 0) 1 8 Tryd.underlying34 hi hz hsz hby rfl (by decide) v zs.length (zs.map (Value.int .i64)) (hown.alloc _) ⟨w.heap.size, 0, none⟩ 1 1 [.int .i64 z] rfl
    (by
      intro j u hu
      match j, hu with
      | 0, hu => simp at hu; subst hu; exact hnb.cell 0)
    (by intro u hu; simp at hu; subst hu; rfl) (by unfold maxLen; omega) (by omega) (by omega)
  refine ⟨v', w', h1, ?_, h3, by rw [hs] at h5; exact h5⟩
  unfold IOwn
  rw [List.length_append, List.map_append]
  exact h2
theorem IOwn.put {w : World} {base b n c : Nat} {zs : List Int} (h : IOwn w base (.slice (some ⟨b, 0, none⟩) n c) zs) (k : Nat) (z : Int) : IOwn (w.setCell ⟨b, k, none⟩ (.int .i64 z)) base (.slice (some ⟨b, 0, none⟩) n c) (zs.set k z) := by
  have hn := (iown_at h).1
  subst hn
  have := row_set (show w.ownsRow base 3 1 (.slice (some ⟨b, 0, none⟩) zs.length c) zs.length (zs.map (Value.int .i64)) from h) k (.int .i64 z)
  unfold IOwn
  rw [List.length_set, List.map_set]
  exact this
theorem OneR.weak {w : World} {base g i : Nat} {vs : List (Value × Value)} {l : List Ent} (h : OneR w base g vs l i) : OneR w base g vs l (i + 1) :=
  ⟨h.blk, fun j hj hij => h.cell j hj (by omega), fun j h1 h2 hij => h.pts j h1 h2 (by omega), fun j h1 h2 hij => h.els j h1 h2 (by omega)⟩
/-- One round's state: row v of n ints stands as points of entry i. -/
structure Mid (w3 wr : World) (base hi g i : Nat) (vs : List (Value × Value)) (l : List Ent) (v : Value) (n : Nat) : Prop where
  one : OneR wr base g vs l (i + 1)
  cell : wr.cell? ⟨g, i * 2, none⟩ = some v
  row : XInt wr base v n
  apt : ∀ j (hj : j < vs.length), i < j → Apt v vs[j].1 ∧ Apt v vs[j].2
  wrote : Wr base hi w3 wr
  own : ∀ b, v.ownBlock = some b → base ≤ b ∧ (b < hi ∨ w3.heap.size ≤ b)
theorem Wr.set2 {lo hi : Nat} {a b : World} {g k : Nat} (h : Wr lo hi a b) (h1 : lo ≤ g) (h2 : g < hi ∨ a.heap.size ≤ g) (v : Value) : Wr lo hi a (b.setCell ⟨g, k, none⟩ v) :=
  ⟨h.below.setCell (p := ⟨g, k, none⟩) h1 v, fun j q1 q2 => (Below.heap_setCell b ⟨g, k, none⟩ v j (by show j ≠ g; omega)).trans (h.above j q1 q2)⟩
theorem set_size (w : World) (p : Addr) (v : Value) : w.heap.size ≤ (w.setCell p v).heap.size := ((Below.refl 0 w).setCell (p := p) (Nat.zero_le _) v).size
theorem mem_fst {vs : List (Value × Value)} {i : Nat} (h : i < vs.length) : vs[i].1 ∈ flatV vs := List.mem_of_getElem? (flatV_at vs i h).1
theorem mem_snd {vs : List (Value × Value)} {i : Nat} (h : i < vs.length) : vs[i].2 ∈ flatV vs := List.mem_of_getElem? (flatV_at vs i h).2
theorem Mid.start {w3 wr wx : World} {base hi g i : Nat} {vs : List (Value × Value)} {l : List Ent} (hO : OneR wr base g vs l i) (hW : Wr base hi w3 wr) (hi1 : i < vs.length) (hi2 : i < l.length) (hgr : wr.grownBy wx vs[i].2.ownBlock) (hp : (flatV vs).Pairwise Apt) (hlt : ∀ u ∈ flatV vs, ∀ b, u.ownBlock = some b → b < hi) (hbg : base ≤ g ∧ g < hi ∧ hi ≤ w3.heap.size) : Mid w3 wx base hi g i vs l vs[i].1 l[i].1.length := by
  obtain ⟨cs, hB, hs⟩ := hO.blk
  have hE := hO.els i hi1 hi2 (Nat.le_refl _)
  have hP := hO.pts i hi1 hi2 (Nat.le_refl _)
  have hB' := blk_grown hB hE (by decide) hgr
  have hc : ∀ k, wx.cell? ⟨g, k, none⟩ = wr.cell? ⟨g, k, none⟩ := fun k => (hB'.cell k).trans (hB.cell k).symm
  have hsz := hW.below.size
  refine ⟨hO.weak.but ⟨hgr.size, fun b h1 h2 h3 => hgr.block b h1 (fun e => h3 e.symm)⟩ ⟨cs, hB', hs⟩ (fun k _ => hc k) (fun j hj hij => ⟨(apt_at hp hi1 hj hij).2.2.1, (apt_at hp hi1 hj hij).2.2.2⟩), (hc _).trans (hO.cell i hi1 (Nat.le_refl _)).1, ⟨_, rfl, own_other hP (fun b hb => hgr.block b (own_lt hP b hb) (fun e => apt_types hP hE (by decide) b hb e.symm))⟩, fun j hj hij => ⟨(apt_at hp hi1 hj hij).1, (apt_at hp hi1 hj hij).2.1⟩, hW.grown hgr (by omega) (fun b hb => ⟨(own_ge hE hb).1, .inl (hlt _ (mem_snd hi1) b hb)⟩), fun b hb => ⟨(own_ge hP hb).1, .inl (hlt _ (mem_fst hi1) b hb)⟩⟩
theorem Mid.put {w3 wr : World} {base hi g i b c n : Nat} {vs : List (Value × Value)} {l : List Ent} (h : Mid w3 wr base hi g i vs l (.slice (some ⟨b, 0, none⟩) n c) n) (k : Nat) (z : Int) : Mid w3 (wr.setCell ⟨b, k, none⟩ (.int .i64 z)) base hi g i vs l (.slice (some ⟨b, 0, none⟩) n c) n := by
  obtain ⟨zs, hz, hI⟩ := h.row
  obtain ⟨_, c1, f1, q1⟩ := own_ge hI (j := b) rfl
  obtain ⟨cs, hB, hs⟩ := h.one.blk
  have hne : g ≠ b := fun e => by
    subst e
    rw [show wr.heap[g]? = _ from hB] at q1
    simp at q1
  have hB' := hB.other (p := ⟨b, k, none⟩) hne (.int .i64 z)
  have hc : ∀ j, (wr.setCell ⟨b, k, none⟩ (.int .i64 z)).cell? ⟨g, j, none⟩ = wr.cell? ⟨g, j, none⟩ := fun j => (hB'.cell j).trans (hB.cell j).symm
  have hob := h.own b rfl
  refine ⟨h.one.but ⟨set_size _ _ _, fun d h1 h2 h3 => Below.heap_setCell wr ⟨b, k, none⟩ _ d (fun e => h3 (by rw [show d = b from e]; rfl))⟩ ⟨cs, hB', hs⟩ (fun j _ => hc j) h.apt, (hc _).trans h.cell, ⟨zs.set k z, by rw [List.length_set]; exact hz, hI.put k z⟩, h.apt, h.wrote.set2 hob.1 hob.2 _, h.own⟩
theorem Mid.app {w3 wr : World} {base hi g i n : Nat} {v : Value} {vs : List (Value × Value)} {l : List Ent} (h : Mid w3 wr base hi g i vs l v n) (hn : n ≤ 1099511627776) (hlt : ∀ u ∈ flatV vs, ∀ b, u.ownBlock = some b → b < hi) (hil : i < l.length) (hbg : base ≤ g ∧ g < hi ∧ hi ≤ w3.heap.size) (z : Int) (ty : TypeId) :
    ∃ v' w', (Builtin.append_ #[34, 34] ty #[v, .slice (some ⟨wr.heap.size, 0, none⟩) 1 1]).run Tryd.prog (wr.alloc (.cells #[.int .i64 z] 3)) = .ok v' w' ∧ w'.cell? ⟨g, i * 2, none⟩ = some v ∧ w'.frozen? ⟨g, i * 2, none⟩ = false ∧ Mid w3 (w'.setCell ⟨g, i * 2, none⟩ v') base hi g i vs l v' (n + 1) := by
  obtain ⟨zs, hz, hI⟩ := h.row
  subst hz
  have hsz := h.wrote.below.size
  obtain ⟨v', w', hr, hI', hgr, hat⟩ := app_one hI z hn (by omega) ty
  obtain ⟨cs, hB, hs⟩ := h.one.blk
  have hBa : Blk (wr.alloc (.cells #[.int .i64 z] 3)) g 37 cs := (Below.heap_alloc wr _ g hB.lt).trans hB
  have hB' : Blk w' g 37 cs := blk_grown hBa (World.ownsRow.alloc hI _) (by decide) hgr
  have hzz : (wr.alloc (.cells #[.int .i64 z] 3)).heap.size = wr.heap.size + 1 := by simp
  have hzw := hgr.size
  have hc : ∀ k, w'.cell? ⟨g, k, none⟩ = wr.cell? ⟨g, k, none⟩ := fun k => (hB'.cell k).trans (hB.cell k).symm
  have hne : ∀ b, v'.ownBlock = some b → b ≠ g := fun b hb e => by
    obtain ⟨_, c1, f1, q1⟩ := own_ge hI' hb
    subst e
    rw [show w'.heap[b]? = _ from hB'] at q1
    simp at q1
  have hBs := hB'.set (i * 2) v'
  refine ⟨v', w', hr, (hc _).trans h.cell, hB'.frozen _, h.one.but ⟨?_, fun b h1 h2 h3 => ?_⟩ ⟨_, hBs, by rw [Array.size_setIfInBounds]; exact hs⟩ (fun k hk => ?_) h.apt, ?_, ⟨zs ++ [z], by simp, own_other hI' (fun b hb => Below.heap_setCell w' ⟨g, i * 2, none⟩ v' b (hne b hb))⟩, fun j hj hij => ?_, ((h.wrote.alloc (by omega) _).grown hgr (by omega) h.own).set hbg.1 hbg.2.1 v', fun b hb => ?_⟩
  · have := set_size w' ⟨g, i * 2, none⟩ v'
    omega
  · exact (Below.heap_setCell w' ⟨g, i * 2, none⟩ v' b h2).trans ((hgr.block b (by omega) (fun e => h3 e.symm)).trans (Below.heap_alloc wr _ b h1))
  · rw [hBs.cell, hB.cell, Array.getElem?_setIfInBounds_ne (by omega)]
  · rw [hBs.cell, Array.getElem?_setIfInBounds_self_of_lt (by omega)]
  · rcases hat with e | e
    · exact ⟨fun b hb => (h.apt j hj hij).1 b (e.symm.trans hb), fun b hb => (h.apt j hj hij).2 b (e.symm.trans hb)⟩
    · refine ⟨fun b hb hb2 => ?_, fun b hb hb2 => ?_⟩
      · have h1 := hlt _ (mem_fst hj) b hb2
        rw [e] at hb
        simp only [Option.some.injEq] at hb
        omega
      · have h1 := hlt _ (mem_snd hj) b hb2
        rw [e] at hb
        simp only [Option.some.injEq] at hb
        omega
  · rcases hat with e | e
    · exact h.own b (e.symm.trans hb)
    · rw [e] at hb
      simp only [Option.some.injEq] at hb
      exact ⟨by omega, .inr (by omega)⟩
theorem Mid.done {w3 wr : World} {base hi g i n : Nat} {v : Value} {vs : List (Value × Value)} {l : List Ent} (h : Mid w3 wr base hi g i vs l v n) (hbg : base ≤ g ∧ g < hi ∧ hi ≤ w3.heap.size) (x y : Value) :
    OneR ((wr.setCell ⟨g, i * 2, none⟩ x).setCell ⟨g, i * 2 + 1, none⟩ y) base g vs l (i + 1) ∧ Wr base hi w3 ((wr.setCell ⟨g, i * 2, none⟩ x).setCell ⟨g, i * 2 + 1, none⟩ y) := by
  obtain ⟨cs, hB, hs⟩ := h.one.blk
  have hB2 := (hB.set (i * 2) x).set (i * 2 + 1) y
  refine ⟨h.one.but (pv := .slice none 0 0) ⟨Nat.le_trans (set_size _ _ _) (set_size _ _ _), fun b h1 h2 h3 => (Below.heap_setCell _ ⟨g, i * 2 + 1, none⟩ y b h2).trans (Below.heap_setCell wr ⟨g, i * 2, none⟩ x b h2)⟩ ⟨_, hB2, by rw [Array.size_setIfInBounds, Array.size_setIfInBounds]; exact hs⟩ (fun k hk => ?_) (fun j hj hij => ⟨fun b hb => (by cases hb), fun b hb => (by cases hb)⟩), (h.wrote.set hbg.1 hbg.2.1 x).set hbg.1 hbg.2.1 y⟩
  rw [hB2.cell, hB.cell, Array.getElem?_setIfInBounds_ne (by omega), Array.getElem?_setIfInBounds_ne (by omega)]
theorem Mid.cellA {w3 wr : World} {base hi g i n : Nat} {v : Value} {vs : List (Value × Value)} {l : List Ent} (h : Mid w3 wr base hi g i vs l v n) (o : Obj) : (wr.alloc o).cell? ⟨g, i * 2, none⟩ = some v := by
  obtain ⟨cs, hB, _⟩ := h.one.blk
  have hBa : Blk (wr.alloc o) g 37 cs := (Below.heap_alloc wr o g hB.lt).trans hB
  exact ((hBa.cell _).trans (hB.cell _).symm).trans h.cell
theorem EntsO.above {w w' : World} {base : Nat} {v : Value} {vs : List (Value × Value)} {E : List Ent} (h : EntsO w base v vs E) (hk : ∀ b, base ≤ b → b < w.heap.size → w'.heap[b]? = w.heap[b]?) : EntsO w' base v vs E := by
  have q : ∀ {u : Value} {e : TypeId} {s k : Nat} {xs : List Value}, w.ownsRow base e s u k xs → w'.ownsRow base e s u k xs := fun hu => own_other hu (fun g hg => hk g (own_ge hu hg).1 (own_lt hu g hg))
  exact ⟨q h.row, h.len, fun j h1 h2 => q (h.pts j h1 h2), fun j h1 h2 => q (h.els j h1 h2), h.apt⟩
theorem XInt.nth {w : World} {base m c : Nat} {a : Option Addr} (h : XInt w base (.slice a m c) m) (hm : 0 < m) : ∃ b, a = some ⟨b, 0, none⟩ ∧ (∀ j, j < m → ∃ u, w.cell? ⟨b, j, none⟩ = some u) ∧ ∀ j, w.frozen? ⟨b, j, none⟩ = false := by
  obtain ⟨zs, hz, hI⟩ := h
  have hx := hI
  rcases hx.2 with ⟨e, h0⟩ | ⟨g', c', cur, e, hb, hh, hc1, hc2, hc3, hc4⟩
  · omega
  · cases e
    exact ⟨_, rfl, fun j hj => ⟨.int .i64 zs[j], (iown_at hI).2.2.2 j (by omega)⟩, fun j => by simp [World.frozen?, hh]⟩
set_option maxHeartbeats 8000000 in
set_option maxRecDepth 20000 in
theorem all_any (T : Nat) (a : Option Addr) (c n₀ : Nat) (l E : List Ent) (w : World) (hn₀ : n₀ ≤ w.heap.size) (hB : Both w n₀ T a c l E) :
    Calls Tryd.prog 10 #[.pointer (some ⟨T, 0, none⟩), .agg #[.slice a l.length c]] w fun e w' => e = .returned (.bool true) ∧ Below w.heap.size w w' := by
  have hb0 := (Below.refl w.heap.size w).alloc (Nat.le_refl _) (.cells #[.slice a l.length c] 29)
  have hbn := Blk.new w 29 #[.slice a l.length c]
  have hll : l.length ≤ 4096 := by rw [hB.perm.length_eq]; exact hB.few
  have hpl : ∀ e ∈ l, EntOk e := fun e he => hB.ok e (hB.perm.mem_iff.1 he)
  have HPL : Hid (∀ e ∈ l, EntOk e) := hpl
  have HEN : Hid (∀ x, Below w.heap.size w x → Calls Tryd.prog 24 #[.pointer (some ⟨T, 0, none⟩)] x fun e w' => ∃ v vs, e = .returned v ∧ EntsO w' x.heap.size v vs l ∧ Below x.heap.size x w') := fun x hx => by
    obtain ⟨me, ml, val, ht⟩ := (hB.below hx hn₀).tab
    refine (entries_any T me ml val E x ht hB.few hB.nodup).mono fun e w' h => ?_
    obtain ⟨v, vs, es, h1, h2, h3, h4, h5⟩ := h
    have e2 := rise_one (h4.trans hB.perm.symm) h3 (riseF_rise hB.rise)
    subst e2
    exact ⟨v, vs, h1, h2, h5⟩
  have HSE : Hid (∀ (x : World) (v : Value), Below w.heap.size w x → EIn x.heap.size x v l → Calls Tryd.prog 32 #[v, .slice a l.length c] x fun e w' => e = .returned (.bool true) ∧ Below x.heap.size x w') := fun x v hx hi => by
    refine (sameEnts_any v (.slice a l.length c) l x.heap.size n₀ x hi (nin_ein (hB.doc.below hx hn₀)) (by omega) (fun y hy => ?_)).mono fun e w' h => ?_
    · have h1 := (rowB_lenE (hpl y hy).row).2
      have h2 := (hpl y hy).n1
      omega
    · obtain ⟨rfl, n, rfl⟩ := h
      exact ⟨rfl, below_drewN _ _⟩
  obtain ⟨ln, hln⟩ : ∃ ln, l.length = ln := ⟨_, rfl⟩
  have HLN : Hid (l.length = ln) := hln
  rw [hln] at hb0 hbn hll HSE ⊢
  clear hpl hB hln
  go_enter Tryd.func10, Tryd.ntmps10
  go_upto_region 1 with fail
  generalize w.alloc (.cells #[.slice a ln c] 29) = W at hb0 hbn ⊢
  have HB0 : Hid (Below w.heap.size w W) := hb0
  have HBN : Hid (Blk W w.heap.size 29 #[.slice a ln c]) := hbn
  have hwW := hbn.lt
  have hc := HEN.out W hb0
  clear hb0 hbn
  go_wp2_with fail
  refine hc.mono ?_
  clear hc
  rintro _ w1 ⟨v1, vs1, rfl, ho1, hb1⟩
  have HB1 : Hid (Below w.heap.size w w1) := HB0.out.trans (hb1.mono HB0.out.size)
  have HO1 : Hid (EntsO w1 W.heap.size v1 vs1 l) := ho1
  have HX1 : Hid (Below W.heap.size W w1) := hb1
  have hc := HEN.out w1 HB1.out
  clear ho1 hb1
  go_wp2_with fail
  refine hc.mono ?_
  clear hc
  rintro _ w2 ⟨v2, vs2, rfl, ho2, hb2⟩
  have HB2 : Hid (Below w.heap.size w w2) := HB1.out.trans (hb2.mono HB1.out.size)
  have HX2 : Hid (Below W.heap.size W w2) := HX1.out.trans (hb2.mono HX1.out.size)
  have HO2 : Hid (EntsO w2 w1.heap.size v2 vs2 l) := ho2
  have HO12 : Hid (EntsO w2 W.heap.size v1 vs1 l) := HO1.out.below hb2 (Nat.le_refl _)
  have e0 : w2.cell? ⟨w.heap.size, 0, none⟩ = some (.slice a ln c) := (HX2.out.cell (p := ⟨w.heap.size, 0, none⟩) hwW).trans (HBN.out.cell 0)
  have hc := HSE.out w2 v1 HB2.out HO12.out.inn
  have hz12 := hb2.size
  clear ho2 hb2
  go_wp2_with fail
  refine hc.mono ?_
  clear hc e0
  rintro _ w3 ⟨rfl, hb3⟩
  have HB3 : Hid (Below w.heap.size w w3) := HB2.out.trans (hb3.mono HB2.out.size)
  have HX3 : Hid (Below W.heap.size W w3) := HX2.out.trans (hb3.mono HX2.out.size)
  have HO23 : Hid (EntsO w3 w1.heap.size v2 vs2 l) := HO2.out.below hb3 (Nat.le_refl _)
  have HO13 : Hid (EntsO w3 W.heap.size v1 vs1 l) := HO12.out.below hb3 (Nat.le_refl _)
  have HLT : Hid (∀ u ∈ flatV vs1, ∀ g, u.ownBlock = some g → g < w1.heap.size) := HO1.out.lt
  have HRL : Hid (∀ g, v1.ownBlock = some g → g < w1.heap.size) := fun g hg => own_lt HO1.out.row g hg
  have hz23 := hb3.size
  have hzW1 := HX1.out.size
  have hvl : vs1.length = l.length := HO13.out.len
  have HVL : Hid (vs1.length = l.length) := hvl
  obtain ⟨g, cap, a0, hv1, hOne⟩ : ∃ g cap a0, v1 = .slice a0 ln cap ∧ (0 < ln → a0 = some ⟨g, 0, none⟩ ∧ W.heap.size ≤ g ∧ g < w1.heap.size ∧ OneR w3 W.heap.size g vs1 l 0) := by
    by_cases h0 : 0 < ln
    · obtain ⟨g, cap, hv, hg, hO⟩ := HO13.out.oneR (by rw [HLN.out]; exact h0)
      rw [HLN.out] at hv
      exact ⟨g, cap, _, hv, fun _ => ⟨rfl, hg, HRL.out g (by rw [hv]; rfl), hO⟩⟩
    · obtain ⟨a', c', hv⟩ := row_val HO13.out.row
      rw [HLN.out] at hv
      exact ⟨0, c', a', hv, fun h => absurd h h0⟩
  subst hv1
  have HON : Hid (0 < ln → a0 = some ⟨g, 0, none⟩ ∧ W.heap.size ≤ g ∧ g < w1.heap.size ∧ OneR w3 W.heap.size g vs1 l 0) := hOne
  clear hb3 HO2 HO12 HB2 HX2 HO1 HRL hvl hOne
  go_upto_region 5 with fail
  go_loopw [8, 9, 10] (fun iv _ _ wr => ∃ i : Nat, i ≤ ln ∧ iv = .int .i64 (i : Int) ∧ Hid (0 < ln → OneR wr W.heap.size g vs1 l i) ∧ Hid (Wr W.heap.size w1.heap.size w3 wr)) (fun iv _ _ _ => ln - (intOf iv).toNat)
  case atStart => exact ⟨0, Nat.zero_le _, rfl, fun h => (HON.out h).2.2.2, Wr.refl _ _ _⟩
  case round =>
    obtain ⟨i, hi, rfl, HO, HW⟩ := hrel
    by_cases hlt : i < ln
    · obtain ⟨rfl, hWg, hg1, _⟩ := HON.out (by omega)
      have hO := HO.out (by omega)
      have hWW := HW.out
      have hi1 : i < vs1.length := by rw [HVL.out, HLN.out]; exact hlt
      have hi2 : i < l.length := by rw [HLN.out]; exact hlt
      have hbg : W.heap.size ≤ g ∧ g < w1.heap.size ∧ w1.heap.size ≤ w3.heap.size := ⟨hWg, hg1, by omega⟩
      have hen : EntOk l[i] := HPL.out _ (List.getElem_mem hi2)
      have hms : l[i].1.length ≤ 8 := (rowB_lenE hen.row).2
      have hcell := hO.cell i hi1 (Nat.le_refl _)
      have hE := hO.els i hi1 hi2 (Nat.le_refl _)
      have hsr := hWW.below.size
      have hst : ∀ wx, wr.grownBy wx vs1[i].2.ownBlock → Mid w3 wx W.heap.size w1.heap.size g i vs1 l vs1[i].1 l[i].1.length := fun wx hx => Mid.start hO hWW hi1 hi2 hx HO13.out.apt HLT.out hbg
      have hc := written_any W.heap.size vs1[i].2 l[i].2.length wr (by have := hen.n1; omega) (by omega) (xown hE)
      obtain ⟨cs, hB, hcs⟩ := hO.blk
      have HBG : Hid (W.heap.size ≤ g ∧ g < w1.heap.size ∧ w1.heap.size ≤ w3.heap.size) := hbg
      have HIL : Hid (i < l.length) := hi2
      generalize vs1[i].1 = vp at hcell hst
      generalize vs1[i].2 = ve at hcell hst hc
      generalize l[i].1.length = m at hst hms
      obtain ⟨c0, c1⟩ := hcell
      have HST : Hid (∀ wx, wr.grownBy wx ve.ownBlock → Mid w3 wx W.heap.size w1.heap.size g i vs1 l vp m) := hst
      clear hO hWW hen hE hi1 hi2 hbg hst HO HW hB hcs hWg hg1 hsr
      go_wp2_with fail
      refine hc.mono ?_
      clear hc c0 c1
      rintro _ wx ⟨rfl, hgr⟩
      have HMX : Hid (Mid w3 wx W.heap.size w1.heap.size g i vs1 l vp m) := HST.out wx hgr
      clear HST hgr
      obtain ⟨pa, pc, hvp⟩ : ∃ pa pc, vp = .slice pa m pc := by
        obtain ⟨zs, hz, hI⟩ := HMX.out.row
        obtain ⟨a', c', e⟩ := row_val hI
        rw [hz] at e
        exact ⟨a', c', e⟩
      subst hvp
      go_wp2_with fail
      go_loopw [9] (fun kv wy => ∃ k : Nat, k ≤ m ∧ kv = .int .i64 (k : Int) ∧ Hid (Mid w3 wy W.heap.size w1.heap.size g i vs1 l (.slice pa m pc) m)) (fun kv _ => m - (intOf kv).toNat)
      case atStart => exact ⟨0, Nat.zero_le _, rfl, HMX.out⟩
      case round =>
        obtain ⟨k, hk, rfl, HM⟩ := hrel
        have e1 := HM.out.cell
        by_cases hk2 : k < m
        · obtain ⟨b, rfl, hbc, hbf⟩ := HM.out.row.nth (by omega)
          obtain ⟨u, eu⟩ := hbc k hk2
          have ef := hbf k
          have HM2 : Hid (Mid w3 (_ : World) W.heap.size w1.heap.size g i vs1 l (.slice (some ⟨b, 0, none⟩) m pc) m) := HM.out.put k (-5)
          clear hbc hbf HM
          go_wp2_with fail
          go_roundw
          case rel => exact ⟨k + 1, by omega, by simp, HM2.out⟩
          case measure => simp only [intOf]; omega
        · go_wp2_with fail
          go_loopw [10] (fun kv wz => ∃ (k n : Nat) (v5 : Value), k ≤ 9 ∧ kv = .int .i64 (k : Int) ∧ Hid (n = m + k) ∧ Hid (Mid w3 wz W.heap.size w1.heap.size g i vs1 l v5 n)) (fun kv _ => 9 - (intOf kv).toNat)
          case atStart => exact ⟨0, m, _, Nat.zero_le _, rfl, rfl, HM.out⟩
          case round =>
            clear e1 HM
            obtain ⟨k5, n, v5, hk5, rfl, hn5, HM⟩ := hrel
            have e1 := HM.out.cell
            by_cases hk6 : k5 < 9
            · obtain ⟨v6, w6, hr6, hc6, hf6, HM6⟩ := HM.out.app (by have := hn5.out; omega) HLT.out HIL.out HBG.out (-6) 34
              have e1a : (wr.alloc (.cells #[.int .i64 (-6)] 3)).cell? ⟨g, i * 2, none⟩ = some v5 := HM.out.cellA _
              obtain ⟨a6, c6, hv6⟩ : ∃ a6 c6, v6 = .slice a6 (n + 1) c6 := by
                obtain ⟨zs, hz, hI⟩ := HM6.row
                obtain ⟨a', c', e⟩ := row_val hI
                rw [hz] at e
                exact ⟨a', c', e⟩
              subst hv6
              have HM7 : Hid (Mid w3 (w6.setCell ⟨g, i * 2, none⟩ (.slice a6 (n + 1) c6)) W.heap.size w1.heap.size g i vs1 l (.slice a6 (n + 1) c6) (n + 1)) := HM6
              clear HM6 HM
              go_wp2_with (at_builtin; refine wpList_app rfl _ _ 34 rfl rfl rfl ?_; refine ⟨_, w6, hr6, ?_⟩)
              go_roundw
              case rel => exact ⟨k5 + 1, n + 1, _, by omega, by simp, (by have := hn5.out; show n + 1 = m + (k5 + 1); omega), HM7.out⟩
              case measure => simp only [intOf]; omega
            · obtain ⟨cs, hB, hcs⟩ := HM.out.one.blk
              have hil := HIL.out
              obtain ⟨u2, e2⟩ : ∃ u, wr.cell? ⟨g, i * 2 + 1, none⟩ = some u := ⟨cs[i * 2 + 1]'(by omega), by rw [hB.cell]; exact Array.getElem?_eq_getElem _⟩
              have f1 := hB.frozen (i * 2)
              have f2 := hB.frozen (i * 2 + 1)
              have HD : Hid _ := HM.out.done HBG.out (.slice none 0 0) (.slice none 0 0)
              clear HM hB hcs hil
              go_wp2_with fail
              go_roundw
              case rel => exact ⟨i + 1, by omega, by simp, fun _ => HD.out.1, HD.out.2⟩
              case measure => simp only [intOf]; omega
    · have hwr := HX3.out.trans HW.out.below
      have hws := hwr.size
      have HBw : Hid (Below w.heap.size w wr) := HB3.out.trans (HW.out.below.mono (by omega))
      have HO2 : Hid (EntsO wr w1.heap.size v2 vs2 l) := HO23.out.above HW.out.above
      have HCL : Hid (∀ x, Below wr.heap.size wr x → x.cell? ⟨w.heap.size, 0, none⟩ = some (.slice a ln c)) := fun x hx => (hx.cell (p := ⟨w.heap.size, 0, none⟩) (show w.heap.size < wr.heap.size by omega)).trans ((hwr.cell (p := ⟨w.heap.size, 0, none⟩) hwW).trans (HBN.out.cell 0))
      have HBX : Hid (∀ x, Below wr.heap.size wr x → Below w.heap.size w x) := fun x hx => HBw.out.trans (hx.mono HBw.out.size)
      have HSX : Hid (∀ x, Below wr.heap.size wr x → Calls Tryd.prog 32 #[v2, .slice a ln c] x fun e w' => e = .returned (.bool true) ∧ Below x.heap.size x w') := fun x hx => HSE.out x v2 (HBX.out x hx) (HO2.out.below hx (Nat.le_refl _)).inn
      have HEX : Hid (∀ x, Below wr.heap.size wr x → Calls Tryd.prog 24 #[.pointer (some ⟨T, 0, none⟩)] x fun e w' => ∃ v vs, e = .returned v ∧ EntsO w' x.heap.size v vs l ∧ Below x.heap.size x w') := fun x hx => HEN.out x (HBX.out x hx)
      clear hwr hws HO HW HO23 HO13 HON HX3 HB3 HX1 HB1
      go_upto_region 17 with fail
      refine wp_region_held_drew (S := fun x => Below wr.heap.size wr x) (by kernel_rfl) ((Below.refl wr.heap.size wr).drew) (fun hHeldz => ?_)
      refine wpAnyH_takeD (i := 0) (some 67) (v := ?vz0) rfl rfl (by kernel_rfl) (by kernel_rfl) (by kernel_rfl) (fun _ _ _ h => h) (Or.inl ⟨by kernel_rfl, ?hyz0⟩) (by assumption) ?restz0
      case hyz0 => (intro x hSx; (try dsimp only at hSx); go_simp; first | done | with_reducible rfl)
      try simp only [Act.put, List.setIfInBounds_toArray, List.set_cons_zero, List.set_cons_succ]
      refine wpAnyH_takeD (i := 1) (some 68) (v := ?vz1) rfl rfl (by kernel_rfl) (by kernel_rfl) (by kernel_rfl) (fun _ _ _ h => h) (Or.inl ⟨by kernel_rfl, ?hyz1⟩) (by assumption) ?restz1
      case hyz1 => (intro x hSx; (try dsimp only at hSx); go_simp; first | done | with_reducible rfl)
      try simp only [Act.put, List.setIfInBounds_toArray, List.set_cons_zero, List.set_cons_succ]
      refine wpAnyH_takeD (i := 2) (some 69) (v := ?vz2) rfl rfl (by kernel_rfl) (by kernel_rfl) (by kernel_rfl) (fun _ _ _ h => h) (Or.inl ⟨by kernel_rfl, ?hyz2⟩) (by assumption) ?restz2
      case hyz2 => (intro x hSx; (try dsimp only at hSx); go_simp; first | done | with_reducible rfl)
      try simp only [Act.put, List.setIfInBounds_toArray, List.set_cons_zero, List.set_cons_succ]
      refine wpAnyH_takeD (i := 3) (some 70) (v := ?vz3) rfl rfl (by kernel_rfl) (by kernel_rfl) (by kernel_rfl) (fun _ _ _ h => h) (Or.inl ⟨by kernel_rfl, ?hyz3⟩) (by assumption) ?restz3
      case hyz3 => (intro x hSx; (try dsimp only at hSx); go_simp; first | done | with_reducible rfl)
      try simp only [Act.put, List.setIfInBounds_toArray, List.set_cons_zero, List.set_cons_succ]
      refine wpAnyH_takeD (i := 4) (some 71) (v := ?vz4) rfl rfl (by kernel_rfl) (by kernel_rfl) (by kernel_rfl) (fun _ _ _ h => h) (Or.inl ⟨by kernel_rfl, ?hyz4⟩) (by assumption) ?restz4
      case hyz4 => (intro x hSx; (try dsimp only at hSx); obtain e0x := HCL.out x hSx; go_simp; first | done | with_reducible rfl)
      try simp only [Act.put, List.setIfInBounds_toArray, List.set_cons_zero, List.set_cons_succ]
      refine wpAnyH_ready (rs := [5]) (by kernel_rfl) (by simp) ?_
      refine AllReadyH.cons rfl (fun K hK => ?_) AllReadyH.nil
      go_simp
      go_wp2_with (go_at_call 32; refine (HSX.out _ hHeldz).mono ?_; rintro e yz5 ⟨rfl, hqz5⟩)
      refine hK.out _ _ (hHeldz.trans (hqz5.mono hHeldz.size)) (fun hHeldz5 => ?_)
      clear hK K
      try simp only [Act.put, List.setIfInBounds_toArray, List.set_cons_zero, List.set_cons_succ]
      refine wpAnyH_takeD (i := 6) (some 73) (v := ?vz6) rfl rfl (by kernel_rfl) (by kernel_rfl) (by kernel_rfl) (fun _ _ _ h => h) (Or.inl ⟨by kernel_rfl, ?hyz6⟩) (by assumption) ?restz6
      case hyz6 => (intro x hSx; (try dsimp only at hSx); go_simp; first | done | with_reducible rfl)
      try simp only [Act.put, List.setIfInBounds_toArray, List.set_cons_zero, List.set_cons_succ]
      refine wpAnyH_takeD (i := 7) (some 74) (v := ?vz7) rfl rfl (by kernel_rfl) (by kernel_rfl) (by kernel_rfl) (fun _ _ _ h => h) (Or.inl ⟨by kernel_rfl, ?hyz7⟩) (by assumption) ?restz7
      case hyz7 => (intro x hSx; (try dsimp only at hSx); go_simp; first | done | with_reducible rfl)
      try simp only [Act.put, List.setIfInBounds_toArray, List.set_cons_zero, List.set_cons_succ]
      refine wpAnyH_takeD (i := 8) (some 75) (v := ?vz8) rfl rfl (by kernel_rfl) (by kernel_rfl) (by kernel_rfl) (fun _ _ _ h => h) (Or.inl ⟨by kernel_rfl, ?hyz8⟩) (by assumption) ?restz8
      case hyz8 => (intro x hSx; (try dsimp only at hSx); go_simp; first | done | with_reducible rfl)
      try simp only [Act.put, List.setIfInBounds_toArray, List.set_cons_zero, List.set_cons_succ]
      refine wpAnyH_takeD (i := 10) (some 77) (v := ?vz10) rfl rfl (by kernel_rfl) (by kernel_rfl) (by kernel_rfl) (fun _ _ _ h => h) (Or.inl ⟨by kernel_rfl, ?hyz10⟩) (by assumption) ?restz10
      case hyz10 => (intro x hSx; (try dsimp only at hSx); go_simp; first | done | with_reducible rfl)
      try simp only [Act.put, List.setIfInBounds_toArray, List.set_cons_zero, List.set_cons_succ]
      refine wpAnyH_takeD (i := 11) (some 78) (v := ?vz11) rfl rfl (by kernel_rfl) (by kernel_rfl) (by kernel_rfl) (fun _ _ _ h => h) (Or.inl ⟨by kernel_rfl, ?hyz11⟩) (by assumption) ?restz11
      case hyz11 => (intro x hSx; (try dsimp only at hSx); obtain e0x := HCL.out x hSx; go_simp; first | done | with_reducible rfl)
      try simp only [Act.put, List.setIfInBounds_toArray, List.set_cons_zero, List.set_cons_succ]
      refine wpAnyH_ready (rs := [9]) (by kernel_rfl) (by simp) ?_
      refine AllReadyH.cons rfl (fun K hK => ?_) AllReadyH.nil
      go_simp
      go_wp2_with (go_at_call 24; refine (HEX.out _ hHeldz5).mono ?_; rintro e yz9 ⟨vz9, vsz9, rfl, hoz9, hqz9⟩)
      have HT9 : Hid (Calls Tryd.prog 32 #[vz9, .slice a ln c] yz9 fun e w' => e = .returned (.bool true) ∧ Below yz9.heap.size yz9 w') := HSE.out yz9 _ (HBX.out _ (hHeldz5.trans (hqz9.mono hHeldz5.size))) hoz9.inn
      refine hK.out _ _ (hHeldz5.trans (hqz9.mono hHeldz5.size)) (fun hHeldz9 => ?_)
      clear hK K
      try simp only [Act.put, List.setIfInBounds_toArray, List.set_cons_zero, List.set_cons_succ]
      refine wpAnyH_ready (rs := [12]) (by kernel_rfl) (by simp) ?_
      refine AllReadyH.cons rfl (fun K hK => ?_) AllReadyH.nil
      go_simp
      go_wp2_with (go_at_call 32; refine HT9.out.mono ?_; rintro e yz12 ⟨rfl, hqz12⟩)
      refine hK.out _ _ (hHeldz9.trans (hqz12.mono hHeldz9.size)) (fun hHeldz12 => ?_)
      clear hK K
      try simp only [Act.put, List.setIfInBounds_toArray, List.set_cons_zero, List.set_cons_succ]
      refine wpAnyH_takeD (i := 13) (some 80) (v := ?vz13) rfl rfl (by kernel_rfl) (by kernel_rfl) (by kernel_rfl) (fun _ _ _ h => h) (Or.inl ⟨by kernel_rfl, ?hyz13⟩) (by assumption) ?restz13
      case hyz13 => (intro x hSx; (try dsimp only at hSx); go_simp; first | done | with_reducible rfl)
      try simp only [Act.put, List.setIfInBounds_toArray, List.set_cons_zero, List.set_cons_succ]
      refine wpAnyH_takeD (i := 14) (some 4) (v := ?vz14) rfl rfl (by kernel_rfl) (by kernel_rfl) (by kernel_rfl) (fun _ _ _ h => h) (Or.inl ⟨by kernel_rfl, ?hyz14⟩) (by assumption) ?restz14
      case hyz14 => (intro x hSx; (try dsimp only at hSx); go_simp; first | done | with_reducible rfl)
      try simp only [Act.put, List.setIfInBounds_toArray, List.set_cons_zero, List.set_cons_succ]
      refine wpAnyH_done (by kernel_rfl) ?_ _
      go_wp2_with fail
      go_ret
      exact ⟨rfl, HBX.out _ hHeldz12⟩
end Go.Proofs.YtfeppbiodbhpcaaDoor
