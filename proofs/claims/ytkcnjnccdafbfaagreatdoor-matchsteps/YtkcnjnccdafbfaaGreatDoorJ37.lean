/- Contracts and lemmas (nothing is claimed here). -/
import Derived.Test.YtkcnjnccdafbfaaGreatDoorJ36
import Derived.Test.YtkcnjnccdafbfaaGreatDoorJ11
import Derived.Test.YtkcnjnccdafbfaaGreatDoorTLd
import Derived.Test.YtkcnjnccdafbfaaGreatDoorLoadsK
import Derived.Test.YtkcnjnccdafbfaaGreatDoorJ29
import Derived.Test.YtkcnjnccdafbfaaGreatDoorJ12
namespace Go.Proofs.YtkcnjnccdafbfaaGreatDoor
open Go.RowKit Go.Vf Go.Maps
structure Wr (lo hi : Nat) (w w' : World) : Prop where
  below : Below lo w w'
  above : ∀ b, hi ≤ b → b < w.heap.size → w'.heap[b]? = w.heap[b]?
theorem Wr.refl (lo hi : Nat) (w : World) : Wr lo hi w w := ⟨Below.refl _ _, fun _ _ _ => rfl⟩
theorem Wr.grown {lo hi : Nat} {a b c : World} {v : Value} (h : Wr lo hi a b) (hg : b.grownBy c v.ownBlock) (hlo : lo ≤ b.heap.size) (hv : ∀ g, v.ownBlock = some g → lo ≤ g ∧ (g < hi ∨ a.heap.size ≤ g)) : Wr lo hi a c :=
  ⟨h.below.grown hg hlo (fun k hk => (hv k hk).1), fun k h1 h2 => (hg.block k (Nat.lt_of_lt_of_le h2 h.below.size) (fun e => by have := (hv k e.symm).2; omega)).trans (h.above k h1 h2)⟩
theorem Wr.set2 {lo hi : Nat} {a b : World} {g k : Nat} (h : Wr lo hi a b) (h1 : lo ≤ g) (h2 : g < hi ∨ a.heap.size ≤ g) (v : Value) : Wr lo hi a (b.setCell ⟨g, k, none⟩ v) :=
  ⟨h.below.setCell (p := ⟨g, k, none⟩) h1 v, fun j q1 q2 => (Below.heap_setCell b ⟨g, k, none⟩ v j (by show j ≠ g; omega)).trans (h.above j q1 q2)⟩
theorem Wr.alloc {lo hi : Nat} {a b : World} (h : Wr lo hi a b) (hlo : lo ≤ b.heap.size) (o : Obj) : Wr lo hi a (b.alloc o) :=
  ⟨h.below.alloc hlo o, fun k h1 h2 => (Below.heap_alloc b o k (Nat.lt_of_lt_of_le h2 h.below.size)).trans (h.above k h1 h2)⟩
theorem wpList_app {w : World} {ops : Array Oper} {rest : List Oper} {o : Oper} {a : Act} {Q : Exit → Act → World → Prop} (hgd : o.guard = none) (s x : Operand) (t : TypeId) (ho : o.op = .call { callee := .builtin .append, args := #[s, x], argTypes := #[t, t] }) {v u : Value} (hs : a.eval s = v) (hx : a.eval x = u)
    (h : ∃ v' w', (Builtin.append_ #[t, t] o.type #[v, u]).run Tryz.prog w = .ok v' w' ∧ wpList Tryz.prog ops Q rest (a.put o.dst v') w') : wpList Tryz.prog ops Q (o :: rest) a w := by
  obtain ⟨v', w', hr, h2⟩ := h
  refine wpList_plain hgd fun K hK => ?_
  unfold Oper.wp execOp
  simp only [ho, resolve, invoke, builtin, Sem.run_bind, Sem.run_pure, Result.andThen_ok, List.map_toArray, List.map_cons, List.map_nil, hs, hx, hr]
  exact hK _ _ h2
theorem set_size (w : World) (p : Addr) (v : Value) : w.heap.size ≤ (w.setCell p v).heap.size := ((Below.refl 0 w).setCell (p := p) (Nat.zero_le _) v).size
theorem app_one {w : World} {base : Nat} {v : Value} {zs : List Int} (hown : IOwn w base v zs) (z : Int) (hlen : zs.length ≤ 1099511627776) (hbase : base ≤ w.heap.size) (ty : TypeId) :
    ∃ v' w', (Builtin.append_ #[24, 24] ty #[v, .slice (some ⟨w.heap.size, 0, none⟩) 1 1]).run Tryz.prog (w.alloc (.cells #[.int .i64 z] 3)) = .ok v' w' ∧ IOwn w' base v' (zs ++ [z]) ∧ (w.alloc (.cells #[.int .i64 z] 3)).grownBy w' v.ownBlock ∧ (v'.ownBlock = v.ownBlock ∨ v'.ownBlock = some (w.heap.size + 1)) := by
  obtain ⟨i, hi, hz, hsz, hby⟩ := info_parts info3
  have hnb := Blk.new w 3 #[.int .i64 z]
  have hs : (w.alloc (.cells #[.int .i64 z] 3)).heap.size = w.heap.size + 1 := by simp
  obtain ⟨v', w', h1, h2, h3, _, h5⟩ := run_append_own_at (P := Tryz.prog) (w.alloc (.cells #[.int .i64 z] 3)) base 24 ty 3 i (.int .i64 0) 1 8 Tryz.underlying24 hi hz hsz hby rfl (by decide) v zs.length (zs.map (Value.int .i64)) (World.ownsRow.alloc hown _) ⟨w.heap.size, 0, none⟩ 1 1 [.int .i64 z] rfl
    (by
      intro j u hu
      match j, hu with
      | 0, hu => simp at hu; subst hu; exact hnb.cell 0)
    (by intro u hu; simp at hu; subst hu; rfl) (by unfold maxLen; omega) (by omega) (by omega)
  refine ⟨v', w', h1, ?_, h3, by rw [hs] at h5; exact h5⟩
  unfold IOwn
  rw [List.length_append, List.map_append]
  exact h2
theorem IOwn.put {w : World} {base b n c : Nat} {zs : List Int} (h : IOwn w base (.slice (some ⟨b, 0, none⟩) n c) zs) (k : Nat) (z : Int) : IOwn (w.setCell ⟨b, k, none⟩ (.int .i64 z)) base (.slice (some ⟨b, 0, none⟩) n c) (zs.set k z) := by
  have hx := h.2
  obtain ⟨a', c', e⟩ := h.val
  obtain ⟨_, hn, _⟩ := Value.slice.inj e
  subst hn
  rcases hx with ⟨e0, _⟩ | ⟨g, cap, cur, e0, hb, hh, h1, h2, h3, h4⟩
  · cases e0
  · cases e0
    have hB : Blk w b 3 cur := hh
    refine ⟨by simp, .inr ⟨b, c, cur.setIfInBounds k (.int .i64 z), by rw [List.length_set], hb, hB.set k _, by rw [List.length_set]; exact h1, h2, by rw [Array.size_setIfInBounds]; exact h3, ?_⟩⟩
    rw [List.length_set, Array.toList_setIfInBounds, List.take_set, h4, List.map_set]
def XInt (w : World) (base : Nat) (v : Value) (n : Nat) : Prop := ∃ zs, zs.length = n ∧ IOwn w base v zs
theorem XInt.nth {w : World} {base m c : Nat} {a : Option Addr} (h : XInt w base (.slice a m c) m) (hm : 0 < m) : ∃ b, a = some ⟨b, 0, none⟩ ∧ (∀ j, j < m → ∃ u, w.cell? ⟨b, j, none⟩ = some u) ∧ ∀ j, w.frozen? ⟨b, j, none⟩ = false := by
  obtain ⟨zs, hz, hI⟩ := h
  rcases hI.form with ⟨_, e⟩ | ⟨g, cap, e, _, _, _, hc, hf⟩
  · subst e; simp at hz; omega
  · cases e
    exact ⟨_, rfl, fun j hj => ⟨_, hc j (by omega)⟩, hf⟩
structure OneR (w : World) (base g : Nat) (vs : List Value) (rs : List (List Int)) (i : Nat) : Prop where
  blk : ∃ cs, Blk w g 24 cs ∧ rs.length ≤ cs.size
  cell : ∀ j (h : j < vs.length), i ≤ j → w.cell? ⟨g, j, none⟩ = some vs[j]
  pts : ∀ j (h1 : j < vs.length) (h2 : j < rs.length), i ≤ j → IOwn w base vs[j] rs[j]
structure But (g : Nat) (v : Value) (w w' : World) : Prop where
  size : w.heap.size ≤ w'.heap.size
  same : ∀ b, b < w.heap.size → b ≠ g → v.ownBlock ≠ some b → w'.heap[b]? = w.heap[b]?
theorem OneR.but {w w' : World} {base g i : Nat} {vs : List Value} {rs : List (List Int)} {pv : Value} (h : OneR w base g vs rs (i + 1)) (hb : But g pv w w') (hg : ∃ cs, Blk w' g 24 cs ∧ rs.length ≤ cs.size) (hc : ∀ k, i < k → w'.cell? ⟨g, k, none⟩ = w.cell? ⟨g, k, none⟩) (ha : ∀ j (hj : j < vs.length), i < j → Apt pv vs[j]) : OneR w' base g vs rs (i + 1) := by
  obtain ⟨cs, hB, _⟩ := h.blk
  have q : ∀ {u : Value} {b : Nat} {t : TypeId} {s k : Nat} {xs : List Value}, w.ownsRow b t s u k xs → t ≠ 24 → Apt pv u → w'.ownsRow b t s u k xs := fun hu ht hap => own_other hu (fun b hbk => hb.same b (own_lt hu b hbk) (fun e => by
    obtain ⟨_, c1, f1, q1⟩ := own_ge hu hbk
    subst e
    rw [show w.heap[b]? = _ from hB] at q1
    simp only [Option.some.injEq, Obj.cells.injEq] at q1
    exact ht q1.2.1.symm) (fun e => hap b e hbk))
  exact ⟨hg, fun j hj hij => (hc _ (by omega)).trans (h.cell j hj hij), fun j h1 h2 hij => q (h.pts j h1 h2 hij) (by decide) (ha j h1 (by omega))⟩
theorem RowsUp.oneR {w : World} {base : Nat} {v : Value} {rs : List (List Int)} (h : RowsUp w base v rs) : ∃ vs, vs.length = rs.length ∧ (∀ (i j : Nat) (hi : i < vs.length) (hj : j < vs.length), i < j → Apt vs[i] vs[j]) ∧ (∀ j (hj : j < vs.length), ∀ b, vs[j].ownBlock = some b → b < w.heap.size) ∧ (0 < rs.length → ∃ g cap, v = .slice (some ⟨g, 0, none⟩) rs.length cap ∧ base ≤ g ∧ g < w.heap.size ∧ OneR w base g vs rs 0) := by
  obtain ⟨vs, hrow, hvs, hap⟩ := h
  have hl : vs.length = rs.length := by have := hrow.1; omega
  refine ⟨vs, hl, fun i j hi hj hij => hap i j _ _ hij (List.getElem?_eq_getElem hi) (List.getElem?_eq_getElem hj), fun j hj b hb => ?_, fun hne => ?_⟩
  · obtain ⟨u, q1, q2⟩ := hvs j (by omega)
    rw [List.getElem?_eq_getElem hj] at q1
    obtain rfl : vs[j] = u := Option.some.inj q1
    exact own_lt q2 b hb
  · rcases hrow.2 with ⟨_, h0⟩ | ⟨g, cap, cur, rfl, hb, hg, hn, hm, hs, ht⟩
    · omega
    · have hB : Blk w g 24 cur := hg
      refine ⟨g, cap, rfl, hb, hB.lt, ⟨cur, hB, by omega⟩, fun j hj _ => ?_, fun j h1 h2 _ => ?_⟩
      · rw [hB.cell, ← Array.getElem?_toList, ← List.getElem?_take_of_lt (show j < rs.length * 1 by omega), ht, List.getElem?_eq_getElem hj]
      · obtain ⟨u, q1, q2⟩ := hvs j h2
        rw [List.getElem?_eq_getElem h1] at q1
        obtain rfl : vs[j] = u := Option.some.inj q1
        exact q2
theorem OneR.weak {w : World} {base g i : Nat} {vs : List Value} {rs : List (List Int)} (h : OneR w base g vs rs i) : OneR w base g vs rs (i + 1) :=
  ⟨h.blk, fun j hj hij => h.cell j hj (by omega), fun j h1 h2 hij => h.pts j h1 h2 (by omega)⟩
structure Mid (w3 wr : World) (base hi g i : Nat) (vs : List Value) (rs : List (List Int)) (v : Value) (n : Nat) : Prop where
  one : OneR wr base g vs rs (i + 1)
  cell : wr.cell? ⟨g, i, none⟩ = some v
  row : XInt wr base v n
  apt : ∀ j (hj : j < vs.length), i < j → Apt v vs[j]
  wrote : Wr base hi w3 wr
  own : ∀ b, v.ownBlock = some b → base ≤ b ∧ (b < hi ∨ w3.heap.size ≤ b)
section
variable {w3 wr : World} {base hi g i : Nat} {vs : List Value} {rs : List (List Int)}
theorem Mid.start (hO : OneR wr base g vs rs i) (hW : Wr base hi w3 wr) (hi1 : i < vs.length) (hi2 : i < rs.length) (hp : ∀ (i j : Nat) (hi : i < vs.length) (hj : j < vs.length), i < j → Apt vs[i] vs[j]) (hlt : ∀ j (hj : j < vs.length), ∀ b, vs[j].ownBlock = some b → b < hi) : Mid w3 wr base hi g i vs rs vs[i] rs[i].length :=
  ⟨hO.weak, hO.cell i hi1 (Nat.le_refl _), ⟨_, rfl, hO.pts i hi1 hi2 (Nat.le_refl _)⟩, fun j hj hij => hp i j hi1 hj hij, hW, fun b hb => ⟨(own_ge (hO.pts i hi1 hi2 (Nat.le_refl _)) hb).1, .inl (hlt i hi1 b hb)⟩⟩
theorem Mid.put {b c n : Nat} (h : Mid w3 wr base hi g i vs rs (.slice (some ⟨b, 0, none⟩) n c) n) (k : Nat) (z : Int) : Mid w3 (wr.setCell ⟨b, k, none⟩ (.int .i64 z)) base hi g i vs rs (.slice (some ⟨b, 0, none⟩) n c) n := by
  obtain ⟨zs, hz, hI⟩ := h.row
  obtain ⟨_, c1, f1, q1⟩ := own_ge hI (j := b) rfl
  obtain ⟨cs, hB, hs⟩ := h.one.blk
  have hne : g ≠ b := fun e => by
    subst e
    rw [show wr.heap[g]? = _ from hB] at q1
    simp at q1
  have hB' : Blk (wr.setCell ⟨b, k, none⟩ (.int .i64 z)) g 24 cs := (Below.heap_setCell wr ⟨b, k, none⟩ _ g hne).trans hB
  have hc : ∀ j, (wr.setCell ⟨b, k, none⟩ (.int .i64 z)).cell? ⟨g, j, none⟩ = wr.cell? ⟨g, j, none⟩ := fun j => (hB'.cell j).trans (hB.cell j).symm
  have hob := h.own b rfl
  exact ⟨h.one.but ⟨set_size _ _ _, fun d h1 h2 h3 => Below.heap_setCell wr ⟨b, k, none⟩ _ d (fun e => h3 (by rw [show d = b from e]; rfl))⟩ ⟨cs, hB', hs⟩ (fun j _ => hc j) h.apt, (hc _).trans h.cell, ⟨zs.set k z, by rw [List.length_set]; exact hz, hI.put k z⟩, h.apt, h.wrote.set2 hob.1 hob.2 _, h.own⟩
theorem Mid.app {n : Nat} {v : Value} (h : Mid w3 wr base hi g i vs rs v n) (hn : n ≤ 1099511627776) (hlt : ∀ j (hj : j < vs.length), ∀ b, vs[j].ownBlock = some b → b < hi) (hil : i < rs.length) (hbg : base ≤ g ∧ g < hi ∧ hi ≤ w3.heap.size) (z : Int) (ty : TypeId) :
    ∃ v' w', (Builtin.append_ #[24, 24] ty #[v, .slice (some ⟨wr.heap.size, 0, none⟩) 1 1]).run Tryz.prog (wr.alloc (.cells #[.int .i64 z] 3)) = .ok v' w' ∧ w'.cell? ⟨g, i, none⟩ = some v ∧ w'.frozen? ⟨g, i, none⟩ = false ∧ Mid w3 (w'.setCell ⟨g, i, none⟩ v') base hi g i vs rs v' (n + 1) := by
  obtain ⟨zs, hz, hI⟩ := h.row
  subst hz
  have hsz := h.wrote.below.size
  obtain ⟨v', w', hr, hI', hgr, hat⟩ := app_one hI z hn (by omega) ty
  obtain ⟨cs, hB, hs⟩ := h.one.blk
  have hBa : Blk (wr.alloc (.cells #[.int .i64 z] 3)) g 24 cs := (Below.heap_alloc wr _ g hB.lt).trans hB
  have hB' : Blk w' g 24 cs := blk_grown hBa (World.ownsRow.alloc hI _) (by decide) hgr
  have hzz : (wr.alloc (.cells #[.int .i64 z] 3)).heap.size = wr.heap.size + 1 := by simp
  have hzw := hgr.size
  have hc : ∀ k, w'.cell? ⟨g, k, none⟩ = wr.cell? ⟨g, k, none⟩ := fun k => (hB'.cell k).trans (hB.cell k).symm
  have hne : ∀ b, v'.ownBlock = some b → b ≠ g := fun b hb e => by
    obtain ⟨_, c1, f1, q1⟩ := own_ge hI' hb
    subst e
    rw [show w'.heap[b]? = _ from hB'] at q1
    simp at q1
  have hBs := hB'.set i v'
  refine ⟨v', w', hr, (hc _).trans h.cell, hB'.frozen _, h.one.but ⟨?_, fun b h1 h2 h3 => ?_⟩ ⟨_, hBs, by rw [Array.size_setIfInBounds]; exact hs⟩ (fun k hk => ?_) h.apt, ?_, ⟨zs ++ [z], by simp, own_other hI' (fun b hb => Below.heap_setCell w' ⟨g, i, none⟩ v' b (hne b hb))⟩, fun j hj hij => ?_, ((h.wrote.alloc (by omega) _).grown hgr (by omega) h.own).set2 hbg.1 (.inl hbg.2.1) v', fun b hb => ?_⟩
  · have := set_size w' ⟨g, i, none⟩ v'
    omega
  · exact (Below.heap_setCell w' ⟨g, i, none⟩ v' b h2).trans ((hgr.block b (by omega) (fun e => h3 e.symm)).trans (Below.heap_alloc wr _ b h1))
  · rw [hBs.cell, hB.cell, Array.getElem?_setIfInBounds_ne (by omega)]
  · rw [hBs.cell, Array.getElem?_setIfInBounds_self_of_lt (by omega)]
  · rcases hat with e | e
    · exact fun b hb => h.apt j hj hij b (e.symm.trans hb)
    · intro b hb hb2
      have h1 := hlt j hj b hb2
      rw [e] at hb
      simp only [Option.some.injEq] at hb
      omega
  · rcases hat with e | e
    · exact h.own b (e.symm.trans hb)
    · rw [e] at hb
      simp only [Option.some.injEq] at hb
      exact ⟨by omega, .inr (by omega)⟩
theorem Mid.cellA {n : Nat} {v : Value} (h : Mid w3 wr base hi g i vs rs v n) (o : Obj) : (wr.alloc o).cell? ⟨g, i, none⟩ = some v := by
  obtain ⟨cs, hB, _⟩ := h.one.blk
  have hBa : Blk (wr.alloc o) g 24 cs := (Below.heap_alloc wr o g hB.lt).trans hB
  exact ((hBa.cell _).trans (hB.cell _).symm).trans h.cell
end
set_option maxHeartbeats 4000000 in
set_option maxRecDepth 20000 in
theorem ints_copy {v : Value} {zs : List Int} {n₀ : Nat} {w : World} (hn₀ : n₀ ≤ w.heap.size) (hin : Ints n₀ w v zs) (hl : zs.length ≤ 1000000000000) :
    Calls Tryz.prog 12 #[v] w fun e w' => ∃ v', e = .returned v' ∧ IOwn w' w.heap.size v' zs ∧ Below w.heap.size w w' := by
  obtain ⟨a, c, rfl⟩ := hin.val
  generalize hk : zs.length = k at hl ⊢
  have HK : Hid (zs.length = k) := hk
  have HIN : Aside (Ints n₀ w (.slice a k c) zs) := by rw [hk] at hin; exact hin
  clear hin hk
  go_enter Tryz.func12, Tryz.ntmps12
  go_wp2_with fail
  go_loopw [3, 4] (fun ov iv wr => ∃ (i : Nat) (acc : List Int) (oa : Option Addr) (oc : Nat), i ≤ k ∧ iv = .int .i64 i ∧ ov = .slice oa acc.length oc ∧ Aside (IOwn wr w.heap.size (.slice oa acc.length oc) acc) ∧ Hid (acc ++ zs.drop i = zs ∧ acc.length = i) ∧ Below w.heap.size w wr) (fun _ iv _ => k - (intOf iv).toNat)
  case atStart => exact ⟨0, [], none, 0, by omega, rfl, rfl, IOwn.nil _ _, ⟨by simp, rfl⟩, Below.refl _ _⟩
  case round =>
    obtain ⟨i, acc, oa, oc, hi, rfl, rfl, HO, HA, hbr⟩ := hrel
    by_cases hlt : i < k
    · have hltp : i < zs.length := by rw [HK.out]; exact hlt
      obtain ⟨b3, o3, hao, hnk, hblt, hcell⟩ := Ints.cell HIN.out (fun e => by rw [e] at hltp; simp at hltp)
      have hcj := (hbr.cell (p := ⟨b3, o3 + i, none⟩) (show b3 < w.heap.size by omega)).trans (hcell i hltp)
      rw [show zs[i]?.getD 0 = zs[i] by simp [List.getElem?_eq_getElem hltp]] at hcj
      have HA2 : Hid ((acc ++ [zs[i]]) ++ zs.drop (i + 1) = zs ∧ (acc ++ [zs[i]]).length = i + 1) := ⟨by
        rw [List.append_assoc, List.singleton_append, ← List.drop_eq_getElem_cons hltp]
        exact HA.out.1, by rw [List.length_append, HA.out.2]; rfl⟩
      generalize zs[i] = q at hcj HA2
      subst hao
      have hbA := (Below.refl wr.heap.size wr).alloc (Nat.le_refl _) (.cells #[.int .i64 q] 3)
      have hnb := Blk.new wr 3 #[.int .i64 q]
      have HO2 : Aside (IOwn (wr.alloc (.cells #[.int .i64 q] 3)) w.heap.size (.slice oa acc.length oc) acc) := own_after HO.out hbA
      have hszA : w.heap.size ≤ (wr.alloc (.cells #[.int .i64 q] 3)).heap.size := Nat.le_trans hbr.size hbA.size
      have hl2 : acc.length ≤ 1099511627776 := by have := HA.out.2; omega
      clear hcell hltp HO HA hnk
      go_wp2_with (first | (at_builtin; refine wpList_append_keep rfl _ _ rfl w.heap.size _ acc rfl HO2.out q ⟨wr.heap.size, 0, none⟩ _ rfl (hnb.cell 0) hl2 hszA ?_; intro v4 w4 hown4 hold4 hgr4; obtain ⟨a4, c4, rfl⟩ := hown4.val))
      have hb4 : Below w.heap.size w w4 := (hbr.alloc hbr.size _).grown hgr4 hszA (fun j hj => (own_ge HO2.out hj).1)
      have HO4 : Aside (IOwn w4 w.heap.size (.slice a4 (acc ++ [q]).length c4) (acc ++ [q])) := hown4
      clear hown4 hold4 hgr4
      go_roundw
      case rel => exact ⟨i + 1, acc ++ [q], a4, c4, by omega, by simp, by simp, HO4, HA2, hb4⟩
      case measure => simp only [intOf]; omega
    · have hfin : acc = zs := by have := HA.out.1; rwa [List.drop_of_length_le (by rw [HK.out]; omega), List.append_nil] at this
      clear HA
      go_wp2_with fail
      go_ret
      exact ⟨_, rfl, hfin ▸ HO.out, hbr⟩
theorem boxs_new (w : World) (m e : ByteArray) : ∃ w0, w0 = w.alloc (.cells #[.string m, .string e] 23) ∧ Below w.heap.size w w0 ∧ w0.cell? ⟨w.heap.size, 0, none⟩ = some (.string m) ∧ w0.cell? ⟨w.heap.size, 1, none⟩ = some (.string e) :=
  ⟨_, rfl, (Below.refl _ w).alloc (Nat.le_refl _) _, (Blk.new w 23 #[.string m, .string e]).cell 0, (Blk.new w 23 #[.string m, .string e]).cell 1⟩
theorem formed_is {t : List UInt8} {L : List Mk} {F : Int → List Int} (h : loadR t = .ok (L, F)) (zs : List Int) : ∃ X, Formed L F zs X := by
  obtain ⟨X, h1, h2, h3⟩ := form_exists (cls := classAt L) (fun q => (load_cls h q).1) (flatR F zs)
  exact ⟨X, h1, h3, h2⟩
theorem few_lens {w : World} {bd : Nat} {L : List Mk} {F : Int → List Int} (h : DataAt w bd L F) {zs X : List Int} (hf : (flatR F zs).length ≤ 1000) (hX : Formed L F zs X) : zs.length ≤ 1000 ∧ X.length ≤ 1000 := by
  have := flat_len h zs
  have := hX.len
  omega
theorem both_form {m e : List UInt8} {w w' : World} {r : Ending} (h : BothPost m e w r w') : ∃ d t ok, r = .returned (.tuple #[.pointer d, .pointer t, .bool ok]) ∧ Below w.heap.size w w' ∧ (ok = true → ∃ L F E bd T, d = some ⟨bd, 0, none⟩ ∧ t = some ⟨T, 0, none⟩ ∧ BothOk w' m e L F E bd T) ∧ (ok = false → ∀ L F E, ¬ (loadR m = .ok (L, F) ∧ loadT e = .ok E)) := by
  obtain ⟨hb, ⟨L, F, E, bd, T, rfl, hk⟩ | ⟨d, t, rfl, hn⟩⟩ := h
  · exact ⟨_, _, true, rfl, hb, fun _ => ⟨L, F, E, bd, T, rfl, rfl, hk⟩, (fun h => by cases h)⟩
  · exact ⟨_, _, false, rfl, hb, (fun h => by cases h), fun _ => hn⟩
theorem ref7_form {s : List UInt8} {w w' : World} {e : Ending} (h : RefLoadPost s w e w') : ∃ xa xn xc why line, e = .returned (.tuple #[.agg #[.slice xa xn xc], .int .i64 why, .int .i64 line]) ∧ Below w.heap.size w w' ∧ ((why = 0 ∧ ∃ L F, loadR s = .ok (L, F) ∧ MIn w'.heap.size w' (.slice xa xn xc) (marksR L)) ∨ (why ≠ 0 ∧ ∃ p, loadR s = .error p)) := by
  obtain ⟨hb, hp⟩ := h
  cases hl : loadR s with
  | error p =>
    obtain ⟨why, line⟩ := p
    rw [hl] at hp
    exact ⟨_, _, _, why, line, hp, hb, .inr ⟨load_why hl, _, rfl⟩⟩
  | ok q =>
    obtain ⟨L, F⟩ := q
    rw [hl] at hp
    obtain ⟨a, n, c, rfl, hm⟩ := hp
    exact ⟨a, n, c, 0, 0, rfl, hb, .inl ⟨rfl, L, F, rfl, hm⟩⟩
theorem ref8_form {s : List UInt8} {w w' : World} {e : Ending} (h : RefLoadPostE s w e w') : ∃ xa xn xc why line, e = .returned (.tuple #[.agg #[.slice xa xn xc], .int .i64 why, .int .i64 line]) ∧ Below w.heap.size w w' ∧ ((why = 0 ∧ ∃ E l, loadT s = .ok E ∧ RiseE l ∧ l.Perm E ∧ NIn w'.heap.size w' (.slice xa xn xc) l) ∨ (why ≠ 0 ∧ ∃ p, loadT s = .error p)) := by
  obtain ⟨hb, ⟨why, line, hl, rfl⟩ | ⟨E, l, a, n, c, hl, hr, hp, rfl, ho⟩⟩ := h
  · exact ⟨_, _, _, why, line, rfl, hb, .inr ⟨loadT_why hl, _, hl⟩⟩
  · exact ⟨a, n, c, 0, 0, rfl, hb, .inl ⟨rfl, E, l, hl, hr, hp, ho.min⟩⟩
theorem rt_of {s : List UInt8} {E l : List Ent} {n₀ : Nat} {W : World} {v : Value} (h : loadT s = .ok E) (hr : RiseE l) (hp : l.Perm E) (hi : NIn n₀ W v l) : RT n₀ W v l := by
  obtain ⟨h1, _, h3⟩ := loadT_ok h
  have q : ∀ e ∈ l, EntOk e := fun e he => h1 e (hp.mem_iff.1 he)
  exact ⟨hr, by rw [hp.length_eq]; omega, fun e he => by have := (rowB_len (q e he).row).2; omega, fun e he => (q e he).n1, hi⟩
theorem fnd_perm {s : List UInt8} {E l : List Ent} (h : loadT s = .ok E) (hp : l.Perm E) : fndT l = fndT E ∧ elOf l = elOf E := by
  obtain ⟨_, h2, _⟩ := loadT_ok h
  have q : ∀ p, findT l p = findT E p := findT_perm hp h2
  exact ⟨funext fun p => by unfold fndT; rw [q], funext fun p => by unfold elOf; rw [q]⟩
theorem els_len16 {E : List Ent} (hok : ∀ e ∈ E, EntOk e) : ∀ rs : List (List Int), (elsOf E rs).length ≤ 16 * rs.length
  | [] => by simp [elsOf]
  | r :: rs => by
    have h1 := els_len16 hok rs
    have h2 := elOf_len hok r
    rw [show elsOf E (r :: rs) = elOf E r ++ elsOf E rs from rfl, List.length_append, List.length_cons]
    omega
theorem rows_short {cls : Int → Int} {fnd : List Int → Bool} {X : List Int} (hX : X.length ≤ 1000) : (stepsD cls fnd X).length ≤ 1000 ∧ ∀ r ∈ stepsD cls fnd X, r.length ≤ 4611686018427387904 := by
  have h1 := stepsD_length (cls := cls) (fnd := fnd) X
  exact ⟨by omega, fun r hr => by have := stepsD_short (cls := cls) (fnd := fnd) X r hr; omega⟩
theorem want_in {n₀ base b2 : Nat} {W W' : World} {v : Value} {av : Value} {rs : List (List Int)} {l : List Ent} {vs : List (Value × Value)} (h : StepsAt n₀ W base av rs l vs) (hb : Below W.heap.size W W') (hw : W'.ownsRow b2 24 1 v rs.length (vs.map Prod.fst)) : RIn W' v rs := by
  have hv : RowsAt W' (min base b2) v rs := by
    refine ⟨vs.map Prod.fst, ownsRow_mono hw (Nat.min_le_right _ _), fun i hi => ⟨(vs[i]'(by rw [h.len]; exact hi)).1, by rw [List.getElem?_map, List.getElem?_eq_getElem (by rw [h.len]; exact hi)]; rfl, ?_⟩⟩
    exact ownsRow_mono (own_after (h.pts i (by rw [h.len]; exact hi) hi) hb) (Nat.min_le_left _ _)
  exact hv.rin
theorem RowsAt.wr {W W' : World} {lo hi base : Nat} {v : Value} {rs : List (List Int)} (h : RowsAt W base v rs) (hw : Wr lo hi W W') (hb : hi ≤ base) : RowsAt W' base v rs := by
  obtain ⟨vs, h1, h2⟩ := h
  exact ⟨vs, own_other h1 (fun g hg => hw.above g (by have := (own_ge h1 hg).1; omega) (own_lt h1 g hg)), fun i hi => by
    obtain ⟨u, q1, q2⟩ := h2 i hi
    exact ⟨u, q1, own_other q2 (fun g hg => hw.above g (by have := (own_ge q2 hg).1; omega) (own_lt q2 g hg))⟩⟩
end Go.Proofs.YtkcnjnccdafbfaaGreatDoor
