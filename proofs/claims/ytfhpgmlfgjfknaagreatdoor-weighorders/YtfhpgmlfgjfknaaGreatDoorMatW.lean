/- The rest of a text in memory, cut into pieces; lists of rows (lemmas; nothing is claimed here). -/
import Derived.Test.YtfhpgmlfgjfknaaGreatDoorJ15
import Derived.Test.YtfhpgmlfgjfknaaGreatDoorJ13
import Derived.Test.YtfhpgmlfgjfknaaGreatDoorJ3
import Derived.Deep.Upon
namespace Go.Proofs.YtfhpgmlfgjfknaaGreatDoor
open Go.RowKit Go.Vf Go.Maps
theorem own_take {w : World} {base g n cap : Nat} {e : TypeId} {size : Nat} {xs : List Value} (h : w.ownsRow base e size (.slice (some ⟨g, 0, none⟩) n cap) n xs) {m : Nat} (hm : m ≤ n) : w.ownsRow base e size (.slice (some ⟨g, 0, none⟩) m cap) m (xs.take (m * size)) := by
  obtain ⟨h1, h2⟩ := h
  have hms : m * size ≤ n * size := Nat.mul_le_mul_right _ hm
  refine ⟨by rw [List.length_take, h1]; exact Nat.min_eq_left hms, ?_⟩
  rcases h2 with ⟨e, _⟩ | ⟨g', cap', cur, e, hb, hh, hc1, hc2, hc3, hc4⟩
  · cases e
  · cases e
    exact .inr ⟨g, cap, cur, rfl, hb, hh, by omega, hc2, hc3, by rw [← hc4, List.take_take, Nat.min_eq_left hms]⟩
theorem IOwn.take {w : World} {base g n cap : Nat} {zs : List Int} (h : IOwn w base (.slice (some ⟨g, 0, none⟩) n cap) zs) {m : Nat} (hm : m ≤ zs.length) : IOwn w base (.slice (some ⟨g, 0, none⟩) m cap) (zs.take m) := by
  obtain ⟨a, c, hv⟩ := h.val
  have hn : n = zs.length := (Value.slice.inj hv).2.1
  subst hn
  have := own_take h hm
  unfold IOwn
  rw [List.length_take, Nat.min_eq_left hm, List.map_take]
  simpa using this
theorem append_keep (w : World) (base : Nat) (ty : TypeId) (v : Value) (zs : List Int) (n : Int) (hown : IOwn w base v zs) (a : Addr) (c : Nat) (hcell : w.cell? a = some (.int .i64 n)) (hlen : zs.length ≤ 1099511627776) (hbase : base ≤ w.heap.size) :
    ∃ v' w', (Builtin.append_ #[46, 46] ty #[v, .slice (some a) 1 c]).run Tryz.prog w = .ok v' w' ∧ IOwn w' base v' (zs ++ [n]) ∧ IOwn w' base v zs ∧ w.grownBy w' v.ownBlock := by
  obtain ⟨i, hi, hz, hsz, hby⟩ := info_parts info3
  have hnews : ∀ j u, [Value.int .i64 n][j]? = some u → w.cell? (a.add j) = some u := fun j u hj => by
    match j, hj with
    | 0, hj => simp at hj; subst hj; rw [show a.add 0 = a by cases a; simp [Addr.add]]; exact hcell
  have h1 : ∀ u ∈ [Value.int .i64 n], u.oneCell' = true := fun u hu => by simp at hu; subst hu; rfl
  obtain ⟨v', w', hr, ho, hg, _, hat⟩ := run_append_own_at (P := Tryz.prog) w base 46 ty 3 i (.int .i64 0) 1 8 Tryz.underlying46 hi hz hsz hby rfl (by decide) v zs.length (zs.map (Value.int .i64)) hown a 1 c [.int .i64 n] rfl hnews h1 (by unfold maxLen; omega) (by omega) hbase
  have ho' : IOwn w' base v' (zs ++ [n]) := by unfold IOwn; rw [List.map_append, List.length_append]; exact ho
  refine ⟨v', w', hr, ho', ?_, hg⟩
  have hown0 := hown
  rcases hown.2 with ⟨rfl, h0⟩ | ⟨g, cap, cur, rfl, hbg, hgg, hnc, hcm, hcs, htake⟩
  · rw [List.eq_nil_of_length_eq_zero h0]; exact IOwn.nil _ _
  · by_cases hroom : zs.length + 1 ≤ cap
    · have hfit : zs.length * i.size + [Value.int .i64 n].length ≤ cur.size := by rw [hsz, hcs]; simp; omega
      have hr2 := run_append_room (P := Tryz.prog) w 46 ty 3 i Tryz.underlying46 hi g zs.length cap cur hgg a 1 c [.int .i64 n] (by rw [hsz]; rfl) hnews h1 hroom hfit
      rw [hr] at hr2
      have e := (Result.ok.inj hr2).1
      rw [e] at ho'
      have := ho'.take (m := zs.length) (by simp)
      simpa using this
    · have holds : ∀ j u, (zs.map (Value.int .i64))[j]? = some u → w.cell? ((⟨g, 0, none⟩ : Addr).add j) = some u := World.ownsRow.cells (g := g) hown rfl
      have hr2 := run_append_grow (P := Tryz.prog) w 46 ty 3 i (.int .i64 0) Tryz.underlying46 hi hz ⟨g, 0, none⟩ zs.length cap (zs.map (Value.int .i64)) (by rw [hsz]; simp) holds a 1 c [.int .i64 n] (by rw [hsz]; rfl) hnews (by omega) (by omega) (growslice_fits (by omega) (by rw [hby]; omega))
      rw [hr] at hr2
      have e := (Result.ok.inj hr2).2
      have hgn : w.grownBy w' none := by
        rw [e]
        exact ⟨rfl, rfl, rfl, by simp, fun k hk _ => Below.heap_alloc w.drew _ k hk⟩
      exact World.ownsRow.kept hown0 hgn (.inr (fun e => by cases e))
theorem wpList_append_keep {w : World} {ops : Array Oper} {rest : List Oper} {o : Oper} {a : Act} {Q : Exit → Act → World → Prop} (hgd : o.guard = none) (s x : Operand)
    (ho : o.op = .call { callee := .builtin .append, args := #[s, x], argTypes := #[46, 46] })
    (base : Nat) (v : Value) (zs : List Int) (hs : a.eval s = v) (hown : IOwn w base v zs) (n : Int) (ad : Addr) (c : Nat) (hx : a.eval x = .slice (some ad) 1 c) (hcell : w.cell? ad = some (.int .i64 n))
    (hlen : zs.length ≤ 1099511627776) (hbase : base ≤ w.heap.size)
    (h : ∀ v' w', IOwn w' base v' (zs ++ [n]) → IOwn w' base v zs → w.grownBy w' v.ownBlock → wpList Tryz.prog ops Q rest (a.put o.dst v') w') :
    wpList Tryz.prog ops Q (o :: rest) a w := by
  refine wpList_plain hgd fun K hK => ?_
  obtain ⟨v', w', hr, h2, h3, h4⟩ := append_keep w base o.type v zs n hown ad c hcell hlen hbase
  unfold Oper.wp execOp
  simp only [ho, resolve, invoke, builtin, Sem.run_bind, Sem.run_pure, Result.andThen_ok, List.map_toArray, List.map_cons, List.map_nil, hs, hx, hr]
  exact hK _ _ (h v' w' h2 h3 h4)
def Pc (n₀ : Nat) (W : World) (b o : Nat) (p : List Int) : Prop := b < n₀ ∧ ∀ j, j < p.length → W.cell? ⟨b, o + j, none⟩ = some (.int .i64 (p[j]?.getD 0))
def Pcs (n₀ : Nat) (W : World) (g off : Nat) (ps : List (List Int)) : Prop := ∀ j (h : j < ps.length), ∃ b o c, W.cell? ⟨g, off + j, none⟩ = some (.slice (some ⟨b, o, none⟩) ps[j].length c) ∧ ps[j].length ≤ c ∧ Pc n₀ W b o ps[j]
theorem Pc.same {n₀ : Nat} {W W' : World} {b o : Nat} {p : List Int} (h : Pc n₀ W b o p) (hb : ∀ k, k < n₀ → W'.heap[k]? = W.heap[k]?) : Pc n₀ W' b o p := ⟨h.1, fun i hi => (World.cell?_of_block (w := W) (hb b h.1)).trans (h.2 i hi)⟩
theorem Pc.drop {n₀ : Nat} {W : World} {b o : Nat} {p : List Int} (h : Pc n₀ W b o p) {m o2 : Nat} (ho : m < p.length → o2 = o + m) : Pc n₀ W b o2 (p.drop m) := by
  refine ⟨h.1, fun j hj => ?_⟩
  rw [List.length_drop] at hj
  rw [ho (by omega), List.getElem?_drop, ← h.2 (m + j) (by omega)]
  congr 2
  omega
structure MWk (w₁ : World) (bd T B g off cap : Nat) (ps : List (List Int)) (W : World) : Prop where
  below : Below w₁.heap.size w₁ W
  blk : Blk W B 221 #[.pointer (some ⟨bd, 0, none⟩), .pointer (some ⟨T, 0, none⟩), .slice (some ⟨g, off, none⟩) ps.length cap]
  cap : ps.length ≤ cap
  lowB : w₁.heap.size ≤ B
  lowg : w₁.heap.size ≤ g
  row : ∃ cs, Blk W g 46 cs
  pcs : Pcs w₁.heap.size W g off ps
structure Mv (B g : Nat) (W W' : World) : Prop where
  size : W.heap.size ≤ W'.heap.size
  block : ∀ k, k < W.heap.size → k ≠ B → k ≠ g → W'.heap[k]? = W.heap[k]?
theorem Mv.refl (B g : Nat) (W : World) : Mv B g W W := ⟨Nat.le_refl _, fun _ _ _ _ => rfl⟩
theorem Mv.trans {B g : Nat} {a b c : World} (h : Mv B g a b) (k : Mv B g b c) : Mv B g a c := ⟨Nat.le_trans h.size k.size, fun i hi h1 h2 => (k.block i (Nat.lt_of_lt_of_le hi h.size) h1 h2).trans (h.block i hi h1 h2)⟩
theorem Mv.below {B g : Nat} {W W' : World} (h : Below W.heap.size W W') : Mv B g W W' := ⟨h.size, fun k hk _ _ => h.block k hk⟩
section
variable {w₁ W W' : World} {bd T B g off cap : Nat} {ps : List (List Int)}
theorem MWk.ne (h : MWk w₁ bd T B g off cap ps W) : B ≠ g := by
  obtain ⟨cs, hc⟩ := h.row
  exact blk_ne h.blk hc (by decide)
theorem Pcs.same (h : Pcs w₁.heap.size W g off ps) (hg : W'.heap[g]? = W.heap[g]?) (hb : ∀ k, k < w₁.heap.size → W'.heap[k]? = W.heap[k]?) : Pcs w₁.heap.size W' g off ps := fun j hj => by
  obtain ⟨b, o, c, h1, h2, h3⟩ := h j hj
  exact ⟨b, o, c, (World.cell?_of_block (w := W) hg).trans h1, h2, h3.same hb⟩
theorem MWk.go (h : MWk w₁ bd T B g off cap ps W) (hb : Below W.heap.size W W') : MWk w₁ bd T B g off cap ps W' := by
  obtain ⟨cs, hc⟩ := h.row
  exact ⟨h.below.trans (hb.mono h.below.size), h.blk.below hb h.blk.lt, h.cap, h.lowB, h.lowg, ⟨cs, hc.below hb hc.lt⟩, h.pcs.same (hb.block g hc.lt) (fun k hk => hb.block k (Nat.lt_of_lt_of_le hk h.below.size))⟩
theorem MWk.cells (h : MWk w₁ bd T B g off cap ps W) : W.cell? ⟨B, 0, none⟩ = some (.pointer (some ⟨bd, 0, none⟩)) ∧ W.cell? ⟨B, 1, none⟩ = some (.pointer (some ⟨T, 0, none⟩)) ∧ W.cell? ⟨B, 2, none⟩ = some (.slice (some ⟨g, off, none⟩) ps.length cap) := ⟨h.blk.cell 0, h.blk.cell 1, h.blk.cell 2⟩
theorem MWk.piece (h : MWk w₁ bd T B g off cap ps W) {j : Nat} (hj : j < ps.length) : ∃ b o c, W.cell? ⟨g, off + j, none⟩ = some (.slice (some ⟨b, o, none⟩) ps[j].length c) ∧ ps[j].length ≤ c ∧ Pc w₁.heap.size W b o ps[j] := h.pcs j hj
theorem MWk.frozenB (h : MWk w₁ bd T B g off cap ps W) (j : Nat) : W.frozen? ⟨B, j, none⟩ = false := h.blk.frozen j
theorem MWk.frozeng (h : MWk w₁ bd T B g off cap ps W) (j : Nat) : W.frozen? ⟨g, j, none⟩ = false := by
  obtain ⟨cs, hc⟩ := h.row
  exact hc.frozen j
theorem MWk.tail {p : List Int} (h : MWk w₁ bd T B g off cap (p :: ps) W) {o2 : Nat} (ho : ps ≠ [] → o2 = off + 1) : MWk w₁ bd T B g o2 (cap - 1) ps (W.setCell ⟨B, 2, none⟩ (.slice (some ⟨g, o2, none⟩) ps.length (cap - 1))) ∧ Mv B g W (W.setCell ⟨B, 2, none⟩ (.slice (some ⟨g, o2, none⟩) ps.length (cap - 1))) := by
  obtain ⟨cs, hc⟩ := h.row
  have hne := h.ne
  have hcap := h.cap
  have hsame : ∀ k, k ≠ B → (W.setCell ⟨B, 2, none⟩ (.slice (some ⟨g, o2, none⟩) ps.length (cap - 1))).heap[k]? = W.heap[k]? := fun k hk => Below.heap_setCell W _ _ k hk
  refine ⟨⟨h.below.setCell h.lowB _, by have := h.blk.set 2 (.slice (some ⟨g, o2, none⟩) ps.length (cap - 1)); simpa using this, by simp at hcap; omega, h.lowB, h.lowg, ⟨cs, (hsame g (Ne.symm hne)).trans hc⟩, ?_⟩, ⟨by simp [World.setCell], fun k _ h1 _ => hsame k h1⟩⟩
  refine Pcs.same (W := W) (fun j hj => ?_) (hsame g (Ne.symm hne)) (fun k hk => hsame k (by have := h.lowB; omega))
  obtain ⟨b, o, c, h1, h2, h3⟩ := h.pcs (j + 1) (by simp; omega)
  simp only [List.getElem_cons_succ] at h1 h2 h3
  have e := ho (fun e => by rw [e] at hj; simp at hj)
  exact ⟨b, o, c, by rw [← h1, e]; congr 2; omega, h2, h3⟩
theorem MWk.set (h : MWk w₁ bd T B g off cap ps W) {i : Nat} {q : List Int} {b o c : Nat} (hi : i < ps.length) (hq : Pc w₁.heap.size W b o q) (hqc : q.length ≤ c) : MWk w₁ bd T B g off cap (ps.set i q) (W.setCell ⟨g, off + i, none⟩ (.slice (some ⟨b, o, none⟩) q.length c)) ∧ Mv B g W (W.setCell ⟨g, off + i, none⟩ (.slice (some ⟨b, o, none⟩) q.length c)) := by
  obtain ⟨cs, hc⟩ := h.row
  have hne := h.ne
  have hsame : ∀ k, k ≠ g → (W.setCell ⟨g, off + i, none⟩ (.slice (some ⟨b, o, none⟩) q.length c)).heap[k]? = W.heap[k]? := fun k hk => Below.heap_setCell W _ _ k hk
  have hlow : ∀ k, k < w₁.heap.size → (W.setCell ⟨g, off + i, none⟩ (.slice (some ⟨b, o, none⟩) q.length c)).heap[k]? = W.heap[k]? := fun k hk => hsame k (by have := h.lowg; omega)
  have hset := hc.set (off + i) (.slice (some ⟨b, o, none⟩) q.length c)
  have hcsz : off + i < cs.size := by
    obtain ⟨b', o', c', h1, _⟩ := h.pcs i hi
    rw [hc.cell] at h1
    exact (Array.getElem?_eq_some_iff.1 h1).1
  refine ⟨⟨h.below.setCell h.lowg _, by rw [List.length_set]; exact (hsame B hne).trans h.blk, by rw [List.length_set]; exact h.cap, h.lowB, h.lowg, ⟨_, hset⟩, fun j hj => ?_⟩, ⟨by simp [World.setCell], fun k _ _ h2 => hsame k h2⟩⟩
  rw [List.length_set] at hj
  by_cases e : i = j
  · subst e
    refine ⟨b, o, c, ?_, by simpa using hqc, by simpa using hq.same hlow⟩
    rw [hset.cell]
    simp [hcsz]
  · obtain ⟨b', o', c', h1, h2, h3⟩ := h.pcs j hj
    rw [List.getElem_set_ne e]
    refine ⟨b', o', c', ?_, h2, h3.same hlow⟩
    rw [hset.cell, Array.getElem?_setIfInBounds_ne (by omega), ← hc.cell]
    exact h1
end
def RowsAt (W : World) (base : Nat) (v : Value) (rs : List (List Int)) : Prop := ∃ vs : List Value, W.ownsRow base 46 1 v rs.length vs ∧ ∀ i (h : i < rs.length), ∃ u, vs[i]? = some u ∧ IOwn W base u rs[i]
theorem RowsAt.nil (W : World) (base : Nat) : RowsAt W base (.slice none 0 0) [] := ⟨[], World.ownsRow_nil _ _ _ _, fun i h => absurd h (by simp)⟩
theorem RowsAt.val {W : World} {base : Nat} {v : Value} {rs : List (List Int)} (h : RowsAt W base v rs) : ∃ a c, v = .slice a rs.length c := by
  obtain ⟨vs, h1, _⟩ := h
  exact row_val h1
end Go.Proofs.YtfhpgmlfgjfknaaGreatDoor
