/- A list of entries that a call made (lemmas; nothing is claimed here). -/
import Derived.Test.YtfeppbiodbhpcaaDoorEntP
namespace Go.Proofs.YtfeppbiodbhpcaaDoor
open Go.RowKit Go.Vf Go.Maps Go.Sort

def flatV (vs : List (Value × Value)) : List Value := vs.flatMap fun p => [p.1, p.2]
theorem flatV_snoc (vs : List (Value × Value)) (p e : Value) : flatV (vs ++ [(p, e)]) = flatV vs ++ [p, e] := by simp [flatV]
theorem flatV_len (vs : List (Value × Value)) : (flatV vs).length = vs.length * 2 := by
  induction vs with
  | nil => rfl
  | cons a r ih => simp [flatV] at ih ⊢; omega
theorem flatV_at : ∀ (vs : List (Value × Value)) (j : Nat) (hj : j < vs.length), (flatV vs)[j * 2]? = some vs[j].1 ∧ (flatV vs)[j * 2 + 1]? = some vs[j].2 := by
  intro vs
  induction vs with
  | nil => intro j hj; simp at hj
  | cons a r ih =>
    intro j hj
    have e : flatV (a :: r) = a.1 :: a.2 :: flatV r := by simp [flatV]
    rw [e]
    cases j with
    | zero => exact ⟨rfl, rfl⟩
    | succ j =>
      have := ih j (by simpa using hj)
      rw [show (j + 1) * 2 = j * 2 + 1 + 1 by omega]
      simpa using this
theorem mem_flatV {vs : List (Value × Value)} {u : Value} (h : u ∈ flatV vs) : ∃ j, ∃ hj : j < vs.length, u = vs[j].1 ∨ u = vs[j].2 := by
  unfold flatV at h
  obtain ⟨p, hp, hu⟩ := List.mem_flatMap.1 h
  obtain ⟨j, hj, rfl⟩ := List.mem_iff_getElem.1 hp
  refine ⟨j, hj, ?_⟩
  simpa using hu
/-- A slice of entries, each with lists of its own. -/
structure EntsO (w : World) (base : Nat) (v : Value) (vs : List (Value × Value)) (E : List Ent) : Prop where
  row : w.ownsRow base 37 2 v E.length (flatV vs)
  len : vs.length = E.length
  pts : ∀ j (h1 : j < vs.length) (h2 : j < E.length), IOwn w base vs[j].1 E[j].1
  els : ∀ j (h1 : j < vs.length) (h2 : j < E.length), EOwn w base vs[j].2 E[j].2
  apt : (flatV vs).Pairwise Apt
theorem EntsO.nil (w : World) (base : Nat) : EntsO w base (.slice none 0 0) [] [] := ⟨World.ownsRow_nil _ _ _ _, rfl, fun j h => by simp at h, fun j h => by simp at h, List.Pairwise.nil⟩
section
variable {w : World} {base : Nat} {v : Value} {vs : List (Value × Value)} {E : List Ent}
theorem EntsO.lt (h : EntsO w base v vs E) : ∀ u ∈ flatV vs, ∀ g, u.ownBlock = some g → g < w.heap.size := by
  intro u hu g hg
  obtain ⟨j, hj, rfl | rfl⟩ := mem_flatV hu
  · exact own_lt (h.pts j hj (h.len ▸ hj)) g hg
  · exact own_lt (h.els j hj (h.len ▸ hj)) g hg
theorem EntsO.below {w' : World} {n : Nat} (h : EntsO w base v vs E) (hb : Below n w w') (hn : w.heap.size ≤ n) : EntsO w' base v vs E := by
  have q : ∀ {u : Value} {b : Nat} {e : TypeId} {s k : Nat} {xs : List Value}, w.ownsRow b e s u k xs → w'.ownsRow b e s u k xs := fun hu => own_other hu (fun g hg => hb.block g (by have := own_lt hu g hg; omega))
  exact ⟨q h.row, h.len, fun j h1 h2 => q (h.pts j h1 h2), fun j h1 h2 => q (h.els j h1 h2), h.apt⟩
theorem EntsO.mono {b' : Nat} (h : EntsO w base v vs E) (hb : b' ≤ base) : EntsO w b' v vs E :=
  ⟨ownsRow_mono h.row hb, h.len, fun j h1 h2 => ownsRow_mono (h.pts j h1 h2) hb, fun j h1 h2 => ownsRow_mono (h.els j h1 h2) hb, h.apt⟩
theorem EntsO.snoc {w6 : World} {pv ev v' : Value} {e : Ent} {o : Obj} {m : Nat} (h : EntsO w base v vs E) (hp : IOwn w base pv e.1) (he : EOwn w base ev e.2)
    (hlt : ∀ u ∈ flatV vs, ∀ g, u.ownBlock = some g → g < m) (hpm : ∀ g, pv.ownBlock = some g → m ≤ g) (hem : ∀ g, ev.ownBlock = some g → m ≤ g)
    (hrow : w6.ownsRow base 37 2 v' (E.length + 1) (flatV vs ++ [pv, ev])) (hg : (w.alloc o).grownBy w6 v.ownBlock) : EntsO w6 base v' (vs ++ [(pv, ev)]) (E ++ [e]) := by
  have q : ∀ {u : Value} {b : Nat} {t : TypeId} {s k : Nat} {xs : List Value}, w.ownsRow b t s u k xs → 37 ≠ t → w6.ownsRow b t s u k xs := fun hu ht => own_grown (hu.alloc o) hg (apt_types (h.row.alloc o) (hu.alloc o) ht)
  refine ⟨?_, by simp [h.len], fun j h1 h2 => ?_, fun j h1 h2 => ?_, ?_⟩
  · rw [flatV_snoc, List.length_append]; exact hrow
  · by_cases hj : j < vs.length
    · have hj2 : j < E.length := h.len ▸ hj
      rw [List.getElem_append_left hj, List.getElem_append_left hj2]
      exact q (h.pts j hj hj2) (by decide)
    · have e1 : j = vs.length := by simp at h1; omega
      have e2 : j = E.length := by rw [e1, h.len]
      rw [List.getElem_append_right (by omega), List.getElem_append_right (by omega)]
      simp only [e1, h.len, Nat.sub_self, List.getElem_cons_zero]
      exact q hp (by decide)
  · by_cases hj : j < vs.length
    · have hj2 : j < E.length := h.len ▸ hj
      rw [List.getElem_append_left hj, List.getElem_append_left hj2]
      exact q (h.els j hj hj2) (by decide)
    · have e1 : j = vs.length := by simp at h1; omega
      have e2 : j = E.length := by rw [e1, h.len]
      rw [List.getElem_append_right (by omega), List.getElem_append_right (by omega)]
      simp only [e1, h.len, Nat.sub_self, List.getElem_cons_zero]
      exact q he (by decide)
  · rw [flatV_snoc, List.pairwise_append]
    refine ⟨h.apt, ?_, fun a ha b hb => ?_⟩
    · have := apt_types hp he (by decide)
      simpa using this
    · intro g h1 h2
      have := hlt a ha g h1
      simp at hb
      rcases hb with rfl | rfl
      · have := hpm g h2; omega
      · have := hem g h2; omega
end
theorem EntsO.inn {w : World} {base : Nat} {v : Value} {vs : List (Value × Value)} {E : List Ent} (h : EntsO w base v vs E) : EIn w.heap.size w v E := by
  rcases h.row.2 with ⟨rfl, h0⟩ | ⟨g, cap, cur, rfl, hb, hg, hn, hm, hs, ht⟩
  · exact .inl ⟨_, _, rfl, List.eq_nil_of_length_eq_zero h0⟩
  · have hB : Blk w g 37 cur := hg
    refine .inr ⟨g, 0, cap, rfl, hB.lt, fun j hj => ?_⟩
    have hj1 : j < vs.length := h.len ▸ hj
    obtain ⟨f1, f2⟩ := flatV_at vs j hj1
    have hp := h.pts j hj1 hj
    have he := h.els j hj1 hj
    obtain ⟨pa, pc, hpv⟩ := row_val hp
    obtain ⟨ea, ec, hev⟩ := row_val he
    have q : ∀ k, k < E.length * 2 → w.cell? ⟨g, 0 + k, none⟩ = (flatV vs)[k]? := fun k hk => by
      rw [Nat.zero_add, hB.cell, ← ht, List.getElem?_take_of_lt hk, Array.getElem?_toList]
    refine ⟨pa, pc, ea, ec, ?_, ?_, ?_, ?_⟩
    · rw [q _ (by omega), f1, hpv]
    · rw [Nat.add_assoc, q _ (by omega), f2, hev]
    · have := IOwn.ints hp
      rwa [hpv] at this
    · have := EOwn.els he
      rwa [hev] at this
end Go.Proofs.YtfeppbiodbhpcaaDoor
