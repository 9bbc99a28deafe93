/- Lists of entries in memory; what dovetaillaw06.heavy does (contracts; nothing is claimed here). · The entries of a table, in their order (plain functions; nothing is claimed here). · A list of entries that a call made (lemmas; nothing is claimed here). -/
import Derived.Test.YtkcnjnccdafbfaaGreatDoorJ17
import Derived.Test.YtkcnjnccdafbfaaGreatDoorTSortK
import Derived.Test.YtkcnjnccdafbfaaGreatDoorTAsk6
namespace Go.Proofs.YtkcnjnccdafbfaaGreatDoor
open Go.RowKit Go.Vf Go.Maps

/-- A slice of these entries, in a block that lies here. -/
def EIn (n₀ : Nat) (w : World) (v : Value) (l : List Ent) : Prop :=
  (∃ a cap, v = .slice a 0 cap ∧ l = []) ∨ ∃ b off cap, v = .slice (some ⟨b, off, none⟩) l.length cap ∧ b < n₀ ∧ ∀ j (hj : j < l.length), ∃ pa pc ea ec,
    w.cell? ⟨b, off + j * 2, none⟩ = some (.slice pa l[j].1.length pc) ∧ w.cell? ⟨b, off + j * 2 + 1, none⟩ = some (.slice ea l[j].2.length ec) ∧ Ints n₀ w (.slice pa l[j].1.length pc) l[j].1 ∧ Els n₀ w (.slice ea l[j].2.length ec) l[j].2
theorem EIn.val {n₀ : Nat} {w : World} {v : Value} {l : List Ent} (h : EIn n₀ w v l) : ∃ a cap, v = .slice a l.length cap := by
  rcases h with ⟨a, cap, rfl, rfl⟩ | ⟨b, off, cap, rfl, _⟩
  · exact ⟨a, cap, rfl⟩
  · exact ⟨_, cap, rfl⟩
theorem EIn.below {n₀ n : Nat} {w w' : World} {v : Value} {l : List Ent} (h : EIn n₀ w v l) (hb : Below n w w') (hn : n₀ ≤ n) : EIn n₀ w' v l := by
  rcases h with h | ⟨b, off, cap, e, hlt, hc⟩
  · exact .inl h
  · refine .inr ⟨b, off, cap, e, hlt, fun j hj => ?_⟩
    obtain ⟨pa, pc, ea, ec, h0, h1, h2, h3⟩ := hc j hj
    have q : ∀ k, w'.cell? ⟨b, k, none⟩ = w.cell? ⟨b, k, none⟩ := fun k => hb.cell (p := ⟨b, k, none⟩) (show b < n by omega)
    exact ⟨pa, pc, ea, ec, (q _).trans h0, (q _).trans h1, Ints.below hb hn h2, h3.below hb hn⟩
theorem EIn.at {n₀ : Nat} {w : World} {a : Option Addr} {k cap : Nat} {l : List Ent} (h : EIn n₀ w (.slice a k cap) l) {j : Nat} (hj : j < l.length) : ∃ b off, a = some ⟨b, off, none⟩ ∧ ∃ pa pc ea ec,
    w.cell? ⟨b, off + j * 2, none⟩ = some (.slice pa l[j].1.length pc) ∧ w.cell? ⟨b, off + j * 2 + 1, none⟩ = some (.slice ea l[j].2.length ec) ∧ Ints n₀ w (.slice pa l[j].1.length pc) l[j].1 ∧ Els n₀ w (.slice ea l[j].2.length ec) l[j].2 := by
  rcases h with ⟨a', cap', e, rfl⟩ | ⟨b, off, cap', e, hlt, hc⟩
  · simp at hj
  · cases e
    exact ⟨b, off, rfl, hc j hj⟩

def wtT (l : List Ent) : Nat := (l.map fun x => 1 + x.1.length + x.2.length).sum
theorem wtT_take (l : List Ent) (k : Nat) (hk : k < l.length) : wtT (l.take (k + 1)) = wtT (l.take k) + 1 + (l[k]).1.length + (l[k]).2.length := by
  rw [List.take_succ_eq_append_getElem hk]
  unfold wtT
  rw [List.map_append, List.sum_append]
  simp; omega
theorem wtT_len (l : List Ent) : l.length ≤ wtT l := by
  induction l with
  | nil => simp
  | cons a r ih => simp [wtT] at ih ⊢; omega
theorem wtT_mem {l : List Ent} {x : Ent} (h : x ∈ l) : x.1.length ≤ wtT l ∧ x.2.length ≤ wtT l := by
  obtain ⟨a, b, rfl⟩ := List.append_of_mem h
  simp [wtT]; omega

end Go.Proofs.YtkcnjnccdafbfaaGreatDoor

namespace Go.Proofs.YtkcnjnccdafbfaaGreatDoor
open Go.RowKit Go.Vf Go.Maps Go.Sort

theorem aheadL_fill : ∀ (p q : List Int) (n : Nat), (∀ x ∈ p, 0 ≤ x) → (∀ x ∈ q, 0 ≤ x) → p.length ≤ n → q.length ≤ n → aheadL (p ++ List.replicate (n - p.length) (-1)) (q ++ List.replicate (n - q.length) (-1)) = aheadL p q := by
  intro p
  induction p with
  | nil =>
    intro q n hp hq h1 h2
    cases q with
    | nil => exact aheadL_self _
    | cons y t =>
      cases n with
      | zero => simp at h2
      | succ m =>
        have hy := hq y (by simp)
        simp only [List.nil_append, List.length_nil, Nat.sub_zero, List.replicate_succ, List.cons_append, aheadL]
        rw [if_pos (by omega)]
  | cons x r ih =>
    intro q n hp hq h1 h2
    have hx := hp x (by simp)
    cases n with
    | zero => simp at h1
    | succ m =>
      cases q with
      | nil =>
        simp only [List.nil_append, List.length_nil, Nat.sub_zero, List.replicate_succ, List.cons_append, aheadL]
        rw [if_neg (by omega), if_pos (by omega)]
      | cons y t =>
        have := ih t m (fun z hz => hp z (by simp [hz])) (fun z hz => hq z (by simp [hz])) (by simpa using h1) (by simpa using h2)
        simp only [List.cons_append, List.length_cons, Nat.add_sub_add_right, aheadL, this]
theorem row_pos {p : List Int} (h : rowB p = true) : ∀ x ∈ p, 0 ≤ x := by
  intro x hx
  unfold rowB at h
  simp only [Bool.and_eq_true, List.all_eq_true] at h
  obtain ⟨u, rfl, hu⟩ := isPtB_nat (h.2 x hx)
  omega
theorem aheadL_pad {p q : List Int} (hp : rowB p = true) (hq : rowB q = true) : aheadL (padL p) (padL q) = aheadL p q :=
  aheadL_fill p q 8 (row_pos hp) (row_pos hq) (rowB_len hp).2 (rowB_len hq).2
/-- Entries that rise. -/
def RiseE (l : List Ent) : Prop := l.Pairwise fun a b => aheadL a.1 b.1 < 0
theorem aheadL_asymm {a b : List Int} (h : aheadL a b < 0) : ¬ aheadL b a < 0 := fun h2 => by
  have := aheadL_trans _ _ _ h h2
  rw [aheadL_self] at this
  omega
theorem rise_one {a b : List Ent} (hp : a.Perm b) (ha : RiseE a) (hb : RiseE b) : a = b :=
  List.Perm.eq_of_pairwise (le := fun x y : Ent => aheadL x.1 y.1 < 0) (fun _ _ _ _ h1 h2 => absurd h2 (aheadL_asymm h1)) ha hb hp
def entAt (E : List Ent) (r : R8) : Ent := (E.find? (fun e => padL e.1 == r.l)).getD ([], [])
theorem entAt_mem {E : List Ent} {val : List Int → Value} {r : R8} (h : (entF val E r.l).isSome = true) : entAt E r ∈ E ∧ padL (entAt E r).1 = r.l := by
  have h' : E.any (fun e => padL e.1 == r.l) = true := by
    unfold entF at h
    split at h
    · assumption
    · simp at h
  unfold entAt
  cases hf : E.find? (fun e => padL e.1 == r.l) with
  | none =>
    obtain ⟨x, hx, hx2⟩ := List.any_eq_true.1 h'
    exact absurd hx2 (List.find?_eq_none.1 hf x hx)
  | some x =>
    exact ⟨List.mem_of_find?_eq_some hf, by simpa using List.find?_some hf⟩
theorem map_fst_nodup {E : List Ent} (h : (E.map Prod.fst).Nodup) : E.Nodup := List.Pairwise.of_map Prod.fst (fun _ _ hne e => hne (by rw [e])) h
theorem fst_inj : ∀ {E : List Ent}, (E.map Prod.fst).Nodup → ∀ {x y : Ent}, x ∈ E → y ∈ E → x.1 = y.1 → x = y := by
  intro E
  induction E with
  | nil => intro _ x y hx; cases hx
  | cons a r ih =>
    intro h x y hx hy e
    rw [List.map_cons, List.nodup_cons] at h
    rcases List.mem_cons.1 hx with rfl | hx'
    · rcases List.mem_cons.1 hy with rfl | hy'
      · rfl
      · exact absurd (e ▸ List.mem_map_of_mem hy') h.1
    · rcases List.mem_cons.1 hy with rfl | hy'
      · exact absurd (e ▸ List.mem_map_of_mem hx') h.1
      · exact ih h.2 hx' hy' e
theorem ents_perm {E : List Ent} {val : List Int → Value} {ss : List R8} (hok : ∀ e ∈ E, EntOk e) (hnd : (E.map Prod.fst).Nodup) (hr : Rise ss) (hm : ∀ r, r ∈ ss ↔ RowOk r.l ∧ (entF val E r.l).isSome = true) :
    RiseE (ss.map (entAt E)) ∧ (ss.map (entAt E)).Perm E := by
  have hsp : ∀ r ∈ ss, entAt E r ∈ E ∧ padL (entAt E r).1 = r.l := fun r hr => entAt_mem ((hm r).1 hr).2
  have hR : RiseE (ss.map (entAt E)) := by
    unfold RiseE
    rw [List.pairwise_map]
    refine List.Pairwise.imp_of_mem (fun {a b} ha hb h => ?_) hr
    obtain ⟨ha1, ha2⟩ := hsp a ha
    obtain ⟨hb1, hb2⟩ := hsp b hb
    rw [← aheadL_pad (hok _ ha1).row (hok _ hb1).row, ha2, hb2]
    exact h
  refine ⟨hR, (List.perm_ext_iff_of_nodup ?_ (map_fst_nodup hnd)).2 fun e => ?_⟩
  · refine List.Pairwise.imp (fun {a b} h e => ?_) hR
    rw [e, aheadL_self] at h
    omega
  · constructor
    · intro he
      obtain ⟨r, hr, rfl⟩ := List.mem_map.1 he
      exact (hsp r hr).1
    · intro he
      have hin := row_in (hok e he).row
      have hl : (R8.of (padL e.1)).l = padL e.1 := R8.l_of hin.1
      have hmem : R8.of (padL e.1) ∈ ss := by
        refine (hm _).2 ?_
        rw [hl]
        refine ⟨hin, ?_⟩
        unfold entF
        rw [if_pos (List.any_eq_true.2 ⟨e, he, by simp⟩)]
        rfl
      refine List.mem_map.2 ⟨_, hmem, ?_⟩
      obtain ⟨h1, h2⟩ := hsp _ hmem
      rw [hl] at h2
      have hf := padL_inj (hok _ h1).row (hok e he).row h2
      exact fst_inj hnd h1 he hf
end Go.Proofs.YtkcnjnccdafbfaaGreatDoor

namespace Go.Proofs.YtkcnjnccdafbfaaGreatDoor
open Go.RowKit Go.Vf Go.Maps Go.Sort

def flatV (vs : List (Value × Value)) : List Value := vs.flatMap fun p => [p.1, p.2]
theorem flatV_snoc (vs : List (Value × Value)) (p e : Value) : flatV (vs ++ [(p, e)]) = flatV vs ++ [p, e] := by simp [flatV]
theorem flatV_len (vs : List (Value × Value)) : (flatV vs).length = vs.length * 2 := by
  induction vs with
  | nil => rfl
  | cons a r ih => simp [flatV] at ih ⊢; omega
theorem flatV_at : ∀ (vs : List (Value × Value)) (j : Nat) (hj : j < vs.length), (flatV vs)[j * 2]? = some vs[j].1 ∧ (flatV vs)[j * 2 + 1]? = some vs[j].2 := by
  intro vs
  induction vs with
  | nil => intro j hj; simp at hj
  | cons a r ih =>
    intro j hj
    have e : flatV (a :: r) = a.1 :: a.2 :: flatV r := by simp [flatV]
    rw [e]
    cases j with
    | zero => exact ⟨rfl, rfl⟩
    | succ j =>
      have := ih j (by simpa using hj)
      rw [show (j + 1) * 2 = j * 2 + 1 + 1 by omega]
      simpa using this
theorem mem_flatV {vs : List (Value × Value)} {u : Value} (h : u ∈ flatV vs) : ∃ j, ∃ hj : j < vs.length, u = vs[j].1 ∨ u = vs[j].2 := by
  unfold flatV at h
  obtain ⟨p, hp, hu⟩ := List.mem_flatMap.1 h
  obtain ⟨j, hj, rfl⟩ := List.mem_iff_getElem.1 hp
  refine ⟨j, hj, ?_⟩
  simpa using hu
/-- A slice of entries, each with lists of its own. -/
structure EntsO (w : World) (base : Nat) (v : Value) (vs : List (Value × Value)) (E : List Ent) : Prop where
  row : w.ownsRow base 59 2 v E.length (flatV vs)
  len : vs.length = E.length
  pts : ∀ j (h1 : j < vs.length) (h2 : j < E.length), IOwn w base vs[j].1 E[j].1
  els : ∀ j (h1 : j < vs.length) (h2 : j < E.length), EOwn w base vs[j].2 E[j].2
  apt : (flatV vs).Pairwise Apt
theorem EntsO.nil (w : World) (base : Nat) : EntsO w base (.slice none 0 0) [] [] := ⟨World.ownsRow_nil _ _ _ _, rfl, fun j h => by simp at h, fun j h => by simp at h, List.Pairwise.nil⟩
section
variable {w : World} {base : Nat} {v : Value} {vs : List (Value × Value)} {E : List Ent}
theorem EntsO.lt (h : EntsO w base v vs E) : ∀ u ∈ flatV vs, ∀ g, u.ownBlock = some g → g < w.heap.size := by
  intro u hu g hg
  obtain ⟨j, hj, rfl | rfl⟩ := mem_flatV hu
  · exact own_lt (h.pts j hj (h.len ▸ hj)) g hg
  · exact own_lt (h.els j hj (h.len ▸ hj)) g hg
theorem EntsO.below {w' : World} {n : Nat} (h : EntsO w base v vs E) (hb : Below n w w') (hn : w.heap.size ≤ n) : EntsO w' base v vs E := by
  have q : ∀ {u : Value} {b : Nat} {e : TypeId} {s k : Nat} {xs : List Value}, w.ownsRow b e s u k xs → w'.ownsRow b e s u k xs := fun hu => own_other hu (fun g hg => hb.block g (by have := own_lt hu g hg; omega))
  exact ⟨q h.row, h.len, fun j h1 h2 => q (h.pts j h1 h2), fun j h1 h2 => q (h.els j h1 h2), h.apt⟩
theorem EntsO.mono {b' : Nat} (h : EntsO w base v vs E) (hb : b' ≤ base) : EntsO w b' v vs E :=
  ⟨ownsRow_mono h.row hb, h.len, fun j h1 h2 => ownsRow_mono (h.pts j h1 h2) hb, fun j h1 h2 => ownsRow_mono (h.els j h1 h2) hb, h.apt⟩
theorem EntsO.snoc {w6 : World} {pv ev v' : Value} {e : Ent} {o : Obj} {m : Nat} (h : EntsO w base v vs E) (hp : IOwn w base pv e.1) (he : EOwn w base ev e.2)
    (hlt : ∀ u ∈ flatV vs, ∀ g, u.ownBlock = some g → g < m) (hpm : ∀ g, pv.ownBlock = some g → m ≤ g) (hem : ∀ g, ev.ownBlock = some g → m ≤ g)
    (hrow : w6.ownsRow base 59 2 v' (E.length + 1) (flatV vs ++ [pv, ev])) (hg : (w.alloc o).grownBy w6 v.ownBlock) : EntsO w6 base v' (vs ++ [(pv, ev)]) (E ++ [e]) := by
  have q : ∀ {u : Value} {b : Nat} {t : TypeId} {s k : Nat} {xs : List Value}, w.ownsRow b t s u k xs → 59 ≠ t → w6.ownsRow b t s u k xs := fun hu ht => own_grown (hu.alloc o) hg (apt_types (h.row.alloc o) (hu.alloc o) ht)
  refine ⟨?_, by simp [h.len], fun j h1 h2 => ?_, fun j h1 h2 => ?_, ?_⟩
  · rw [flatV_snoc, List.length_append]; exact hrow
  · by_cases hj : j < vs.length
    · have hj2 : j < E.length := h.len ▸ hj
      rw [List.getElem_append_left hj, List.getElem_append_left hj2]
      exact q (h.pts j hj hj2) (by decide)
    · have e1 : j = vs.length := by simp at h1; omega
      have e2 : j = E.length := by rw [e1, h.len]
      rw [List.getElem_append_right (by omega), List.getElem_append_right (by omega)]
      simp only [e1, h.len, Nat.sub_self, List.getElem_cons_zero]
      exact q hp (by decide)
  · by_cases hj : j < vs.length
    · have hj2 : j < E.length := h.len ▸ hj
      rw [List.getElem_append_left hj, List.getElem_append_left hj2]
      exact q (h.els j hj hj2) (by decide)
    · have e1 : j = vs.length := by simp at h1; omega
      have e2 : j = E.length := by rw [e1, h.len]
      rw [List.getElem_append_right (by omega), List.getElem_append_right (by omega)]
      simp only [e1, h.len, Nat.sub_self, List.getElem_cons_zero]
      exact q he (by decide)
  · rw [flatV_snoc, List.pairwise_append]
    refine ⟨h.apt, ?_, fun a ha b hb => ?_⟩
    · have := apt_types hp he (by decide)
      simpa using this
    · intro g h1 h2
      have := hlt a ha g h1
      simp at hb
      rcases hb with rfl | rfl
      · have := hpm g h2; omega
      · have := hem g h2; omega
end
theorem EntsO.inn {w : World} {base : Nat} {v : Value} {vs : List (Value × Value)} {E : List Ent} (h : EntsO w base v vs E) : EIn w.heap.size w v E := by
  rcases h.row.2 with ⟨rfl, h0⟩ | ⟨g, cap, cur, rfl, hb, hg, hn, hm, hs, ht⟩
  · exact .inl ⟨_, _, rfl, List.eq_nil_of_length_eq_zero h0⟩
  · have hB : Blk w g 59 cur := hg
    refine .inr ⟨g, 0, cap, rfl, hB.lt, fun j hj => ?_⟩
    have hj1 : j < vs.length := h.len ▸ hj
    obtain ⟨f1, f2⟩ := flatV_at vs j hj1
    have hp := h.pts j hj1 hj
    have he := h.els j hj1 hj
    obtain ⟨pa, pc, hpv⟩ := row_val hp
    obtain ⟨ea, ec, hev⟩ := row_val he
    have q : ∀ k, k < E.length * 2 → w.cell? ⟨g, 0 + k, none⟩ = (flatV vs)[k]? := fun k hk => by
      rw [Nat.zero_add, hB.cell, ← ht, List.getElem?_take_of_lt hk, Array.getElem?_toList]
    refine ⟨pa, pc, ea, ec, ?_, ?_, ?_, ?_⟩
    · rw [q _ (by omega), f1, hpv]
    · rw [Nat.add_assoc, q _ (by omega), f2, hev]
    · have := IOwn.ints hp
      rwa [hpv] at this
    · have := EOwn.els he
      rwa [hev] at this
end Go.Proofs.YtkcnjnccdafbfaaGreatDoor
