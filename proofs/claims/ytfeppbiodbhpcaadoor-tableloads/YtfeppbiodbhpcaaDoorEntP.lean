/- The entries of a table, in their order (plain functions; nothing is claimed here). -/
import Derived.Test.YtfeppbiodbhpcaaDoorSortK
import Derived.Test.YtfeppbiodbhpcaaDoorAsk6
import Derived.Test.YtfeppbiodbhpcaaDoorEntA
namespace Go.Proofs.YtfeppbiodbhpcaaDoor
open Go.RowKit Go.Vf Go.Maps Go.Sort

theorem aheadL_fill : ∀ (p q : List Int) (n : Nat), (∀ x ∈ p, 0 ≤ x) → (∀ x ∈ q, 0 ≤ x) → p.length ≤ n → q.length ≤ n → aheadL (p ++ List.replicate (n - p.length) (-1)) (q ++ List.replicate (n - q.length) (-1)) = aheadL p q := by
  intro p
  induction p with
  | nil =>
    intro q n hp hq h1 h2
    cases q with
    | nil => exact aheadL_self _
    | cons y t =>
      cases n with
      | zero => simp at h2
      | succ m =>
        have hy := hq y (by simp)
        simp only [List.nil_append, List.length_nil, Nat.sub_zero, List.replicate_succ, List.cons_append, aheadL]
        rw [if_pos (by omega)]
  | cons x r ih =>
    intro q n hp hq h1 h2
    have hx := hp x (by simp)
    cases n with
    | zero => simp at h1
    | succ m =>
      cases q with
      | nil =>
        simp only [List.nil_append, List.length_nil, Nat.sub_zero, List.replicate_succ, List.cons_append, aheadL]
        rw [if_neg (by omega), if_pos (by omega)]
      | cons y t =>
        have := ih t m (fun z hz => hp z (by simp [hz])) (fun z hz => hq z (by simp [hz])) (by simpa using h1) (by simpa using h2)
        simp only [List.cons_append, List.length_cons, Nat.add_sub_add_right, aheadL, this]
theorem row_pos {p : List Int} (h : rowB p = true) : ∀ x ∈ p, 0 ≤ x := by
  intro x hx
  unfold rowB at h
  simp only [Bool.and_eq_true, List.all_eq_true] at h
  obtain ⟨u, rfl, hu⟩ := isPtB_nat (h.2 x hx)
  omega
theorem aheadL_pad {p q : List Int} (hp : rowB p = true) (hq : rowB q = true) : aheadL (padL p) (padL q) = aheadL p q :=
  aheadL_fill p q 8 (row_pos hp) (row_pos hq) (rowB_len hp).2 (rowB_len hq).2
/-- Entries that rise. -/
def RiseE (l : List Ent) : Prop := l.Pairwise fun a b => aheadL a.1 b.1 < 0
theorem aheadL_asymm {a b : List Int} (h : aheadL a b < 0) : ¬ aheadL b a < 0 := fun h2 => by
  have := aheadL_trans _ _ _ h h2
  rw [aheadL_self] at this
  omega
theorem rise_one {a b : List Ent} (hp : a.Perm b) (ha : RiseE a) (hb : RiseE b) : a = b :=
  List.Perm.eq_of_pairwise (le := fun x y : Ent => aheadL x.1 y.1 < 0) (fun _ _ _ _ h1 h2 => absurd h2 (aheadL_asymm h1)) ha hb hp
def entAt (E : List Ent) (r : R8) : Ent := (E.find? (fun e => padL e.1 == r.l)).getD ([], [])
theorem entAt_mem {E : List Ent} {val : List Int → Value} {r : R8} (h : (entF val E r.l).isSome = true) : entAt E r ∈ E ∧ padL (entAt E r).1 = r.l := by
  have h' : E.any (fun e => padL e.1 == r.l) = true := by
    unfold entF at h
    split at h
    · assumption
    · simp at h
  unfold entAt
  cases hf : E.find? (fun e => padL e.1 == r.l) with
  | none =>
    obtain ⟨x, hx, hx2⟩ := List.any_eq_true.1 h'
    exact absurd hx2 (List.find?_eq_none.1 hf x hx)
  | some x =>
    exact ⟨List.mem_of_find?_eq_some hf, by simpa using List.find?_some hf⟩
theorem map_fst_nodup {E : List Ent} (h : (E.map Prod.fst).Nodup) : E.Nodup := List.Pairwise.of_map Prod.fst (fun _ _ hne e => hne (by rw [e])) h
theorem fst_inj : ∀ {E : List Ent}, (E.map Prod.fst).Nodup → ∀ {x y : Ent}, x ∈ E → y ∈ E → x.1 = y.1 → x = y := by
  intro E
  induction E with
  | nil => intro _ x y hx; cases hx
  | cons a r ih =>
    intro h x y hx hy e
    rw [List.map_cons, List.nodup_cons] at h
    rcases List.mem_cons.1 hx with rfl | hx'
    · rcases List.mem_cons.1 hy with rfl | hy'
      · rfl
      · exact absurd (e ▸ List.mem_map_of_mem hy') h.1
    · rcases List.mem_cons.1 hy with rfl | hy'
      · exact absurd (e ▸ List.mem_map_of_mem hx') h.1
      · exact ih h.2 hx' hy' e
theorem ents_perm {E : List Ent} {val : List Int → Value} {ss : List R8} (hok : ∀ e ∈ E, EntOk e) (hnd : (E.map Prod.fst).Nodup) (hr : Rise ss) (hm : ∀ r, r ∈ ss ↔ RowOk r.l ∧ (entF val E r.l).isSome = true) :
    RiseE (ss.map (entAt E)) ∧ (ss.map (entAt E)).Perm E := by
  have hsp : ∀ r ∈ ss, entAt E r ∈ E ∧ padL (entAt E r).1 = r.l := fun r hr => entAt_mem ((hm r).1 hr).2
  have hR : RiseE (ss.map (entAt E)) := by
    unfold RiseE
    rw [List.pairwise_map]
    refine List.Pairwise.imp_of_mem (fun {a b} ha hb h => ?_) hr
    obtain ⟨ha1, ha2⟩ := hsp a ha
    obtain ⟨hb1, hb2⟩ := hsp b hb
    rw [← aheadL_pad (hok _ ha1).row (hok _ hb1).row, ha2, hb2]
    exact h
  refine ⟨hR, (List.perm_ext_iff_of_nodup ?_ (map_fst_nodup hnd)).2 fun e => ?_⟩
  · refine List.Pairwise.imp (fun {a b} h e => ?_) hR
    rw [e, aheadL_self] at h
    omega
  · constructor
    · intro he
      obtain ⟨r, hr, rfl⟩ := List.mem_map.1 he
      exact (hsp r hr).1
    · intro he
      have hin := row_in (hok e he).row
      have hl : (R8.of (padL e.1)).l = padL e.1 := R8.l_of hin.1
      have hmem : R8.of (padL e.1) ∈ ss := by
        refine (hm _).2 ?_
        rw [hl]
        refine ⟨hin, ?_⟩
        unfold entF
        rw [if_pos (List.any_eq_true.2 ⟨e, he, by simp⟩)]
        rfl
      refine List.mem_map.2 ⟨_, hmem, ?_⟩
      obtain ⟨h1, h2⟩ := hsp _ hmem
      rw [hl] at h2
      have hf := padL_inj (hok _ h1).row (hok e he).row h2
      exact fst_inj hnd h1 he hf
end Go.Proofs.YtfeppbiodbhpcaaDoor
