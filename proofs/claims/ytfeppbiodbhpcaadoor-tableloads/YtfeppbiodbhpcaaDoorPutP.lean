/- What is printed of entries (plain functions; nothing is claimed here). -/
import Derived.Test.YtfeppbiodbhpcaaDoorPutT
namespace Go.Proofs.YtfeppbiodbhpcaaDoor
open Go.RowKit Go.Vf Go.Maps

theorem writeT_rest : ∀ (r : List Ent) (acc : List UInt8), acc.length ≤ 65536 → writeT r false acc = if 65536 < (acc ++ r.flatMap fun y => 10 :: entP y).length then none else some (acc ++ r.flatMap fun y => 10 :: entP y) := by
  intro r
  induction r with
  | nil => intro acc h; simp [writeT]; omega
  | cons a t ih =>
    intro acc h
    rw [writeT_cons]
    simp only [Bool.false_eq_true, if_false]
    have e : (acc ++ [10]) ++ entP a ++ t.flatMap (fun y => 10 :: entP y) = acc ++ (a :: t).flatMap fun y => 10 :: entP y := by simp
    by_cases hl : 65536 < ((acc ++ [10]) ++ entP a).length
    · rw [if_pos hl, if_pos]
      rw [← e, List.length_append]
      omega
    · rw [if_neg hl, ih _ (by omega), e]
theorem writeT_text (l : List Ent) : writeT l true [] = if 65536 < (textT l).length then none else some (textT l) := by
  cases l with
  | nil => simp [writeT, textT]
  | cons a t =>
    rw [writeT_cons]
    simp only [if_true, List.nil_append, textT]
    by_cases hl : 65536 < (entP a).length
    · rw [if_pos hl]
      symm
      apply if_pos
      rw [List.length_append]
      omega
    · rw [if_neg hl, writeT_rest _ _ (by omega)]
      rfl
theorem checkT_iff : ∀ (l : List Ent) (ab : List Int), checkT l ab = true ↔ (∀ x ∈ l, EntOk x) ∧ RiseE l ∧ ∀ x, l.head? = some x → aheadL ab x.1 < 0 := by
  intro l
  induction l with
  | nil => intro ab; simp [checkT, RiseE]
  | cons a r ih =>
    intro ab
    constructor
    · intro h
      have hok := checkT_ok _ _ h
      unfold checkT at h
      split at h
      · split at h
        · split at h
          · cases h
          · rename_i hz
            obtain ⟨_, h2, h3⟩ := (ih a.1).1 h
            refine ⟨hok, List.Pairwise.cons (fun b hb => ?_) h2, fun x hx => ?_⟩
            · cases r with
              | nil => cases hb
              | cons c t =>
                have hc := h3 c rfl
                rcases List.mem_cons.1 hb with rfl | hb
                · exact hc
                · exact aheadL_trans _ _ _ hc ((List.pairwise_cons.1 h2).1 b hb)
            · simp at hx
              subst hx
              omega
        · cases h
      · cases h
    · rintro ⟨h1, h2, h3⟩
      have ha := h1 a (by simp)
      have hall : allB a.2 = true := by
        unfold allB
        simp only [Bool.and_eq_true, decide_eq_true_eq]
        exact ⟨⟨ha.n0, ha.n1⟩, ha.ok⟩
      have h4 := h3 a rfl
      unfold checkT
      rw [if_pos ha.row, if_pos hall, if_neg (by omega)]
      refine (ih a.1).2 ⟨fun x hx => h1 x (by simp [hx]), (List.pairwise_cons.1 h2).2, fun x hx => ?_⟩
      exact (List.pairwise_cons.1 h2).1 x (List.mem_of_mem_head? hx)
theorem ahead_nil {p : List Int} (h : rowB p = true) : aheadL [] p < 0 := by
  have := (rowB_len h).1
  cases p with
  | nil => simp at this
  | cons x r => simp [aheadL]
theorem printT_ok {l : List Ent} {t : List UInt8} (h : printT l = .ok t) : t = textT l ∧ (∀ x ∈ l, EntOk x) ∧ RiseE l ∧ l.length ≤ 4096 ∧ (textT l).length ≤ 65536 := by
  unfold printT at h
  split at h
  · cases h
  · rename_i hl
    split at h
    · rename_i hc
      obtain ⟨h1, h2, _⟩ := (checkT_iff l []).1 hc
      rw [writeT_text] at h
      by_cases hL : 65536 < (textT l).length
      · rw [if_pos hL] at h; cases h
      · rw [if_neg hL] at h
        cases h
        exact ⟨rfl, h1, h2, by omega, by omega⟩
    · cases h
theorem printT_of {l : List Ent} (h1 : ∀ x ∈ l, EntOk x) (h2 : RiseE l) (h3 : l.length ≤ 4096) (h4 : (textT l).length ≤ 65536) : printT l = .ok (textT l) := by
  unfold printT
  rw [if_neg (by omega), if_pos ((checkT_iff l []).2 ⟨h1, h2, fun x hx => ahead_nil (h1 x (List.mem_of_mem_head? hx)).row⟩), writeT_text, if_neg (by omega)]
theorem printT_err {l : List Ent} {e : Int} (h : printT l = .error e) : e = 1 ∨ e = 2 := by
  unfold printT at h
  split at h
  · cases h; exact .inr rfl
  · split at h
    · split at h
      · cases h; exact .inr rfl
      · cases h
    · cases h; exact .inl rfl
theorem rise_nodup {l : List Ent} (h : RiseE l) : (l.map Prod.fst).Nodup := by
  unfold RiseE at h
  refine List.pairwise_map.2 (h.imp fun {a b} h e => ?_)
  rw [e, aheadL_self] at h
  omega
/-- What is printed is read as it was. -/
theorem print_load {l : List Ent} {t : List UInt8} (h : printT l = .ok t) : loadT t = .ok l := by
  obtain ⟨rfl, h1, h2, h3, h4⟩ := printT_ok h
  exact loadT_textT h1 (rise_nodup h2) h3 h4
end Go.Proofs.YtfeppbiodbhpcaaDoor
