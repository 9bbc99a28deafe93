/- Two rows of pairs, one appended to the other; where a pair that is told stands (contracts; nothing is claimed here). -/
import Derived.Test.YtklnnkdcnaieoaaSam
import Derived.Deep.Upon
namespace Go.Proofs.Ytklnnkdcnaieoaa
open Go.RowKit Go.Vf

theorem cellsP_append (a b : List Pr) : cellsP (a ++ b) = cellsP a ++ cellsP b := by simp [cellsP]
theorem cellsP_one (l : List Pr) : ∀ u ∈ cellsP l, u.oneCell' = true := by
  intro u hu
  simp only [cellsP, List.mem_flatMap] at hu
  obtain ⟨p, _, hp⟩ := hu
  rcases List.mem_cons.1 hp with rfl | hp
  · rfl
  · rcases List.mem_cons.1 hp with rfl | hp
    · rfl
    · cases hp
/-- append(low, high...). -/
theorem append_both {w : World} {b1 b2 : Nat} {v1 v2 : Value} {l1 l2 : List Pr} (h1 : PRow w b1 v1 l1) (h2 : PRow w b2 v2 l2) (hl : l1.length + l2.length ≤ 4294967296) (hb : b1 ≤ w.heap.size) :
    ∃ v' w', (Builtin.append_ #[39, 39] 39 #[v1, v2]).run Try.prog w = .ok v' w' ∧ PRow w' b1 v' (l1 ++ l2) ∧ w.grownBy w' v1.ownBlock := by
  obtain ⟨i0, hi, hz0, hz1, hz2⟩ := info_parts Try.info45
  by_cases h0 : l2.length = 0
  · have e : l2 = [] := List.eq_nil_of_length_eq_zero h0
    subst e
    rcases h2.2 with ⟨rfl, _⟩ | ⟨g, cap, cur, rfl, _, hg, _⟩
    · obtain ⟨a, c, e1⟩ := h1.shape
      have hle : l1.length ≤ c := by
        rcases h1.2 with ⟨q, q0⟩ | ⟨g, cap, cur, q, _, _, q1, _⟩
        · rw [q0]; exact Nat.zero_le _
        · rw [q] at e1; injection e1 with _ _ e3; omega
      subst e1
      refine ⟨_, w, run_append_nothing (P := Try.prog) w 39 39 39 45 i0 Try.underlying39 hi a l1.length c hle (.slice none 0 0) ?_, by simpa using h1, ⟨rfl, rfl, rfl, Nat.le_refl _, fun _ _ _ => rfl⟩⟩
      exact Src.ofNil w Try.underlying39 0
    · obtain ⟨v', w', r0, r1, r2, _⟩ := run_append_own (P := Try.prog) w b1 39 39 45 i0 _ 2 32 Try.underlying39 hi hz0 hz1 hz2 rfl (by decide) v1 l1.length (cellsP l1) h1 ⟨g, 0, none⟩ 0 cap [] rfl (fun j u hu => by simp at hu) (fun u hu => by cases hu) (by unfold maxLen; omega) (by simp only [List.length_nil] at hl; omega) hb
      exact ⟨v', w', r0, by rw [List.append_nil]; simpa [PRow] using r1, r2⟩
  · obtain ⟨g, c, _, _, e2, hat⟩ := h2.at (by omega)
    have hB : ∃ cur, Blk w g 45 cur ∧ cur.toList.take (l2.length * 2) = cellsP l2 := by
      rcases h2.2 with ⟨_, q⟩ | ⟨g', cap, cur, q, _, hg, _, _, _, ht⟩
      · omega
      · rw [q] at e2
        injection e2 with e3 _ _
        injection e3 with e3
        injection e3 with e3
        subst e3
        exact ⟨cur, hg, ht⟩
    obtain ⟨cur, hcur, htk⟩ := hB
    have hnews : ∀ j u, (cellsP l2)[j]? = some u → w.cell? ((⟨g, 0, none⟩ : Addr).add j) = some u := by
      intro j u hj
      refine World.news_of_block (cs := cur) (t := 45) (fr := (0, 0)) hcur j u ?_
      rw [← htk, List.getElem?_take] at hj
      split at hj
      · exact hj
      · cases hj
    obtain ⟨v', w', r0, r1, r2, _⟩ := run_append_own (P := Try.prog) w b1 39 39 45 i0 _ 2 32 Try.underlying39 hi hz0 hz1 hz2 rfl (by decide) v1 l1.length (cellsP l1) h1 ⟨g, 0, none⟩ l2.length c (cellsP l2) (cellsP_len l2) hnews (cellsP_one l2) (by unfold maxLen; omega) (by omega) hb
    refine ⟨v', w', by rw [e2]; exact r0, ?_, r2⟩
    unfold PRow
    rw [cellsP_append, List.length_append]
    exact r1
/-- A guarded append, where it is wanted. -/
theorem wpList_append_want {w w' : World} {ops : Array Oper} {rest : List Oper} {o : Oper} {a : Act} {Q : Exit → Act → World → Prop} (s x : Operand)
    (ho : o.op = .call { callee := .builtin .append, args := #[s, x], argTypes := #[39, 39] }) (hty : o.type = 39) (hw : Region.wanted o (yielded ops a.tmps) = true) {v1 v2 v' : Value} (hs : a.eval s = v1) (hx : a.eval x = v2)
    (hr : (Builtin.append_ #[39, 39] 39 #[v1, v2]).run Try.prog w = .ok v' w') (h : wpList Try.prog ops Q rest (a.put o.dst v') w') : wpList Try.prog ops Q (o :: rest) a w := by
  unfold wpList
  rw [if_pos hw]
  refine .inl ?_
  unfold Oper.wp execOp
  simp only [ho, hty, resolve, invoke, builtin, Sem.run_bind, Sem.run_pure, Result.andThen_ok, List.map_toArray, List.map_cons, List.map_nil, hs, hx, hr]
  exact h
/-- Where a pair that is told stands. -/
theorem filter_at {α : Type} (p : α → Bool) : ∀ (l : List α) (i : Nat) (hi : i < l.length), p l[i] = true → (l.filter p)[((l.take i).filter p).length]? = some l[i]
  | [], i, hi, _ => absurd hi (by simp)
  | x :: r, 0, _, h => by
    have h' : p x = true := h
    simp [List.filter_cons_of_pos h']
  | x :: r, i + 1, hi, h => by
    have ih := filter_at p r i (by simpa using hi) h
    cases hx : p x with
    | true => simpa [hx] using ih
    | false => simpa [hx] using ih
end Go.Proofs.Ytklnnkdcnaieoaa
