/- append of some marks of a row to another (nothing is claimed here). -/
import Derived.Test.YtpmckfmjegehgaaGreatDoorBackG
import Derived.Test.YtpmckfmjegehgaaGreatDoorLent
namespace Go.Proofs.YtpmckfmjegehgaaGreatDoor
open Go.RowKit Go.Vf Go.Maps

/-- 'append(all, l...)' of marks: l is a piece of any row, or nothing. -/
theorem wpList_append_run {w : World} {ops : Array Oper} {rest : List Oper} {o : Oper} {a : Act} {Q : Exit → Act → World → Prop} (hgd : o.guard = none) (s x : Operand)
    (ho : o.op = .call { callee := .builtin .append, args := #[s, x], argTypes := #[27, 27] })
    (base : Nat) (v : Value) (n : Nat) (xs : List Value) (hs : a.eval s = v) (hown : w.ownsRow base 36 3 v n xs) (pa : Option Addr) (m pc : Nat) (news : List Value) (hx : a.eval x = .slice pa m pc) (hn : news.length = m * 3)
    (hc : m ≠ 0 → ∃ ad, pa = some ad ∧ ∀ j u, news[j]? = some u → w.cell? (ad.add j) = some u) (h1 : ∀ u ∈ news, u.oneCell' = true) (hlen : n + m ≤ 1048576) (hbase : base ≤ w.heap.size)
    (h : ∀ a' c' w', w'.ownsRow base 36 3 (.slice a' (n + m) c') (n + m) (xs ++ news) → w.grownBy w' v.ownBlock → ((Value.slice a' (n + m) c').ownBlock = v.ownBlock ∨ (Value.slice a' (n + m) c').ownBlock = some w.heap.size) → wpList Tryz.prog ops Q rest (a.put o.dst (.slice a' (n + m) c')) w') :
    wpList Tryz.prog ops Q (o :: rest) a w := by
  obtain ⟨i, hi, hz, hsz, hby⟩ := info_parts info36
  by_cases hm : m = 0
  · subst hm
    have hnil : news = [] := List.eq_nil_of_length_eq_zero (by omega)
    subst hnil
    obtain ⟨a', c', rfl⟩ := row_val hown
    have hle : n ≤ c' := by
      by_cases h0 : 0 < n
      · obtain ⟨_, _, e, h2, _⟩ := row_some hown h0
        cases e; exact h2
      · omega
    have hr : (Builtin.append_ #[27, 27] o.type #[.slice a' n c', .slice pa 0 pc]).run Tryz.prog w = .ok (.slice a' n c') w := by
      cases pa with
      | none => exact run_append_nothing (P := Tryz.prog) w 27 27 o.type 36 i Tryz.underlying27 hi a' n c' hle _ (Src.ofNil w Tryz.underlying27 pc)
      | some ad => exact run_append_nothing (P := Tryz.prog) w 27 27 o.type 36 i Tryz.underlying27 hi a' n c' hle _ (Src.ofSlice w Tryz.underlying27 ad 0 pc [] (by simp) (by simp) (by simp))
    refine wpList_plain hgd fun K hK => ?_
    unfold Oper.wp execOp
    simp only [ho, resolve, invoke, builtin, Sem.run_bind, Sem.run_pure, Result.andThen_ok, List.map_toArray, List.map_cons, List.map_nil, hs, hx, hr]
    have := h a' c' w (by rw [List.append_nil]; exact hown) (World.grownBy.refl _ _) (.inl rfl)
    exact hK _ _ this
  · obtain ⟨ad, rfl, hcell⟩ := hc hm
    refine wpList_append_own_at (P := Tryz.prog) _ hgd s x 27 ho base 36 i _ 3 40 Tryz.underlying27 hi hz hsz hby rfl (by decide) v n xs hs hown ad m pc news hx hn hcell h1 ?_ ?_ ?_ ?_
    · unfold maxLen; omega
    · omega
    · omega
    · intro v' w' h1 h2 _ h4
      obtain ⟨a', c', rfl⟩ := row_val h1
      exact h a' c' w' h1 h2 h4

end Go.Proofs.YtpmckfmjegehgaaGreatDoor
