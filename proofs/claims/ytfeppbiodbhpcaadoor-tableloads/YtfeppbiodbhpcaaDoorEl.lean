/- What table's isRight, allRight, Implied do; lists of elements in memory (contracts; nothing is claimed here). -/
import Derived.Test.YtfeppbiodbhpcaaDoorHex
namespace Go.Proofs.YtfeppbiodbhpcaaDoor
open Go.RowKit Go.Vf Go.Maps

/-- An element as a value. -/
def elV (e : El) : List Value := [.bool e.va, .int .i64 e.pr, .int .i64 e.se, .int .i64 e.te]
abbrev elA (e : El) : Value := .agg #[.bool e.va, .int .i64 e.pr, .int .i64 e.se, .int .i64 e.te]
def elsV (l : List El) : List Value := l.flatMap elV
theorem elsV_len (l : List El) : (elsV l).length = l.length * 4 := by
  induction l with
  | nil => rfl
  | cons e r ih => simp only [elsV, List.flatMap_cons, List.length_append] at ih ⊢; rw [ih]; simp [elV]; omega
theorem elsV_append (a b : List El) : elsV (a ++ b) = elsV a ++ elsV b := by simp [elsV]

/-- A slice of these elements, in a block that lies here. -/
def Els (n₀ : Nat) (W : World) (v : Value) (l : List El) : Prop :=
  (∃ a cap, v = .slice a 0 cap ∧ l = []) ∨ ∃ b off cap, v = .slice (some ⟨b, off, none⟩) l.length cap ∧ b < n₀ ∧ ∀ j (hj : j < l.length),
    W.cell? ⟨b, off + j * 4, none⟩ = some (.bool l[j].va) ∧ W.cell? ⟨b, off + j * 4 + 1, none⟩ = some (.int .i64 l[j].pr) ∧ W.cell? ⟨b, off + j * 4 + 2, none⟩ = some (.int .i64 l[j].se) ∧ W.cell? ⟨b, off + j * 4 + 3, none⟩ = some (.int .i64 l[j].te)
theorem Els.val {n₀ : Nat} {W : World} {v : Value} {l : List El} (h : Els n₀ W v l) : ∃ a cap, v = .slice a l.length cap := by
  rcases h with ⟨a, cap, rfl, rfl⟩ | ⟨b, off, cap, rfl, _⟩
  · exact ⟨a, cap, rfl⟩
  · exact ⟨_, cap, rfl⟩
theorem Els.below {n₀ n : Nat} {A B : World} {v : Value} {l : List El} (h : Els n₀ A v l) (hb : Below n A B) (hn : n₀ ≤ n) : Els n₀ B v l := by
  rcases h with h | ⟨b, off, cap, e, hlt, hc⟩
  · exact .inl h
  · refine .inr ⟨b, off, cap, e, hlt, fun j hj => ?_⟩
    obtain ⟨h0, h1, h2, h3⟩ := hc j hj
    have q : ∀ k, B.cell? ⟨b, k, none⟩ = A.cell? ⟨b, k, none⟩ := fun k => hb.cell (p := ⟨b, k, none⟩) (show b < n by omega)
    exact ⟨(q _).trans h0, (q _).trans h1, (q _).trans h2, (q _).trans h3⟩
theorem Els.mono {n₀ n : Nat} {A : World} {v : Value} {l : List El} (hn : n₀ ≤ n) (h : Els n₀ A v l) : Els n A v l := by
  rcases h with h | ⟨b, off, cap, e, hlt, hc⟩
  · exact .inl h
  · exact .inr ⟨b, off, cap, e, Nat.lt_of_lt_of_le hlt hn, hc⟩
/-- The slice v owns these elements. -/
def EOwn (w : World) (base : Nat) (v : Value) (l : List El) : Prop := w.ownsRow base 49 4 v l.length (elsV l)
theorem EOwn.nil (w : World) (base : Nat) : EOwn w base (.slice none 0 0) [] := World.ownsRow_nil _ _ _ _
theorem elsV_at : ∀ (l : List El) (j : Nat) (hj : j < l.length), (elsV l)[j * 4]? = some (.bool l[j].va) ∧ (elsV l)[j * 4 + 1]? = some (.int .i64 l[j].pr) ∧ (elsV l)[j * 4 + 2]? = some (.int .i64 l[j].se) ∧ (elsV l)[j * 4 + 3]? = some (.int .i64 l[j].te) := by
  intro l
  induction l with
  | nil => intro j hj; simp at hj
  | cons e r ih =>
    intro j hj
    have hc : elsV (e :: r) = [Value.bool e.va, .int .i64 e.pr, .int .i64 e.se, .int .i64 e.te] ++ elsV r := rfl
    cases j with
    | zero => rw [hc]; simp
    | succ j =>
      have hj' : j < r.length := by simpa using hj
      obtain ⟨h0, h1, h2, h3⟩ := ih j hj'
      have q : ∀ k, (elsV (e :: r))[4 + k]? = (elsV r)[k]? := fun k => by
        rw [hc, List.getElem?_append_right (by simp)]
        congr 1
        simp
      simp only [List.getElem_cons_succ]
      refine ⟨?_, ?_, ?_, ?_⟩
      · rw [← h0, ← q]; congr 1; omega
      · rw [← h1, ← q]; congr 1; omega
      · rw [← h2, ← q]; congr 1; omega
      · rw [← h3, ← q]; congr 1; omega
theorem EOwn.form {w : World} {base : Nat} {v : Value} {l : List El} (h : EOwn w base v l) : (v = .slice none 0 0 ∧ l = []) ∨ ∃ g cap, v = .slice (some ⟨g, 0, none⟩) l.length cap ∧ base ≤ g ∧ g < w.heap.size ∧ (∀ j x, (elsV l)[j]? = some x → w.cell? ⟨g, j, none⟩ = some x) ∧ (∀ j, w.frozen? ⟨g, j, none⟩ = false) := by
  obtain ⟨h1, h2⟩ := h
  rcases h2 with ⟨rfl, hn⟩ | ⟨g, cap, cur, rfl, hb, hh, hc1, hc2, hc3, hc4⟩
  · exact .inl ⟨rfl, List.eq_nil_of_length_eq_zero hn⟩
  · refine .inr ⟨g, cap, rfl, hb, (Array.getElem?_eq_some_iff.1 hh).1, fun j x hx => ?_, fun j => ?_⟩
    · have hj : j < (elsV l).length := (List.getElem?_eq_some_iff.1 hx).1
      rw [elsV_len] at hj
      rw [← hc4, List.getElem?_take_of_lt (by omega)] at hx
      simp only [World.cell?, hh]
      simpa using hx
    · simp [World.frozen?, hh]
theorem EOwn.els {w : World} {base : Nat} {v : Value} {l : List El} (h : EOwn w base v l) : Els w.heap.size w v l := by
  rcases h.form with h | ⟨g, cap, rfl, hb, hlt, hc, _⟩
  · exact .inl ⟨none, 0, h⟩
  · refine .inr ⟨g, 0, cap, rfl, hlt, fun j hj => ?_⟩
    obtain ⟨h0, h1, h2, h3⟩ := elsV_at l j hj
    rw [Nat.zero_add]
    exact ⟨hc _ _ h0, hc _ _ h1, hc _ _ h2, hc _ _ h3⟩
theorem Els.at {n₀ : Nat} {w : World} {a : Option Addr} {k cap : Nat} {l : List El} (h : Els n₀ w (.slice a k cap) l) {j : Nat} (hj : j < l.length) : ∃ b off, a = some ⟨b, off, none⟩ ∧
    w.cell? ⟨b, off + j * 4, none⟩ = some (.bool l[j].va) ∧ w.cell? ⟨b, off + j * 4 + 1, none⟩ = some (.int .i64 l[j].pr) ∧ w.cell? ⟨b, off + j * 4 + 2, none⟩ = some (.int .i64 l[j].se) ∧ w.cell? ⟨b, off + j * 4 + 3, none⟩ = some (.int .i64 l[j].te) := by
  rcases h with ⟨a', cap', e, rfl⟩ | ⟨b, off, cap', e, hlt, hc⟩
  · simp at hj
  · cases e
    exact ⟨b, off, rfl, hc j hj⟩

set_option maxHeartbeats 1000000 in
theorem isRight_any (e : El) (w : World) : Calls Tryd.prog 58 #[elA e] w fun r w' => r = .returned (.bool (rightB e)) ∧ Below w.heap.size w w' := by
  obtain ⟨va, pr, se, te⟩ := e
  have hb0 := (Below.refl w.heap.size w).alloc (Nat.le_refl _) (.cells #[.bool va, .int .i64 pr, .int .i64 se, .int .i64 te] 49)
  cases h1 : wtB pr with
  | false =>
    have hR : rightB ⟨va, pr, se, te⟩ = false := by simp [rightB, h1]
    rw [hR]
    have c1 := fun w => isWeight_any pr w
    rw [h1] at c1
    clear hR h1
    go_enter Tryd.func58, Tryd.ntmps58
    go_wp2_with fail
    refine (c1 _).mono ?_
    rintro _ w1 ⟨rfl, rfl⟩
    go_wp2
    go_ret
    exact ⟨rfl, hb0⟩
  | true =>
    have c1 := fun w => isWeight_any pr w
    rw [h1] at c1
    cases h2 : wtB se with
    | false =>
      have hR : rightB ⟨va, pr, se, te⟩ = false := by simp [rightB, h2]
      rw [hR]
      have c2 := fun w => isWeight_any se w
      rw [h2] at c2
      clear hR h1 h2
      go_enter Tryd.func58, Tryd.ntmps58
      go_wp2_with fail
      refine (c1 _).mono ?_
      rintro _ w1 ⟨rfl, rfl⟩
      go_wp2_with fail
      refine (c2 _).mono ?_
      rintro _ w1 ⟨rfl, rfl⟩
      go_wp2
      go_ret
      exact ⟨rfl, hb0⟩
    | true =>
      have c2 := fun w => isWeight_any se w
      rw [h2] at c2
      cases h3 : wtB te with
      | false =>
        have hR : rightB ⟨va, pr, se, te⟩ = false := by simp [rightB, h3]
        rw [hR]
        have c3 := fun w => isWeight_any te w
        rw [h3] at c3
        clear hR h1 h2 h3
        go_enter Tryd.func58, Tryd.ntmps58
        go_wp2_with fail
        refine (c1 _).mono ?_
        rintro _ w1 ⟨rfl, rfl⟩
        go_wp2_with fail
        refine (c2 _).mono ?_
        rintro _ w1 ⟨rfl, rfl⟩
        go_wp2_with fail
        refine (c3 _).mono ?_
        rintro _ w1 ⟨rfl, rfl⟩
        go_wp2
        go_ret
        exact ⟨rfl, hb0⟩
      | true =>
        have c3 := fun w => isWeight_any te w
        rw [h3] at c3
        have hR : rightB ⟨va, pr, se, te⟩ = (decide (pr ≤ 64319) && !(decide (pr ≠ 0) && decide (se = 0)) && !(decide (se ≠ 0) && decide (te = 0)) && (decide (pr ≠ 0) || !va)) := by simp only [rightB, h1, h2, h3, Bool.true_and]
        generalize hQ : rightB ⟨va, pr, se, te⟩ = Q at hR ⊢
        have HQ : Hid (Q = (decide (pr ≤ 64319) && !(decide (pr ≠ 0) && decide (se = 0)) && !(decide (se ≠ 0) && decide (te = 0)) && (decide (pr ≠ 0) || !va))) := hR
        clear hR hQ h1 h2 h3
        go_enter Tryd.func58, Tryd.ntmps58
        go_wp2_with fail
        refine (c1 _).mono ?_
        rintro _ w1 ⟨rfl, rfl⟩
        go_wp2_with fail
        refine (c2 _).mono ?_
        rintro _ w1 ⟨rfl, rfl⟩
        go_wp2_with fail
        refine (c3 _).mono ?_
        rintro _ w1 ⟨rfl, rfl⟩
        go_wp2
        all_goals go_ret
        all_goals refine ⟨?_, (Below.refl _ _).alloc (Nat.le_refl _) _⟩
        all_goals rw [HQ.out]
        all_goals clear HQ c1 c2 c3 hb0
        all_goals by_cases ht : te = 0
        all_goals first
          | (simp [*]; done)
          | (simp; omega)
          | (cases va <;> simp [*]; done)
          | (exfalso; simp_all; done)

end Go.Proofs.YtfeppbiodbhpcaaDoor
