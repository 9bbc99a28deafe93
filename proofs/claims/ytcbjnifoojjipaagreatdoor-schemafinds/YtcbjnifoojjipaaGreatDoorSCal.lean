/- Operations that call nothing, in a round of a range over a function (lemmas; nothing is claimed here). -/
import Derived.Test.YtcbjnifoojjipaaGreatDoorSRng
import Derived.Deep.RegionHeld
import Derived.OrdersIn
namespace Go.Proofs.YtcbjnifoojjipaaGreatDoor
open Go.RowKit Go.Vf
def Calm (P : Program) (o : Oper) : Prop := (∀ c, o.op ≠ .defer c) ∧ ∀ (ρ : Operand → Value) (w : World) (x : Next) (w' : World), (execOp ρ o).run P w = .ok x w' → (∃ v, x = .value v) ∨ x = .skip
theorem calm_value {P : Program} {s : Sem Value} {w w' : World} {x : Next} (h : (do pure (.value (← s)) : Sem Next).run P w = .ok x w') : (∃ v, x = .value v) ∨ x = .skip := by
  rw [Sem.run_bind] at h
  cases hs : s.run P w with
  | ok v w1 =>
    rw [hs] at h
    simp [Result.andThen] at h
    exact .inl ⟨v, h.1.symm⟩
  | halt s w1 =>
    rw [hs] at h
    simp [Result.andThen] at h
theorem calm_unit {P : Program} {s : Sem Unit} {w w' : World} {x : Next} (h : (do s; pure .skip : Sem Next).run P w = .ok x w') : (∃ v, x = .value v) ∨ x = .skip := by
  rw [Sem.run_bind] at h
  cases hs : s.run P w with
  | ok v w1 =>
    rw [hs] at h
    simp [Result.andThen] at h
    exact .inr h.1.symm
  | halt s w1 =>
    rw [hs] at h
    simp [Result.andThen] at h
def calmB : Op → Bool
  | .move _ | .assign _ | .load .. | .store .. | .fieldAddr .. | .build .. | .buildSlice .. => true
  | .call { callee := .builtin .append, .. } => true
  | _ => false
theorem bind_ok {α β : Type} {P : Program} {m : Sem α} {f : α → Sem β} {w w' : World} {x : β} (h : (m >>= f).run P w = .ok x w') : ∃ a w1, (f a).run P w1 = .ok x w' := by
  rw [Sem.run_bind] at h
  cases hs : m.run P w with
  | ok v w1 =>
    rw [hs] at h
    exact ⟨v, w1, h⟩
  | halt s w1 =>
    rw [hs] at h
    simp [Result.andThen] at h
theorem calm_nil {P : Program} {o : Oper} {y : Operand} (ho : o.op = .nilCheck y) : Calm P o := by
  refine ⟨fun c h => (by rw [ho] at h; cases h), fun ρ w x w' h => ?_⟩
  unfold execOp at h
  rw [ho] at h
  simp only at h
  split at h
  · simp [go_sem] at h
  · simp [go_sem] at h
  · simp [go_sem] at h
  · split at h
    · simp [go_sem] at h
    · obtain ⟨_, w1, h⟩ := bind_ok h
      obtain ⟨_, w2, h⟩ := bind_ok h
      split at h
      · obtain ⟨_, w3, h⟩ := bind_ok h
        simp only [Sem.run_pure, Result.ok.injEq] at h
        exact .inl ⟨_, h.1.symm⟩
      · simp only [Sem.run_pure, Result.ok.injEq] at h
        exact .inl ⟨_, h.1.symm⟩
    · simp only [Sem.run_pure, Result.ok.injEq] at h
      exact .inl ⟨_, h.1.symm⟩
  · simp only [Sem.run_pure, Result.ok.injEq] at h
    exact .inl ⟨_, h.1.symm⟩
theorem calm_of {P : Program} {o : Oper} (h : calmB o.op = true) : Calm P o := by
  obtain ⟨op, hop⟩ : ∃ op, o.op = op := ⟨_, rfl⟩
  rw [hop] at h
  unfold calmB at h
  split at h
  case h_9 => cases h
  all_goals
    refine ⟨fun c e => (by rw [hop] at e; cases e), fun ρ w x w' hr => ?_⟩
    unfold execOp at hr
    rw [hop] at hr
    simp only at hr
  · simp only [Sem.run_pure, Result.ok.injEq] at hr
    exact .inl ⟨_, hr.1.symm⟩
  · simp only [Sem.run_pure, Result.ok.injEq] at hr
    exact .inl ⟨_, hr.1.symm⟩
  · exact calm_value hr
  · exact calm_unit hr
  · exact calm_value hr
  · exact calm_value hr
  · exact calm_value hr
  · simp only [resolve, Sem.run_bind, Sem.run_pure, Result.andThen_ok, invoke, builtin] at hr
    rename_i args argTypes
    cases hs : (Builtin.append_ argTypes o.type (Array.map ρ args)).run P w with
    | ok v w1 =>
      rw [hs] at hr
      simp [Result.andThen] at hr
      exact .inl ⟨v, hr.1.symm⟩
    | halt s w1 =>
      rw [hs] at hr
      simp [Result.andThen] at hr
def nilB : Op → Bool
  | .nilCheck _ => true
  | _ => false
theorem calm_arr {P : Program} {ops : Array Oper} (h : ops.all (fun o => calmB o.op || nilB o.op) = true) : ∀ (i : Nat) (o : Oper), ops[i]? = some o → Calm P o := by
  intro i o ho
  obtain ⟨hi, rfl⟩ := Array.getElem?_eq_some_iff.1 ho
  have h2 := (Array.all_eq_true.1 h) i hi
  cases hc : calmB ops[i].op with
  | true => exact calm_of hc
  | false =>
    rw [hc, Bool.false_or] at h2
    obtain ⟨op, hop⟩ : ∃ op, ops[i].op = op := ⟨_, rfl⟩
    rw [hop] at h2
    unfold nilB at h2
    split at h2
    · exact calm_nil hop
    · cases h2
theorem anyIn_of_any {F : Fence} {n : Nat} {P : Program} {md : Region.Mode} {ops : Array Oper} {Q : Exit → Act → World → Prop} (hF : ∀ f, F.fn f) (hQ : ¬ LetsOut Q) (hc : ∀ (i : Nat) (o : Oper), ops[i]? = some o → Calm P o) :
    ∀ (fuel : Nat) (listed : Array Bool) (a : Act) (w : World), wpAny P md ops Q fuel listed a w → wpAnyIn F n P md ops Q fuel listed a w
  | 0, _, _, _, h => h
  | fuel + 1, listed, a, w, h => by
    refine ⟨h.1, fun i hi => ?_⟩
    have h2 := h.2 i hi
    unfold wpOp at h2
    unfold wpOpIn
    cases ho : ops[i]? with
    | none =>
      rw [ho] at h2
      exact anyIn_of_any hF hQ hc fuel _ _ _ h2
    | some o =>
      rw [ho] at h2
      simp only at h2 ⊢
      obtain ⟨hd, hx⟩ := hc i o ho
      split
      · rename_i hw
        rw [if_pos hw] at h2
        rcases h2 with h2 | ⟨_, h2⟩
        · refine ⟨fun f _ => hF f, ?_⟩
          rw [Oper.semAt_eq _ _ _ hd]
          unfold Oper.wp at h2
          cases hr : (execOp a.eval o).run P w with
          | ok x w' =>
            rw [hr] at h2
            rcases hx _ _ _ _ hr with ⟨v, rfl⟩ | rfl
            · exact anyIn_of_any hF hQ hc fuel _ _ _ h2
            · exact anyIn_of_any hF hQ hc fuel _ _ _ h2
          | halt s w' =>
            rw [hr] at h2
            cases s with
            | panic v => exact h2
            | _ => exact h2.elim
        · exact absurd h2 hQ
      · rename_i hw
        rw [if_neg hw] at h2
        exact ⟨fun f _ => hF f, anyIn_of_any hF hQ hc fuel _ _ _ h2⟩
end Go.Proofs.YtcbjnifoojjipaaGreatDoor
