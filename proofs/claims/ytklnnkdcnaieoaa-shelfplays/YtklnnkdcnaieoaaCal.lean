/- Operations that call nothing, in a round of a range over a function (lemmas; nothing is claimed here). -/
import Derived.Test.YtklnnkdcnaieoaaRng
import Derived.Deep.RegionHeld
import Derived.OrdersIn
namespace Go.Proofs.Ytklnnkdcnaieoaa
open Go.RowKit Go.Vf

/-- It is carried out in a round as elsewhere, and calls nothing. -/
def Calm (P : Program) (o : Oper) : Prop := (∀ c, o.op ≠ .defer c) ∧ ∀ (ρ : Operand → Value) (w : World) (x : Next) (w' : World), (execOp ρ o).run P w = .ok x w' → (∃ v, x = .value v) ∨ x = .skip
theorem calm_value {P : Program} {s : Sem Value} {w w' : World} {x : Next} (h : (do pure (.value (← s)) : Sem Next).run P w = .ok x w') : (∃ v, x = .value v) ∨ x = .skip := by
  rw [Sem.run_bind] at h
  cases hs : s.run P w with
  | ok v w1 =>
    rw [hs] at h
    simp [Result.andThen] at h
    exact .inl ⟨v, h.1.symm⟩
  | halt s w1 =>
    rw [hs] at h
    simp [Result.andThen] at h
theorem calm_unit {P : Program} {s : Sem Unit} {w w' : World} {x : Next} (h : (do s; pure .skip : Sem Next).run P w = .ok x w') : (∃ v, x = .value v) ∨ x = .skip := by
  rw [Sem.run_bind] at h
  cases hs : s.run P w with
  | ok v w1 =>
    rw [hs] at h
    simp [Result.andThen] at h
    exact .inr h.1.symm
  | halt s w1 =>
    rw [hs] at h
    simp [Result.andThen] at h
def calmB : Op → Bool
  | .move _ | .assign _ | .load .. | .binOp .. | .indexAddr .. | .pick .. => true
  | .call { callee := .builtin .len, .. } => true
  | _ => false
theorem bind_ok {α β : Type} {P : Program} {m : Sem α} {f : α → Sem β} {w w' : World} {x : β} (h : (m >>= f).run P w = .ok x w') : ∃ a w1, (f a).run P w1 = .ok x w' := by
  rw [Sem.run_bind] at h
  cases hs : m.run P w with
  | ok v w1 =>
    rw [hs] at h
    exact ⟨v, w1, h⟩
  | halt s w1 =>
    rw [hs] at h
    simp [Result.andThen] at h
theorem calm_of {P : Program} {o : Oper} (h : calmB o.op = true) : Calm P o := by
  obtain ⟨op, hop⟩ : ∃ op, o.op = op := ⟨_, rfl⟩
  rw [hop] at h
  unfold calmB at h
  split at h
  case h_8 => cases h
  all_goals
    refine ⟨fun c e => (by rw [hop] at e; cases e), fun ρ w x w' hr => ?_⟩
    unfold execOp at hr
    rw [hop] at hr
    simp only at hr
  · simp only [Sem.run_pure, Result.ok.injEq] at hr
    exact .inl ⟨_, hr.1.symm⟩
  · simp only [Sem.run_pure, Result.ok.injEq] at hr
    exact .inl ⟨_, hr.1.symm⟩
  · exact calm_value hr
  · exact calm_value hr
  · exact calm_value hr
  · obtain ⟨b, w1, hr⟩ := bind_ok hr
    simp only [Sem.run_pure, Result.ok.injEq] at hr
    exact .inl ⟨_, hr.1.symm⟩
  · simp only [resolve, Sem.run_bind, Sem.run_pure, Result.andThen_ok, invoke, builtin] at hr
    rename_i args argTypes
    cases hs : (Builtin.len_ argTypes o.type (Array.map ρ args)).run P w with
    | ok v w1 =>
      rw [hs] at hr
      simp [Result.andThen] at hr
      exact .inl ⟨v, hr.1.symm⟩
    | halt s w1 =>
      rw [hs] at hr
      simp [Result.andThen] at hr
theorem calm_arr {P : Program} {ops : Array Oper} (h : ops.all (fun o => calmB o.op) = true) : ∀ (i : Nat) (o : Oper), ops[i]? = some o → Calm P o := by
  intro i o ho
  obtain ⟨hi, rfl⟩ := Array.getElem?_eq_some_iff.1 ho
  exact calm_of ((Array.all_eq_true.1 h) i hi)
/-- What a region does elsewhere it does in a round. -/
theorem anyIn_of_any {F : Fence} {n : Nat} {P : Program} {md : Region.Mode} {ops : Array Oper} {Q : Exit → Act → World → Prop} (hF : ∀ f, F.fn f) (hQ : ¬ LetsOut Q) (hc : ∀ (i : Nat) (o : Oper), ops[i]? = some o → Calm P o) :
    ∀ (fuel : Nat) (listed : Array Bool) (a : Act) (w : World), wpAny P md ops Q fuel listed a w → wpAnyIn F n P md ops Q fuel listed a w
  | 0, _, _, _, h => h
  | fuel + 1, listed, a, w, h => by
    refine ⟨h.1, fun i hi => ?_⟩
    have h2 := h.2 i hi
    unfold wpOp at h2
    unfold wpOpIn
    cases ho : ops[i]? with
    | none =>
      rw [ho] at h2
      exact anyIn_of_any hF hQ hc fuel _ _ _ h2
    | some o =>
      rw [ho] at h2
      simp only at h2 ⊢
      obtain ⟨hd, hx⟩ := hc i o ho
      split
      · rename_i hw
        rw [if_pos hw] at h2
        rcases h2 with h2 | ⟨_, h2⟩
        · refine ⟨fun f _ => hF f, ?_⟩
          rw [Oper.semAt_eq _ _ _ hd]
          unfold Oper.wp at h2
          cases hr : (execOp a.eval o).run P w with
          | ok x w' =>
            rw [hr] at h2
            rcases hx _ _ _ _ hr with ⟨v, rfl⟩ | rfl
            · exact anyIn_of_any hF hQ hc fuel _ _ _ h2
            · exact anyIn_of_any hF hQ hc fuel _ _ _ h2
          | halt s w' =>
            rw [hr] at h2
            cases s with
            | panic v => exact h2
            | _ => exact h2.elim
        · exact absurd h2 hQ
      · rename_i hw
        rw [if_neg hw] at h2
        exact ⟨fun f _ => hF f, anyIn_of_any hF hQ hc fuel _ _ _ h2⟩
end Go.Proofs.Ytklnnkdcnaieoaa
