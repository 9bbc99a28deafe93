/- What UtfExact keeps: two lists of lists of the call's own (lemmas of the verifier's own; nothing is claimed here). -/
import Derived.Test.YtjlgmoakdaeinaaDoorOwnedC
namespace Go.Proofs.YtjlgmoakdaeinaaDoor
open Go.RowKit Go.Vf

structure Told (w : World) (base : Nat) (T U : Value) (vs us : List Value) (C : Nat → List Int) : Prop where
  many : Many w base T vs C
  rowU : LOwn w base U us
  eachU : ∀ j (h : j < us.length), IOwn w base us[j] (C j)
  len : us.length = vs.length
  tu : ∀ b, T.ownBlock = some b → U.ownBlock ≠ some b

theorem Told.nil (w : World) (base : Nat) (C : Nat → List Int) : Told w base (.slice none 0 0) (.slice none 0 0) [] [] C :=
  ⟨⟨LOwn.nil _ _, fun j h => absurd h (by simp), fun i j hi => absurd hi (by simp)⟩, LOwn.nil _ _, fun j h => absurd h (by simp), rfl, fun b h => by cases h⟩

theorem Told.after {w w' : World} {base : Nat} {T U : Value} {vs us : List Value} {C : Nat → List Int} (t : Told w base T U vs us C) (hb : Below w.heap.size w w') : Told w' base T U vs us C :=
  ⟨⟨own_after t.many.row hb, fun j h => own_after (t.many.each j h) hb, t.many.apart⟩, own_after t.rowU hb, fun j h => own_after (t.eachU j h) hb, t.len, t.tu⟩

/-- The world in the midst: the one has come, the other not yet. -/
structure ToldMid (w : World) (base : Nat) (T U : Value) (vs us : List Value) (C : Nat → List Int) : Prop where
  many : Many w base T vs C
  rowU : LOwn w base U us
  eachU : ∀ j (h : j < us.length), IOwn w base us[j] (C j)
  len : us.length + 1 = vs.length
  tu : ∀ b, T.ownBlock = some b → U.ownBlock ≠ some b

def putC (C : Nat → List Int) (n : Nat) (zs : List Int) : Nat → List Int := fun j => if j = n then zs else C j
theorem putC_same (C : Nat → List Int) (n : Nat) (zs : List Int) : putC C n zs n = zs := by simp [putC]
theorem putC_other (C : Nat → List Int) (n j : Nat) (zs : List Int) (h : j ≠ n) : putC C n zs j = C j := by simp [putC, h]

theorem Told.pushT {w w' : World} {base : Nat} {T T' U v : Value} {vs us : List Value} {C : Nat → List Int} {zs : List Int} (t : Told w base T U vs us C) (hv : IOwn w base v zs) (hap : ∀ j (h : j < vs.length) b, vs[j].ownBlock = some b → v.ownBlock ≠ some b)
    (hL : LOwn w' base T' (vs ++ [v])) (hg : w.grownBy w' T.ownBlock) (hat : T'.ownBlock = T.ownBlock ∨ ∃ g, T'.ownBlock = some g ∧ w.heap.size ≤ g) : ToldMid w' base T' U (vs ++ [v]) us (putC C vs.length zs) := by
  have aI : ∀ {x : Value} {ys : List Int}, IOwn w base x ys → ∀ b, x.ownBlock = some b → T.ownBlock ≠ some b := fun hx b hb => own_ne hx t.many.row (by decide) hb
  refine ⟨⟨hL, fun j h => ?_, fun i j hi hj hne b hb => ?_⟩, own_grown t.rowU hg (fun b hb h => t.tu b h hb), fun j h => ?_, by rw [t.len]; simp, fun b hb hU => ?_⟩
  · by_cases e : j < vs.length
    · rw [List.getElem_append_left e, putC_other _ _ _ _ (by omega)]
      exact own_grown (t.many.each j e) hg (aI (t.many.each j e))
    · have e2 : j = vs.length := by rw [List.length_append] at h; simp at h; omega
      subst e2
      rw [List.getElem_append_right (Nat.le_refl _), putC_same]
      simp only [Nat.sub_self, List.getElem_singleton]
      exact own_grown hv hg (aI hv)
  · rw [List.length_append] at hi hj
    simp only [List.length_singleton] at hi hj
    by_cases e1 : i < vs.length
    · rw [List.getElem_append_left e1] at hb
      by_cases e2 : j < vs.length
      · rw [List.getElem_append_left e2]
        exact t.many.apart i j e1 e2 hne b hb
      · have e3 : j = vs.length := by omega
        subst e3
        rw [List.getElem_append_right (Nat.le_refl _)]
        simp only [Nat.sub_self, List.getElem_singleton]
        exact hap i e1 b hb
    · have e3 : i = vs.length := by omega
      subst e3
      rw [List.getElem_append_right (Nat.le_refl _)] at hb
      simp only [Nat.sub_self, List.getElem_singleton] at hb
      have e2 : j < vs.length := by omega
      rw [List.getElem_append_left e2]
      exact fun h => hap j e2 b h hb
  · rw [putC_other _ _ _ _ (by have := t.len; omega)]
    exact own_grown (t.eachU j h) hg (aI (t.eachU j h))
  · rcases hat with hat | ⟨g, hg2, hge⟩
    · exact t.tu b (hat ▸ hb) hU
    · rw [hg2] at hb
      have e : g = b := Option.some.inj hb
      have := own_lt t.rowU hU
      omega

theorem ToldMid.pushU {w w' : World} {base : Nat} {T U U' u : Value} {vs us : List Value} {C : Nat → List Int} (t : ToldMid w base T U vs us C) (hu : IOwn w base u (C us.length))
    (hL : LOwn w' base U' (us ++ [u])) (hg : w.grownBy w' U.ownBlock) (hat : U'.ownBlock = U.ownBlock ∨ ∃ g, U'.ownBlock = some g ∧ w.heap.size ≤ g) : Told w' base T U' vs (us ++ [u]) C := by
  have aI : ∀ {x : Value} {ys : List Int}, IOwn w base x ys → ∀ b, x.ownBlock = some b → U.ownBlock ≠ some b := fun hx b hb => own_ne hx t.rowU (by decide) hb
  refine ⟨⟨own_grown t.many.row hg (fun b hb h => t.tu b hb h), fun j h => own_grown (t.many.each j h) hg (aI (t.many.each j h)), t.many.apart⟩, hL, fun j h => ?_, by rw [List.length_append]; exact t.len, fun b hb hU => ?_⟩
  · by_cases e : j < us.length
    · rw [List.getElem_append_left e]
      exact own_grown (t.eachU j e) hg (aI (t.eachU j e))
    · have e2 : j = us.length := by rw [List.length_append] at h; simp at h; omega
      subst e2
      rw [List.getElem_append_right (Nat.le_refl _)]
      simp only [Nat.sub_self, List.getElem_singleton]
      exact own_grown hu hg (aI hu)
  · rcases hat with hat | ⟨g, hg2, hge⟩
    · exact t.tu b hb (hat ▸ hU)
    · rw [hg2] at hU
      have e : g = b := Option.some.inj hU
      have := own_lt t.many.row hb
      omega

theorem ToldMid.after {w w' : World} {base : Nat} {T U : Value} {vs us : List Value} {C : Nat → List Int} (t : ToldMid w base T U vs us C) (hb : Below w.heap.size w w') : ToldMid w' base T U vs us C :=
  ⟨⟨own_after t.many.row hb, fun j h => own_after (t.many.each j h) hb, t.many.apart⟩, own_after t.rowU hb, fun j h => own_after (t.eachU j h) hb, t.len, t.tu⟩

end Go.Proofs.YtjlgmoakdaeinaaDoor
