/- What dovetailref04.Data's whole answers, as a plain function (nothing is claimed here). -/
import Derived.Test.YtpmckfmjegehgaaGreatDoorRefT
namespace Go.Vf
/-- Parts to the end behind others, no more than so many and one. -/
def whF (G : Int → List Int) (lim : Nat) : Nat → List Int → Int → List Int
  | 0, out, p => if lim < out.length then out else out ++ [p]
  | k + 1, out, p => if lim < out.length then out else if G p = [] then out ++ [p] else (G p).foldl (fun o q => whF G lim k o q) out
theorem foldl_stop (G : Int → List Int) (lim k : Nat) (h : ∀ out p, lim < out.length → whF G lim k out p = out) : ∀ (l : List Int) (out : List Int), lim < out.length → l.foldl (fun o q => whF G lim k o q) out = out := by
  intro l
  induction l with
  | nil => intro out _; rfl
  | cons a r ih => intro out ho; rw [List.foldl_cons, h out a ho]; exact ih out ho
theorem whF_stop (G : Int → List Int) (lim k : Nat) (out : List Int) (p : Int) (h : lim < out.length) : whF G lim k out p = out := by
  cases k <;> simp [whF, h]
theorem take_app (n : Nat) (a b : List Int) (h : a.length ≤ n) : ((a.take n) ++ b).take n = (a ++ b).take n := by rw [List.take_of_length_le h]
theorem whF_eq (G : Int → List Int) (lim : Nat) : ∀ (k : Nat) (out : List Int) (p : Int), out.length ≤ lim → whF G lim k out p = (out ++ wh G k p).take (lim + 1) := by
  intro k
  induction k with
  | zero =>
    intro out p h
    rw [whF, if_neg (by omega), wh, List.take_of_length_le (by simp; omega)]
  | succ k ih =>
    intro out p h
    rw [whF, if_neg (by omega), wh]
    split
    · rw [List.take_of_length_le (by simp; omega)]
    · have key : ∀ (l : List Int) (out : List Int), out.length ≤ lim → l.foldl (fun o q => whF G lim k o q) out = (out ++ l.flatMap (wh G k)).take (lim + 1) := by
        intro l
        induction l with
        | nil => intro out ho; simp; rw [List.take_of_length_le (by omega)]
        | cons a r ihr =>
          intro out ho
          rw [List.foldl_cons, ih out a ho, List.flatMap_cons, ← List.append_assoc]
          by_cases hl : (out ++ wh G k a).length ≤ lim
          · rw [List.take_of_length_le (by omega), ihr _ hl]
          · rw [foldl_stop G lim k (fun o q ho => whF_stop G lim k o q ho) r _ (by rw [List.length_take]; omega), List.take_append_of_le_length (l₁ := out ++ wh G k a) (by omega)]
      exact key (G p) out h
theorem whF_grows (G : Int → List Int) (lim : Nat) : ∀ (k : Nat) (out : List Int) (p : Int), out.length ≤ (whF G lim k out p).length := by
  intro k out p
  by_cases h : out.length ≤ lim
  · rw [whF_eq G lim k out p h, List.length_take, List.length_append]
    omega
  · rw [whF_stop G lim k out p (by omega)]
    exact Nat.le_refl _
/-- So many steps lead to the end. -/
def Dep (G : Int → List Int) : Nat → Int → Prop
  | 0, p => G p = []
  | k + 1, p => ∀ q ∈ G p, Dep G k q
theorem Dep.leaf {G : Int → List Int} {p : Int} (h : G p = []) (k : Nat) : Dep G k p := by
  cases k with
  | zero => exact h
  | succ k => intro q hq; rw [h] at hq; simp at hq
theorem Dep.mono {G : Int → List Int} : ∀ {k : Nat} {p : Int}, Dep G k p → Dep G (k + 1) p := by
  intro k
  induction k with
  | zero => intro p h; exact Dep.leaf h 1
  | succ k ih => intro p h q hq; exact ih (h q hq)
theorem Dep.of_topo {G : Int → List Int} {ord : List Int} (ht : Topo G ord) : ∀ (n : Nat) (pre : List Int) (x : Int) (post : List Int), pre.length ≤ n → ord = pre ++ x :: post → Dep G n x := by
  intro n
  induction n with
  | zero =>
    intro pre x post hn hs
    have hp : pre = [] := List.length_eq_zero_iff.1 (by omega)
    cases hG : G x with
    | nil => exact hG
    | cons a r => have := ht pre x post hs a (by rw [hG]; simp); rw [hp] at this; simp at this
  | succ n ih =>
    intro pre x post hn hs q hq
    obtain ⟨p1, p2, e⟩ := List.append_of_mem (ht pre x post hs q hq)
    have hl : p1.length + 1 ≤ pre.length := by rw [e]; simp
    exact ih p1 q (p2 ++ x :: post) (by omega) (by rw [hs, e]; simp)
end Go.Vf
