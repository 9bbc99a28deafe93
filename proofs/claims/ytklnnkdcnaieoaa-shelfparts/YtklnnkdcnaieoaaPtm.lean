/- What is put one behind another, and a span parted at a key (the verifier's own lemmas; nothing of any program). -/
import Derived.Test.YtklnnkdcnaieoaaAco
import Derived.Test.YtklnnkdcnaieoaaLsm
import Derived.Test.YtklnnkdcnaieoaaMet
namespace Go.Proofs.Ytklnnkdcnaieoaa
open Go.RowKit Go.Vf

/-- All that is put. -/
def putsA (l : List Ac) : List Pr := l.foldl (fun L a => ins a.key a.val L) []
theorem putsA_take (l : List Ac) (k : Nat) (hk : k < l.length) : putsA (l.take (k + 1)) = ins l[k].key l[k].val (putsA (l.take k)) := by
  rw [putsA, List.take_succ_eq_append_getElem hk, List.foldl_append]
  rfl
theorem putsA_srt (l : List Ac) : Srt (putsA l) := by
  have : ∀ (l : List Ac) (L : List Pr), Srt L → Srt (l.foldl (fun L a => ins a.key a.val L) L) := by
    intro l
    induction l with
    | nil => intro L h; exact h
    | cons a r ih => intro L h; exact ih _ (h.ins _ _)
  exact this l [] List.Pairwise.nil
theorem putsA_len (l : List Ac) (k : Nat) (hk : k ≤ l.length) : (putsA (l.take k)).length ≤ k := by
  induction k with
  | zero => simp [putsA]
  | succ k ih =>
    rw [putsA_take l k (by omega)]
    exact Nat.le_trans (ins_le (putsA_srt _)) (by have := ih (by omega); omega)
/-- What is lower than a key, and the rest, are all. -/
theorem part_at {p : Pr → Bool} {at_ : ByteArray} : ∀ {L : List Pr}, Srt L → L.filter (fun x => p x && lt x.1 at_) ++ L.filter (fun x => p x && !lt x.1 at_) = L.filter p
  | [], _ => rfl
  | x :: r, h => by
    have h1 := List.pairwise_cons.1 h
    have ih := part_at (p := p) (at_ := at_) h1.2
    cases hp : p x with
    | false =>
      rw [List.filter_cons_of_neg (by simp [hp]), List.filter_cons_of_neg (by simp [hp]), List.filter_cons_of_neg (by simp [hp])]
      exact ih
    | true =>
      cases hl : lt x.1 at_ with
      | true =>
        rw [List.filter_cons_of_pos (by simp [hp, hl]), List.filter_cons_of_neg (by simp [hl]), List.filter_cons_of_pos (by simp [hp]), List.cons_append, ih]
      | false =>
        have hn : ∀ y ∈ r, lt y.1 at_ = false := fun y hy => by
          cases q : lt y.1 at_ with
          | false => rfl
          | true => rw [lt_trans (h1.1 y hy) q] at hl; cases hl
        have e1 : (x :: r).filter (fun x => p x && lt x.1 at_) = [] := by
          rw [List.filter_cons_of_neg (by simp [hl])]
          exact filter_nil (fun y hy => by rw [hn y hy]; simp)
        have e2 : (x :: r).filter (fun x => p x && !lt x.1 at_) = (x :: r).filter p := by
          apply List.filter_congr
          intro y hy
          rcases List.mem_cons.1 hy with rfl | hy
          · rw [hl]; simp
          · rw [hn y hy]; simp
        rw [e1, e2]
        rfl
/-- Low and high together. -/
theorem low_high (f t at_ : ByteArray) (o : Bool) {L : List Pr} (h : Srt L) :
    tellP (metF f ⟨#[]⟩) (metT t at_ o false) (o && false) false L ++ tellP (metF f at_) (metT t ⟨#[]⟩ o true) (o && true) false L = tellP f t o false L := by
  have e1 : ∀ k, inSp (metF f ⟨#[]⟩) (metT t at_ o false) (o && false) k = (inSp f t o k && lt k at_) := fun k => by
    rw [met_in]
    congr 1
    unfold inSp
    have : lt k ⟨#[]⟩ = false := by
      rw [lt_sd]
      have : sd k ⟨#[]⟩ ≠ -1 := by
        unfold sd
        cases k.data.toList with
        | nil => decide
        | cons a r => simp [cmpL]
      simpa using this
    rw [this]
    rfl
  have e2 : ∀ k, inSp (metF f at_) (metT t ⟨#[]⟩ o true) (o && true) k = (inSp f t o k && !lt k at_) := fun k => by
    rw [met_in]
    congr 1
    unfold inSp
    simp
  unfold tellP
  simp only [Bool.false_eq_true, if_false]
  rw [show (fun x : Pr => inSp (metF f ⟨#[]⟩) (metT t at_ o false) (o && false) x.1) = (fun x : Pr => inSp f t o x.1 && lt x.1 at_) from funext fun x => e1 x.1,
    show (fun x : Pr => inSp (metF f at_) (metT t ⟨#[]⟩ o true) (o && true) x.1) = (fun x : Pr => inSp f t o x.1 && !lt x.1 at_) from funext fun x => e2 x.1]
  exact part_at (p := fun x => inSp f t o x.1) h
end Go.Proofs.Ytklnnkdcnaieoaa
