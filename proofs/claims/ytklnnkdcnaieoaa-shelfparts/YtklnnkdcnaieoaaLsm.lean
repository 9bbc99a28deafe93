/- What calls make of a shelf, and what was put last (the verifier's own lemmas; nothing of any program). -/
import Derived.Test.YtklnnkdcnaieoaaAco
import Derived.Test.YtklnnkdcnaieoaaScn
namespace Go.Proofs.Ytklnnkdcnaieoaa
open Go.RowKit Go.Vf

/-- One call. -/
def stepA (L : List Pr) (a : Ac) : List Pr := if a.kind = 1 then ins a.key a.val L else if a.kind = 3 then del a.key L else L
/-- Calls one behind another. -/
def runA (l : List Ac) : List Pr := l.foldl stepA []
theorem runA_snoc (l : List Ac) (a : Ac) : runA (l ++ [a]) = stepA (runA l) a := by simp [runA]
theorem runA_take (l : List Ac) (k : Nat) (hk : k < l.length) : runA (l.take (k + 1)) = stepA (runA (l.take k)) l[k] := by rw [List.take_succ_eq_append_getElem hk, runA_snoc]
theorem stepA_srt {L : List Pr} (h : Srt L) (a : Ac) : Srt (stepA L a) := by
  unfold stepA
  split
  · exact h.ins _ _
  · split
    · exact h.del _
    · exact h
theorem runA_srt (l : List Ac) : Srt (runA l) := by
  have : ∀ (l : List Ac) (L : List Pr), Srt L → Srt (l.foldl stepA L) := by
    intro l
    induction l with
    | nil => intro L h; exact h
    | cons a r ih => intro L h; exact ih _ (stepA_srt h a)
  exact this l [] List.Pairwise.nil
theorem stepA_len {L : List Pr} (h : Srt L) (a : Ac) : (stepA L a).length ≤ L.length + 1 := by
  unfold stepA
  split
  · exact ins_le h
  · split
    · exact Nat.le_trans (List.length_filter_le _ _) (Nat.le_succ _)
    · exact Nat.le_succ _
theorem runA_len (l : List Ac) (k : Nat) (hk : k ≤ l.length) : (runA (l.take k)).length ≤ k := by
  induction k with
  | zero => simp [runA]
  | succ k ih =>
    rw [runA_take l k (by omega)]
    exact Nat.le_trans (stepA_len (runA_srt _) _) (by have := ih (by omega); omega)
/-- What a call says of a key. -/
theorem get_step {L : List Pr} (h : Srt L) (a : Ac) (k : ByteArray) : get k (stepA L a) = if a.key = k ∧ a.kind = 1 then some a.val else if a.key = k ∧ a.kind = 3 then none else get k L := by
  unfold stepA
  by_cases h1 : a.kind = 1
  · rw [if_pos h1, get_ins h]
    by_cases hk : a.key = k
    · rw [if_pos hk.symm, if_pos ⟨hk, h1⟩]
    · rw [if_neg (fun e => hk e.symm), if_neg (fun e => hk e.1), if_neg (fun e => hk e.1)]
  · rw [if_neg h1]
    by_cases h3 : a.kind = 3
    · rw [if_pos h3, get_del h]
      by_cases hk : a.key = k
      · rw [if_pos hk.symm, if_neg (fun e => h1 e.2), if_pos ⟨hk, h3⟩]
      · rw [if_neg (fun e => hk e.symm), if_neg (fun e => hk e.1), if_neg (fun e => hk e.1)]
    · rw [if_neg h3, if_neg (fun e => h1 e.2), if_neg (fun e => h3 e.2)]
/-- The keys that were put. -/
def keysA (l : List Ac) : List ByteArray := l.filterMap fun a => if a.kind = 1 then some a.key else none
theorem keysA_take (l : List Ac) (k : Nat) (hk : k < l.length) : keysA (l.take (k + 1)) = keysA (l.take k) ++ (if l[k].kind = 1 then [l[k].key] else []) := by
  rw [List.take_succ_eq_append_getElem hk, keysA, List.filterMap_append, keysA]
  by_cases h : l[k].kind = 1 <;> simp [h]
theorem keysA_len (l : List Ac) : (keysA l).length ≤ l.length := List.length_filterMap_le _ _
theorem key_put_n {l : List Ac} {k v : ByteArray} : ∀ n, n ≤ l.length → get k (runA (l.take n)) = some v → k ∈ keysA (l.take n)
  | 0, _, h => by simp [runA, Go.Vf.get] at h
  | n + 1, hn, h => by
    rw [runA_take l n (by omega), get_step (runA_srt _)] at h
    rw [keysA_take l n (by omega)]
    by_cases h1 : l[n].key = k ∧ l[n].kind = 1
    · rw [if_pos h1.2, ← h1.1]
      simp
    · rw [if_neg h1] at h
      by_cases h3 : l[n].key = k ∧ l[n].kind = 3
      · rw [if_pos h3] at h; cases h
      · rw [if_neg h3] at h
        exact List.mem_append.2 (.inl (key_put_n n (by omega) h))
theorem key_put {l : List Ac} {k v : ByteArray} (h : get k (runA l) = some v) : k ∈ keysA l := by
  have := key_put_n (l := l) (k := k) (v := v) l.length (Nat.le_refl _) (by rw [List.take_length]; exact h)
  rwa [List.take_length] at this
/-- A shelf that has been given, of these keys, what another one has. -/
def Given (R M : List Pr) (ks : List ByteArray) : Prop := Srt M ∧ M.length ≤ ks.length ∧ ∀ k, (k ∈ ks → get k M = get k R) ∧ (¬ k ∈ ks → get k M = none)
theorem Given.nil (R : List Pr) : Given R [] [] := ⟨List.Pairwise.nil, Nat.le_refl _, fun k => ⟨(fun h => by cases h), fun _ => rfl⟩⟩
theorem Given.put {R M : List Pr} {ks : List ByteArray} (h : Given R M ks) {k v : ByteArray} (hk : get k R = some v) : Given R (ins k v M) (k :: ks) := by
  refine ⟨h.1.ins k v, Nat.le_trans (ins_le h.1) (by simp only [List.length_cons]; have := h.2.1; omega), fun j => ?_⟩
  rw [get_ins h.1]
  by_cases e : j = k
  · rw [if_pos e, e, hk]
    exact ⟨fun _ => rfl, fun q => absurd (by simp) q⟩
  · rw [if_neg e]
    refine ⟨fun hj => (h.2.2 j).1 ?_, fun hj => (h.2.2 j).2 (fun q => hj (by simp [q]))⟩
    rcases List.mem_cons.1 hj with q | q
    · exact (e q).elim
    · exact q
theorem Given.skip {R M : List Pr} {ks : List ByteArray} (h : Given R M ks) {k : ByteArray} (hk : get k R = none) : Given R M (k :: ks) := by
  refine ⟨h.1, Nat.le_trans h.2.1 (by simp), fun j => ⟨fun hj => ?_, fun hj => (h.2.2 j).2 (fun q => hj (by simp [q]))⟩⟩
  by_cases hm : j ∈ ks
  · exact (h.2.2 j).1 hm
  · rcases List.mem_cons.1 hj with q | q
    · rw [(h.2.2 j).2 hm, q, hk]
    · exact (hm q).elim
theorem Given.all {l : List Ac} {M : List Pr} (h : Given (runA l) M (keysA l)) : M = runA l := by
  refine srt_same h.1 (runA_srt l) (fun k => ?_)
  by_cases hm : k ∈ keysA l
  · exact (h.2.2 k).1 hm
  · rw [(h.2.2 k).2 hm]
    cases hg : get k (runA l) with
    | none => rfl
    | some v => exact (hm (key_put hg)).elim
theorem tell_all (L : List Pr) : tellP ⟨#[]⟩ ⟨#[]⟩ true false L = L := by
  unfold tellP
  refine filter_all (fun x _ => ?_)
  unfold inSp
  have : lt x.1 ⟨#[]⟩ = false := by
    rw [lt_sd]
    have : sd x.1 ⟨#[]⟩ ≠ -1 := by
      unfold sd
      cases x.1.data.toList with
      | nil => decide
      | cons a r => simp [cmpL]
    simpa using this
  rw [this]
  rfl
end Go.Proofs.Ytklnnkdcnaieoaa
