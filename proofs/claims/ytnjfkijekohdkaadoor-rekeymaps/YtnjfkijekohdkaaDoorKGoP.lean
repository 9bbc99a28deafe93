/- Plain facts for RekeyGoes (nothing is claimed here). -/
import Derived.Test.YtnjfkijekohdkaaDoorKTup
import Derived.Test.YtnjfkijekohdkaaDoorRPit
import Derived.Test.YtnjfkijekohdkaaDoorTell
import Derived.Test.YtnjfkijekohdkaaDoorVSame
namespace Go.Proofs.YtnjfkijekohdkaaDoor
open Go.RowKit Go.Vf
/-- A part that may be an item. -/
structure Good (q : Prt) : Prop where
  fit : Fits q
  may : may q = true
  deep : dep q ≤ 15
theorem own_good {p : Prt} (hf : Fits p) (h : ownW p = 0) : Good p := by
  unfold ownW at h
  by_cases h1 : deeper 16 p = true
  · rw [if_pos h1] at h; cases h
  · rw [if_neg h1] at h
    by_cases h2 : may p = false
    · rw [if_pos h2] at h; cases h
    · rw [if_neg h2] at h
      by_cases h3 : dep p = 16
      · rw [if_pos h3] at h; cases h
      · rw [deeper_dep] at h1
        have : ¬ 16 < dep p := by simpa using h1
        exact ⟨hf, by simpa using h2, by omega⟩
theorem src_good {its : List Prt} (hi : ∀ x ∈ its, Good x) {s : Int × Prt} (hf : Fits s.2) {q : Prt} (h : srcR its s = some q) : Good q := by
  unfold srcR at h
  by_cases h1 : s.1 < 0
  · rw [if_pos h1] at h
    by_cases h2 : ownW s.2 = 0
    · rw [if_pos h2] at h
      cases h
      exact own_good hf h2
    · rw [if_neg h2] at h; cases h
  · rw [if_neg h1] at h
    exact hi q (List.mem_of_getElem? h)
theorem depL_good : ∀ {qs : List Prt}, (∀ x ∈ qs, Good x) → depL qs ≤ 15
  | [], _ => by simp [depL]
  | x :: r, h => by
    have h1 := (h x (by simp)).deep
    have h2 := depL_good (qs := r) fun y hy => h y (by simp [hy])
    rw [depL]
    omega
theorem good_fits {qs : List Prt} (h : ∀ x ∈ qs, Good x) (hl : qs.length ≤ 1024) : Fits (tupP qs) :=
  .mk (show (0 : Int) ≤ 7 by omega) (by show (0 : Nat) ≤ _; omega) (by show (0 : Nat) ≤ _; omega) (by show qs.length ≤ _; omega) fun x hx => (h x hx).fit
theorem good_may {qs : List Prt} (h : ∀ x ∈ qs, Good x) (hl : qs.length ≤ 1024) : may (tupP qs) = true := by
  have e : qs.all may = true := List.all_eq_true.2 fun x hx => (h x hx).may
  show may (.mk 7 false false ⟨#[]⟩ ⟨#[]⟩ qs) = true
  rw [may_mk, e]
  have hd : decide (qs.length ≤ 1024) = true := decide_eq_true hl
  rw [hd]
  rfl
/-- A part that may be, and is a tuple. -/
theorem tup_good {p : Prt} (hf : Fits p) (hm : may p = true) (hd : deeper 16 p = false) (hk : p.kind = 7) : ∃ its, p = tupP its ∧ its.length ≤ 1024 ∧ ∀ x ∈ its, Good x := by
  rw [deeper_dep] at hd
  have hd' : dep p ≤ 16 := by
    have : ¬ 16 < dep p := by simpa using hd
    omega
  cases may_shape hm with
  | null => exact absurd hk (by decide)
  | truth y => exact absurd hk (show ¬ (1 : Int) = 7 by decide)
  | num b m => exact absurd hk (show ¬ (2 : Int) = 7 by decide)
  | raw k r hr =>
    have : k = 7 := hk
    subst this
    exact absurd hr (by decide)
  | tup l hl ha =>
    refine ⟨l, rfl, hl, fun x hx => ⟨hf.mem hx, List.all_eq_true.1 ha x hx, ?_⟩⟩
    have h1 : dep (.mk 7 false false ⟨#[]⟩ ⟨#[]⟩ l) = depL l + 1 := by rw [dep, if_pos rfl]
    have h2 := depL_mem hx
    omega
theorem tup_val {w : World} {lo n : Nat} {v : Value} {l : List Prt} (h : VIn w lo n v (tupP l)) : ∃ g, v = .iface 83 (.pointer (some ⟨g, 0, none⟩)) := by
  unfold tupP at h
  generalize hp : Prt.mk 7 false false ⟨#[]⟩ ⟨#[]⟩ l = p at h
  cases h with
  | null => cases hp
  | truth y => cases hp
  | num b m => cases hp
  | raw k r hr => cases hp; exact absurd hr (by decide)
  | tup V => exact ⟨_, rfl⟩
/-- The first source that tells nothing. -/
theorem first_bad (its : List Prt) : ∀ l : List (Int × Prt), ∃ (k0 : Nat) (qs : List Prt), ∃ hk : k0 ≤ l.length, ∃ hq : qs.length = k0, (∀ j (hj : j < k0), srcR its (l[j]'(by omega)) = some (qs[j]'(by omega))) ∧ ∀ h : k0 < l.length, srcR its l[k0] = none
  | [] => ⟨0, [], Nat.le_refl _, rfl, fun j hj => absurd hj (by omega), fun h => absurd h (by simp)⟩
  | s :: r => by
    cases hs : srcR its s with
    | none => exact ⟨0, [], Nat.zero_le _, rfl, fun j hj => absurd hj (by omega), fun _ => hs⟩
    | some q =>
      obtain ⟨k0, qs, hk, hq, h1, h2⟩ := first_bad its r
      refine ⟨k0 + 1, q :: qs, by simpa using hk, by simp [hq], fun j hj => ?_, fun h => ?_⟩
      · cases j with
        | zero => exact hs
        | succ j => exact h1 j (by omega)
      · exact h2 (by simpa using h)
def zeroP : Prt := .mk 0 false false ⟨#[]⟩ ⟨#[]⟩ []
theorem zero_fits : Fits zeroP := .mk (by decide) (by decide) (by decide) (by decide) fun x hx => by simp [zeroP, Prt.items] at hx
/-- The sources 0, 1, 2 .. -/
def allS (n : Nat) : List (Int × Prt) := (List.range n).map fun (i : Nat) => ((i : Int), zeroP)
theorem allS_len (n : Nat) : (allS n).length = n := by simp [allS]
theorem allS_src (its : List Prt) (j : Nat) (hj : j < (allS its.length).length) : srcR its (allS its.length)[j] = some (its[j]'(by simpa [allS] using hj)) := by
  have h : j < its.length := by simpa [allS] using hj
  have e : (allS its.length)[j] = ((j : Int), zeroP) := by simp [allS]
  rw [e, srcR, if_neg (by show ¬ (j : Int) < 0; omega)]
  show its[(j : Int).toNat]? = _
  rw [Int.toNat_natCast, List.getElem?_eq_getElem h]
/-- Sources at the places that ks names. -/
def secS (ks : List Nat) : List (Int × Prt) := ks.map fun (k : Nat) => ((k : Int), zeroP)
def bothS (l : List (Int × Prt)) (ks : List Nat) : List (Int × Prt) := ks.map fun k => (l[k]?).getD (0, zeroP)
def pickP (qs : List Prt) (ks : List Nat) : List Prt := ks.map fun k => (qs[k]?).getD zeroP
theorem pick_len (qs : List Prt) (ks : List Nat) : (pickP qs ks).length = ks.length := by simp [pickP]
theorem secS_len (ks : List Nat) : (secS ks).length = ks.length := by simp [secS]
theorem bothS_len (l : List (Int × Prt)) (ks : List Nat) : (bothS l ks).length = ks.length := by simp [bothS]
theorem secS_src {qs : List Prt} {ks : List Nat} (hk : ∀ k ∈ ks, k < qs.length) (j : Nat) (hj : j < (secS ks).length) : srcR qs (secS ks)[j] = some ((pickP qs ks)[j]'(by rw [pick_len]; simpa [secS] using hj)) := by
  have h : j < ks.length := by simpa [secS] using hj
  have hkj := hk _ (List.getElem_mem h)
  have e : (secS ks)[j] = ((ks[j] : Int), zeroP) := by simp [secS]
  have e2 : (pickP qs ks)[j]'(by rw [pick_len]; exact h) = qs[ks[j]] := by simp [pickP, hkj]
  rw [e, e2, srcR, if_neg (by show ¬ (ks[j] : Int) < 0; omega)]
  show qs[(ks[j] : Int).toNat]? = _
  rw [Int.toNat_natCast, List.getElem?_eq_getElem hkj]
theorem bothS_src {its qs : List Prt} {l : List (Int × Prt)} {ks : List Nat} (hlq : qs.length = l.length) (hsr : ∀ j (hj : j < l.length), srcR its l[j] = some (qs[j]'(by omega))) (hk : ∀ k ∈ ks, k < l.length) (j : Nat) (hj : j < (bothS l ks).length) : srcR its (bothS l ks)[j] = some ((pickP qs ks)[j]'(by rw [pick_len]; simpa [bothS] using hj)) := by
  have h : j < ks.length := by simpa [bothS] using hj
  have hkj := hk _ (List.getElem_mem h)
  have e : (bothS l ks)[j] = l[ks[j]] := by simp [bothS, hkj]
  have e2 : (pickP qs ks)[j]'(by rw [pick_len]; exact h) = qs[ks[j]]'(by omega) := by simp [pickP, hlq, hkj]
  rw [e, e2]
  exact hsr _ hkj
theorem secS_fit (ks : List Nat) : ∀ s ∈ secS ks, Fits s.2 := fun s hs => by
  simp only [secS, List.mem_map] at hs
  obtain ⟨k, _, rfl⟩ := hs
  exact zero_fits
theorem allS_fit (n : Nat) : ∀ s ∈ allS n, Fits s.2 := fun s hs => by
  simp only [allS, List.mem_map] at hs
  obtain ⟨k, _, rfl⟩ := hs
  exact zero_fits
theorem bothS_fit {l : List (Int × Prt)} {ks : List Nat} (hf : ∀ s ∈ l, Fits s.2) (hk : ∀ k ∈ ks, k < l.length) : ∀ s ∈ bothS l ks, Fits s.2 := fun s hs => by
  simp only [bothS, List.mem_map] at hs
  obtain ⟨k, hkm, rfl⟩ := hs
  rw [List.getElem?_eq_getElem (hk k hkm)]
  exact hf _ (List.getElem_mem _)
theorem pick_good {qs : List Prt} {ks : List Nat} (h : ∀ x ∈ qs, Good x) (hk : ∀ k ∈ ks, k < qs.length) : ∀ x ∈ pickP qs ks, Good x := fun x hx => by
  simp only [pickP, List.mem_map] at hx
  obtain ⟨k, hkm, rfl⟩ := hx
  rw [List.getElem?_eq_getElem (hk k hkm)]
  exact h _ (List.getElem_mem _)
end Go.Proofs.YtnjfkijekohdkaaDoor
