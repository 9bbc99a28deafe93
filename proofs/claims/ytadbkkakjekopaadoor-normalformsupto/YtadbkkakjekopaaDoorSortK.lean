/- Lists whose places change over; a row of ints that is sorted in place (the verifier's own; no program). -/
import Derived.Test.YtadbkkakjekopaaDoorSort
import Derived.Test.YtadbkkakjekopaaDoorChecked
import Derived.Shelf.SlSortCmp.Kit1
import Derived.Sort.WalkA
import Derived.Sort.WalkB2
import Derived.Sort.WalkB12
import Derived.Deep.LoopGhost
import Derived.Deep.QuietTactic
import Derived.BigQuiet
import Derived.BigRegion
namespace Go.Vf
/-- Two places of a list exchanged. -/
def swapL (D : List Int) (i j : Nat) : List Int := (D.set i (D.getD j 0)).set j (D.getD i 0)
theorem swp_toArray (D : List Int) (i j : Nat) : ((D.toArray.setIfInBounds i D.toArray[j]!).setIfInBounds j D.toArray[i]!) = (swapL D i j).toArray := by
  have e : ∀ k, D.toArray[k]! = D.getD k 0 := fun k => by
    rw [List.getElem!_toArray, List.getD_eq_getElem?_getD, List.getElem!_eq_getElem?_getD]; rfl
  rw [e, e, List.setIfInBounds_toArray, List.setIfInBounds_toArray]; rfl
theorem swapL_mid {P M Q : List Int} {x y : Int} {i j : Nat} (hi : i = P.length) (hj : j = P.length + 1 + M.length) : swapL (P ++ [x] ++ M ++ [y] ++ Q) i j = P ++ [y] ++ M ++ [x] ++ Q := by
  subst hi hj
  have e : P ++ [x] ++ M ++ [y] ++ Q = P ++ (x :: (M ++ (y :: Q))) := by simp
  have gi : (P ++ (x :: (M ++ (y :: Q)))).getD P.length 0 = x := by simp [List.getD_eq_getElem?_getD]
  have gj : (P ++ (x :: (M ++ (y :: Q)))).getD (P.length + 1 + M.length) 0 = y := by
    rw [List.getD_eq_getElem?_getD, List.getElem?_append_right (by omega), show P.length + 1 + M.length - P.length = M.length + 1 from by omega]
    simp
  unfold swapL
  rw [e, gi, gj, List.set_append_right _ _ (Nat.le_refl _), Nat.sub_self, List.set_cons_zero, List.set_append_right _ _ (by omega), show P.length + 1 + M.length - P.length = M.length + 1 from by omega, List.set_cons_succ, List.set_append_right _ _ (Nat.le_refl _), Nat.sub_self, List.set_cons_zero]
  simp
theorem swapL_length (D : List Int) (i j : Nat) : (swapL D i j).length = D.length := by simp [swapL]
/-- Two ranges exchanged up to the i-th place of each. -/
def SwapAt (P U M V Q : List Int) (i : Nat) (D : List Int) : Prop := D = P ++ V.take i ++ U.drop i ++ M ++ U.take i ++ V.drop i ++ Q
theorem SwapAt.start {P U M V Q D : List Int} (h : D = P ++ U ++ M ++ V ++ Q) : SwapAt P U M V Q 0 D := by unfold SwapAt; rw [h]; simp
theorem SwapAt.done {P U M V Q D : List Int} {n : Nat} (h : SwapAt P U M V Q n D) (hu : U.length = n) (hv : V.length = n) : D = P ++ V ++ M ++ U ++ Q := by
  unfold SwapAt at h
  rw [List.take_of_length_le (by omega), List.take_of_length_le (by omega), List.drop_of_length_le (by omega), List.drop_of_length_le (by omega)] at h
  rw [h]; simp
theorem SwapAt.length {P U M V Q D : List Int} {n i : Nat} (h : SwapAt P U M V Q i D) (hu : U.length = n) (hv : V.length = n) : D.length = (P ++ U ++ M ++ V ++ Q).length := by
  unfold SwapAt at h
  rw [h]; simp [List.length_append]; omega
theorem SwapAt.step {P U M V Q D : List Int} {n i a b : Nat} (h : SwapAt P U M V Q i D) (hu : U.length = n) (hv : V.length = n) (hi : i < n) (ha : P.length = a) (hb : a + n + M.length = b) : SwapAt P U M V Q (i + 1) (swapL D (a + i) (b + i)) := by
  unfold SwapAt at h ⊢
  have hiu : i < U.length := by omega
  have hiv : i < V.length := by omega
  have e : D = (P ++ V.take i) ++ [U[i]] ++ (U.drop (i + 1) ++ M ++ U.take i) ++ [V[i]] ++ (V.drop (i + 1) ++ Q) := by
    have e1 := List.drop_eq_getElem_cons hiu
    have e2 := List.drop_eq_getElem_cons hiv
    rw [h]
    generalize U.drop (i + 1) = A at e1 ⊢
    generalize V.drop (i + 1) = B at e2 ⊢
    rw [e1, e2]; simp
  rw [e, swapL_mid (by rw [List.length_append, List.length_take]; omega) (by simp only [List.length_append, List.length_take, List.length_drop]; omega), ← List.take_append_getElem hiu, ← List.take_append_getElem hiv]
  simp
/-- Two pieces that are to change places, and may have been parted. -/
def RotAt (T P X Y Q D : List Int) : Prop := D = P ++ X ++ Y ++ Q ∧ T = P ++ Y ++ X ++ Q
theorem RotAt.left {T P X Y Q D : List Int} (h : RotAt T P X Y Q D) (j : Nat) :
    D = P ++ X.take j ++ X.drop j ++ Y ++ Q ∧ RotAt T (P ++ Y) (X.drop j) (X.take j) Q (P ++ Y ++ X.drop j ++ X.take j ++ Q) := by
  obtain ⟨h1, h2⟩ := h
  have e := (List.take_append_drop j X).symm
  generalize X.take j = X1 at e ⊢
  generalize X.drop j = X2 at e ⊢
  exact ⟨by rw [h1, e]; simp, rfl, by rw [h2, e]; simp⟩
theorem RotAt.right {T P X Y Q D : List Int} (h : RotAt T P X Y Q D) (j : Nat) :
    D = P ++ X ++ Y.take j ++ Y.drop j ++ Q ∧ RotAt T P (Y.drop j) (Y.take j) (X ++ Q) (P ++ Y.drop j ++ Y.take j ++ X ++ Q) := by
  obtain ⟨h1, h2⟩ := h
  have e := (List.take_append_drop j Y).symm
  generalize Y.take j = Y1 at e ⊢
  generalize Y.drop j = Y2 at e ⊢
  exact ⟨by rw [h1, e]; simp, by simp, by rw [h2, e]; simp⟩
end Go.Vf

namespace Go.Proofs.YtadbkkakjekopaaDoor
open Go.Shelf Go.RowKit Go.Lib Go.Sort Go.Vf

def I64 (x : Int) : Prop := -9223372036854775808 ≤ x ∧ x ≤ 9223372036854775807
theorem toArray_at (D : List Int) (k : Nat) : D.toArray[k]! = D.getD k 0 := by
  rw [List.getElem!_toArray, List.getD_eq_getElem?_getD, List.getElem!_eq_getElem?_getD]; rfl
theorem swapL_mem {D : List Int} {i j : Nat} (hi : i < D.length) (hj : j < D.length) {x : Int} (h : x ∈ swapL D i j) : x ∈ D := by
  unfold swapL at h
  rcases List.mem_or_eq_of_mem_set h with h | h
  · rcases List.mem_or_eq_of_mem_set h with h | h
    · exact h
    · rw [h]; exact getD_mem hj
  · rw [h]; exact getD_mem hi
/-- A world of a sort: the row holds D; nothing else has changed. -/
structure SL (w0 : World) (blk off n : Nat) (D : List Int) (W : World) : Prop where
  sw : SW (Value.int .i64) w0 blk off D.toArray W
  len : D.length = n
  int : ∀ x ∈ D, I64 x
structure RowN (w0 : World) (blk off n : Nat) : Prop where
  row : ∃ D0 : List Int, D0.length = n ∧ Row1 (Value.int .i64) w0 blk off D0.toArray
variable {w0 W : World} {blk off n : Nat} {D : List Int}
theorem SL.c1 (h : SL w0 blk off n D W) (R : RowN w0 blk off n) (i : Nat) (hi : i < n) : W.cell? ⟨blk, off + i, none⟩ = some (.int .i64 (D.getD i 0)) := by
  obtain ⟨D0, h0, r⟩ := R.row
  have := h.sw.c1 r (by simp [h.len, h0]) i (by simp [h.len, hi])
  rw [toArray_at] at this
  exact this
theorem SL.f1 (h : SL w0 blk off n D W) (R : RowN w0 blk off n) (i : Nat) (hi : i < n) : W.frozen? ⟨blk, off + i, none⟩ = false := by
  obtain ⟨D0, h0, r⟩ := R.row
  exact h.sw.f1 r (by simp [h.len, h0]) i (by simp [h.len, hi])
theorem SL.c2 (h : SL w0 blk off n D W) (R : RowN w0 blk off n) (i j : Nat) (hi : i < n) (hj : j < n) (v : Value) : ∃ u, (W.setCell ⟨blk, off + i, none⟩ v).cell? ⟨blk, off + j, none⟩ = some u := by
  obtain ⟨D0, h0, r⟩ := R.row
  exact h.sw.c2 r (by simp [h.len, h0]) i j (by simp [h.len, hi]) (by simp [h.len, hj]) v
theorem SL.drewN (h : SL w0 blk off n D W) (q : Nat) : SL w0 blk off n D (W.drewN q) := ⟨h.sw.drewN q, h.len, h.int⟩
theorem SL.drew (h : SL w0 blk off n D W) : SL w0 blk off n D W.drew := h.drewN 1
theorem SL.cl (h : SL w0 blk off n D W) (R : RowN w0 blk off n) (i : Nat) (hi : i < n) (q : Nat) : (W.drewN q).cell? ⟨blk, off + i, none⟩ = some (.int .i64 (D.getD i 0)) := (h.drewN q).c1 R i hi
theorem SL.at (h : SL w0 blk off n D W) (i : Nat) (hi : i < n) : I64 (D.getD i 0) := h.int _ (getD_mem (by rw [h.len]; exact hi))
theorem SL.swapped (h : SL w0 blk off n D W) (R : RowN w0 blk off n) (i j : Nat) (hi : i < n) (hj : j < n) :
    SL w0 blk off n (swapL D i j) ((W.setCell ⟨blk, off + i, none⟩ (.int .i64 (D.getD j 0))).setCell ⟨blk, off + j, none⟩ (.int .i64 (D.getD i 0))).drew := by
  obtain ⟨D0, h0, r⟩ := R.row
  have := h.sw.swapped r i j (by simp [h.len, hi]) (by simp [h.len, hj])
  unfold swp at this
  rw [swp_toArray, toArray_at, toArray_at] at this
  exact ⟨this, by rw [swapL_length]; exact h.len, fun x hx => h.int x (swapL_mem (by rw [h.len]; exact hi) (by rw [h.len]; exact hj) hx)⟩
theorem SL.to {D' : List Int} (h : SL w0 blk off n D W) (e : D = D') : SL w0 blk off n D' W := e ▸ h
/-- Three ways to stand. -/
def cmpK (key : Int → Int) (x y : Int) : Int := if key x < key y then -1 else if key y < key x then 1 else 0
theorem cmpK_lt {key : Int → Int} {x y : Int} : cmpK key x y < 0 ↔ key x < key y := by
  unfold cmpK
  split
  · simp [*]
  · split <;> simp [*]
/-- What is asked of the function that compares: in each world of the sort it answers how two keys stand, and changes nothing. -/
def CmpOk (g : Nat) (cb : Array Value) (key : Int → Int) (w0 : World) (blk off n : Nat) : Prop :=
  ∀ W D, SL w0 blk off n D W → ∀ x y, I64 x → I64 y → Calls Tryd.prog g (#[.int .i64 x, .int .i64 y] ++ cb) W fun e w' => e = .returned (.int .i64 (cmpK key x y)) ∧ ∃ q, w' = W.drewN q
theorem SL.cmp {g : Nat} {cb : Array Value} {key : Int → Int} (h : SL w0 blk off n D W) (hC : CmpOk g cb key w0 blk off n) {x y : Int} (hx : I64 x) (hy : I64 y) (q : Nat) :
    Calls Tryd.prog g (#[.int .i64 x, .int .i64 y] ++ cb) (W.drewN q) fun e w' => e = .returned (.int .i64 (cmpK key x y)) ∧ ∃ q', w' = (W.drewN q).drewN q' := hC _ _ (h.drewN q) x y hx hy
end Go.Proofs.YtadbkkakjekopaaDoor
