/- Contracts and lemmas (nothing is claimed here). -/
import Derived.Test.YtfhpgmlfgjfknaaGreatDoorSort
import Derived.Test.YtfhpgmlfgjfknaaGreatDoorChecked
import Derived.Shelf.SlSortCmp.Kit1
import Derived.Sort.WalkA
import Derived.Sort.WalkB2
import Derived.Sort.WalkB12
import Derived.Deep.LoopGhost
import Derived.Deep.QuietTactic
import Derived.BigQuiet
import Derived.BigRegion
import Derived.Deep.CutRange
import Derived.Deep.Cut
import Derived.Deep.RegionHeld
namespace Go.Vf
def swapL (D : List Int) (i j : Nat) : List Int := (D.set i (D.getD j 0)).set j (D.getD i 0)
theorem swp_toArray (D : List Int) (i j : Nat) : ((D.toArray.setIfInBounds i D.toArray[j]!).setIfInBounds j D.toArray[i]!) = (swapL D i j).toArray := by
  have e : ∀ k, D.toArray[k]! = D.getD k 0 := fun k => by
    rw [List.getElem!_toArray, List.getD_eq_getElem?_getD, List.getElem!_eq_getElem?_getD]; rfl
  rw [e, e, List.setIfInBounds_toArray, List.setIfInBounds_toArray]; rfl
theorem swapL_mid {P M Q : List Int} {x y : Int} {i j : Nat} (hi : i = P.length) (hj : j = P.length + 1 + M.length) : swapL (P ++ [x] ++ M ++ [y] ++ Q) i j = P ++ [y] ++ M ++ [x] ++ Q := by
  subst hi hj
  have e : P ++ [x] ++ M ++ [y] ++ Q = P ++ (x :: (M ++ (y :: Q))) := by simp
  have gi : (P ++ (x :: (M ++ (y :: Q)))).getD P.length 0 = x := by simp [List.getD_eq_getElem?_getD]
  have gj : (P ++ (x :: (M ++ (y :: Q)))).getD (P.length + 1 + M.length) 0 = y := by
    rw [List.getD_eq_getElem?_getD, List.getElem?_append_right (by omega), show P.length + 1 + M.length - P.length = M.length + 1 from by omega]
    simp
  unfold swapL
  rw [e, gi, gj, List.set_append_right _ _ (Nat.le_refl _), Nat.sub_self, List.set_cons_zero, List.set_append_right _ _ (by omega), show P.length + 1 + M.length - P.length = M.length + 1 from by omega, List.set_cons_succ, List.set_append_right _ _ (Nat.le_refl _), Nat.sub_self, List.set_cons_zero]
  simp
theorem swapL_length (D : List Int) (i j : Nat) : (swapL D i j).length = D.length := by simp [swapL]
def SwapAt (P U M V Q : List Int) (i : Nat) (D : List Int) : Prop := D = P ++ V.take i ++ U.drop i ++ M ++ U.take i ++ V.drop i ++ Q
theorem SwapAt.start {P U M V Q D : List Int} (h : D = P ++ U ++ M ++ V ++ Q) : SwapAt P U M V Q 0 D := by unfold SwapAt; rw [h]; simp
theorem SwapAt.done {P U M V Q D : List Int} {n : Nat} (h : SwapAt P U M V Q n D) (hu : U.length = n) (hv : V.length = n) : D = P ++ V ++ M ++ U ++ Q := by
  unfold SwapAt at h
  rw [List.take_of_length_le (by omega), List.take_of_length_le (by omega), List.drop_of_length_le (by omega), List.drop_of_length_le (by omega)] at h
  rw [h]; simp
theorem SwapAt.step {P U M V Q D : List Int} {n i a b : Nat} (h : SwapAt P U M V Q i D) (hu : U.length = n) (hv : V.length = n) (hi : i < n) (ha : P.length = a) (hb : a + n + M.length = b) : SwapAt P U M V Q (i + 1) (swapL D (a + i) (b + i)) := by
  unfold SwapAt at h ⊢
  have hiu : i < U.length := by omega
  have hiv : i < V.length := by omega
  have e : D = (P ++ V.take i) ++ [U[i]] ++ (U.drop (i + 1) ++ M ++ U.take i) ++ [V[i]] ++ (V.drop (i + 1) ++ Q) := by
    have e1 := List.drop_eq_getElem_cons hiu
    have e2 := List.drop_eq_getElem_cons hiv
    rw [h]
    generalize U.drop (i + 1) = A at e1 ⊢
    generalize V.drop (i + 1) = B at e2 ⊢
    rw [e1, e2]; simp
  rw [e, swapL_mid (by rw [List.length_append, List.length_take]; omega) (by simp only [List.length_append, List.length_take, List.length_drop]; omega), ← List.take_append_getElem hiu, ← List.take_append_getElem hiv]
  simp
def RotAt (T P X Y Q D : List Int) : Prop := D = P ++ X ++ Y ++ Q ∧ T = P ++ Y ++ X ++ Q
theorem RotAt.left {T P X Y Q D : List Int} (h : RotAt T P X Y Q D) (j : Nat) :
    D = P ++ X.take j ++ X.drop j ++ Y ++ Q ∧ RotAt T (P ++ Y) (X.drop j) (X.take j) Q (P ++ Y ++ X.drop j ++ X.take j ++ Q) := by
  obtain ⟨h1, h2⟩ := h
  have e := (List.take_append_drop j X).symm
  generalize X.take j = X1 at e ⊢
  generalize X.drop j = X2 at e ⊢
  exact ⟨by rw [h1, e]; simp, rfl, by rw [h2, e]; simp⟩
theorem RotAt.right {T P X Y Q D : List Int} (h : RotAt T P X Y Q D) (j : Nat) :
    D = P ++ X ++ Y.take j ++ Y.drop j ++ Q ∧ RotAt T P (Y.drop j) (Y.take j) (X ++ Q) (P ++ Y.drop j ++ Y.take j ++ X ++ Q) := by
  obtain ⟨h1, h2⟩ := h
  have e := (List.take_append_drop j Y).symm
  generalize Y.take j = Y1 at e ⊢
  generalize Y.drop j = Y2 at e ⊢
  exact ⟨by rw [h1, e]; simp, by simp, by rw [h2, e]; simp⟩
end Go.Vf
namespace Go.Proofs.YtfhpgmlfgjfknaaGreatDoor
open Go.Shelf Go.RowKit Go.Lib Go.Sort Go.Vf
def I64 (x : Int) : Prop := -9223372036854775808 ≤ x ∧ x ≤ 9223372036854775807
theorem toArray_at (D : List Int) (k : Nat) : D.toArray[k]! = D.getD k 0 := by
  rw [List.getElem!_toArray, List.getD_eq_getElem?_getD, List.getElem!_eq_getElem?_getD]; rfl
theorem swapL_mem {D : List Int} {i j : Nat} (hi : i < D.length) (hj : j < D.length) {x : Int} (h : x ∈ swapL D i j) : x ∈ D := by
  unfold swapL at h
  rcases List.mem_or_eq_of_mem_set h with h | h
  · rcases List.mem_or_eq_of_mem_set h with h | h
    · exact h
    · rw [h]; exact getD_mem hj
  · rw [h]; exact getD_mem hi
structure SL (w0 : World) (blk off n : Nat) (D : List Int) (W : World) : Prop where
  sw : SW (Value.int .i64) w0 blk off D.toArray W
  len : D.length = n
  int : ∀ x ∈ D, I64 x
structure RowN (w0 : World) (blk off n : Nat) : Prop where
  row : ∃ D0 : List Int, D0.length = n ∧ Row1 (Value.int .i64) w0 blk off D0.toArray
variable {w0 W : World} {blk off n : Nat} {D : List Int}
theorem SL.c1 (h : SL w0 blk off n D W) (R : RowN w0 blk off n) (i : Nat) (hi : i < n) : W.cell? ⟨blk, off + i, none⟩ = some (.int .i64 (D.getD i 0)) := by
  obtain ⟨D0, h0, r⟩ := R.row
  have := h.sw.c1 r (by simp [h.len, h0]) i (by simp [h.len, hi])
  rw [toArray_at] at this
  exact this
theorem SL.f1 (h : SL w0 blk off n D W) (R : RowN w0 blk off n) (i : Nat) (hi : i < n) : W.frozen? ⟨blk, off + i, none⟩ = false := by
  obtain ⟨D0, h0, r⟩ := R.row
  exact h.sw.f1 r (by simp [h.len, h0]) i (by simp [h.len, hi])
theorem SL.c2 (h : SL w0 blk off n D W) (R : RowN w0 blk off n) (i j : Nat) (hi : i < n) (hj : j < n) (v : Value) : ∃ u, (W.setCell ⟨blk, off + i, none⟩ v).cell? ⟨blk, off + j, none⟩ = some u := by
  obtain ⟨D0, h0, r⟩ := R.row
  exact h.sw.c2 r (by simp [h.len, h0]) i j (by simp [h.len, hi]) (by simp [h.len, hj]) v
theorem SL.drewN (h : SL w0 blk off n D W) (q : Nat) : SL w0 blk off n D (W.drewN q) := ⟨h.sw.drewN q, h.len, h.int⟩
theorem SL.drew (h : SL w0 blk off n D W) : SL w0 blk off n D W.drew := h.drewN 1
theorem SL.cl (h : SL w0 blk off n D W) (R : RowN w0 blk off n) (i : Nat) (hi : i < n) (q : Nat) : (W.drewN q).cell? ⟨blk, off + i, none⟩ = some (.int .i64 (D.getD i 0)) := (h.drewN q).c1 R i hi
theorem SL.at (h : SL w0 blk off n D W) (i : Nat) (hi : i < n) : I64 (D.getD i 0) := h.int _ (getD_mem (by rw [h.len]; exact hi))
theorem SL.swapped (h : SL w0 blk off n D W) (R : RowN w0 blk off n) (i j : Nat) (hi : i < n) (hj : j < n) :
    SL w0 blk off n (swapL D i j) ((W.setCell ⟨blk, off + i, none⟩ (.int .i64 (D.getD j 0))).setCell ⟨blk, off + j, none⟩ (.int .i64 (D.getD i 0))).drew := by
  obtain ⟨D0, h0, r⟩ := R.row
  have := h.sw.swapped r i j (by simp [h.len, hi]) (by simp [h.len, hj])
  unfold swp at this
  rw [swp_toArray, toArray_at, toArray_at] at this
  exact ⟨this, by rw [swapL_length]; exact h.len, fun x hx => h.int x (swapL_mem (by rw [h.len]; exact hi) (by rw [h.len]; exact hj) hx)⟩
theorem SL.to {D' : List Int} (h : SL w0 blk off n D W) (e : D = D') : SL w0 blk off n D' W := e ▸ h
def cmpK (key : Int → Int) (x y : Int) : Int := if key x < key y then -1 else if key y < key x then 1 else 0
theorem cmpK_lt {key : Int → Int} {x y : Int} : cmpK key x y < 0 ↔ key x < key y := by
  unfold cmpK
  split
  · simp [*]
  · split <;> simp [*]
def CmpOk (g : Nat) (cb : Array Value) (key : Int → Int) (w0 : World) (blk off n : Nat) : Prop :=
  ∀ W D, SL w0 blk off n D W → ∀ x y, I64 x → I64 y → Calls Tryz.prog g (#[.int .i64 x, .int .i64 y] ++ cb) W fun e w' => e = .returned (.int .i64 (cmpK key x y)) ∧ ∃ q, w' = W.drewN q
theorem SL.cmp {g : Nat} {cb : Array Value} {key : Int → Int} (h : SL w0 blk off n D W) (hC : CmpOk g cb key w0 blk off n) {x y : Int} (hx : I64 x) (hy : I64 y) (q : Nat) :
    Calls Tryz.prog g (#[.int .i64 x, .int .i64 y] ++ cb) (W.drewN q) fun e w' => e = .returned (.int .i64 (cmpK key x y)) ∧ ∃ q', w' = (W.drewN q).drewN q' := hC _ _ (h.drewN q) x y hx hy
set_option maxHeartbeats 4000000 in
set_option maxRecDepth 100000 in
theorem swapRange_any {w0 : World} {blk off n : Nat} (R : RowN w0 blk off n) (hn : n < 4611686018427387904) {T P U M V Q D : List Int} (fv : Value) (cap a b k : Nat) (w : World)
    (S : SL w0 blk off n D w) (hD : D = P ++ U ++ M ++ V ++ Q) (ha : P.length = a) (hu : U.length = k) (hv : V.length = k) (hb : a + k + M.length = b) (hT : T = P ++ V ++ M ++ U ++ Q) :
    Calls Tryz.prog 179 #[.slice (some ⟨blk, off, none⟩) n cap, .int .i64 a, .int .i64 b, .int .i64 k, fv] w fun e w' => e = .returned (.tuple #[]) ∧ SL w0 blk off n T w' := by
  have hle : b + k ≤ n := by rw [← S.len, hD]; simp only [List.length_append]; omega
  have S0 : Aside (SL w0 blk off n D w) := S
  have H0 : Hid (SwapAt P U M V Q 0 D) := SwapAt.start hD
  have HA : Hid (P.length = a) := ha
  have HU : Hid (U.length = k) := hu
  have HV : Hid (V.length = k) := hv
  have HB : Hid (a + k + M.length = b) := hb
  have hab : a + k ≤ b := by omega
  have HT : Hid (T = P ++ V ++ M ++ U ++ Q) := hT
  clear S hD ha hu hv hb hT
  go_enter Tryz.func179, Tryz.ntmps179
  go_wp2
  go_loopg [10] k (fun g1 vi wr => ∃ (i : Nat) (Di : List Int), vi = .int .i64 i ∧ i ≤ k ∧ k - i ≤ g1 ∧ Aside (SL w0 blk off n Di wr) ∧ Hid (SwapAt P U M V Q i Di))
  case atStart => exact ⟨0, D, rfl, Nat.zero_le _, by omega, S0, H0⟩
  case round =>
    clear S0 H0
    obtain ⟨i, Di, rfl, hik, hg1, S1, H1⟩ := hrel
    by_cases hlt : i < k
    · have hltz : (i : Int) < (k : Int) := by omega
      go_wp2_with fail
      obtain ⟨iN, hiN⟩ : ∃ q, q = a + i := ⟨_, rfl⟩
      obtain ⟨jN, hjN⟩ : ∃ q, q = b + i := ⟨_, rfl⟩
      have ea : ((a : Int) + (i : Int)).toNat = iN := by omega
      have pa : (0 : Int) ≤ (a : Int) + (i : Int) := by omega
      have ba : (a : Int) + (i : Int) < (n : Int) := by omega
      have ra : IntKind.i64.wrap ((a : Int) + (i : Int)) = (a : Int) + (i : Int) := by rw [IntKind.wrap_i64]; omega
      have ec : ((b : Int) + (i : Int)).toNat = jN := by omega
      have pc : (0 : Int) ≤ (b : Int) + (i : Int) := by omega
      have bc : (b : Int) + (i : Int) < (n : Int) := by omega
      have rc : IntKind.i64.wrap ((b : Int) + (i : Int)) = (b : Int) + (i : Int) := by rw [IntKind.wrap_i64]; omega
      obtain ⟨x, hx⟩ : ∃ x, x = Di.getD (a + i) 0 := ⟨_, rfl⟩
      obtain ⟨y, hy⟩ : ∃ x, x = Di.getD (b + i) 0 := ⟨_, rfl⟩
      have S2 : Aside (SL w0 blk off n (swapL Di (a + i) (b + i)) ((wr.setCell ⟨blk, off + iN, none⟩ (.int .i64 y)).setCell ⟨blk, off + jN, none⟩ (.int .i64 x)).drew) := by rw [hiN, hjN, hx, hy]; exact S1.out.swapped R (a + i) (b + i) (by omega) (by omega)
      have ca := S1.out.c1 R (a + i) (by omega)
      have cb := S1.out.c1 R (b + i) (by omega)
      have fa := S1.out.f1 R (a + i) (by omega)
      have fb := S1.out.f1 R (b + i) (by omega)
      obtain ⟨u, cc⟩ := S1.out.c2 R (a + i) (b + i) (by omega) (by omega) (.int .i64 y)
      rw [← hjN, ← hiN] at cc
      rw [← hx, ← hiN] at ca
      rw [← hy, ← hjN] at cb
      rw [← hiN] at fa
      rw [← hjN] at fb
      have H2 : Hid (SwapAt P U M V Q (i + 1) (swapL Di (a + i) (b + i))) := H1.out.step HU.out HV.out hlt HA.out HB.out
      clear S1 H1 hx hy hiN hjN
      go_wp2_with fail
      go_region
      clear ca cb cc fa fb
      generalize ((wr.setCell ⟨blk, off + iN, none⟩ (.int .i64 y)).setCell ⟨blk, off + jN, none⟩ (.int .i64 x)).drew = w2 at S2 ⊢
      clear ea ec
      go_wp2
      go_roundg (k - (i + 1))
      case measure => omega
      case rel => exact ⟨i + 1, _, by first | rfl | go_num | simp, by omega, Nat.le_refl _, S2, H2⟩
    · have hltz : ¬ (i : Int) < (k : Int) := by omega
      go_wp2
      go_end0
      obtain rfl : i = k := by omega
      exact ⟨rfl, S1.out.to ((H1.out.done HU.out HV.out).trans HT.out.symm)⟩
set_option maxHeartbeats 4000000 in
set_option maxRecDepth 100000 in
theorem rotate_any {w0 : World} {blk off n : Nat} (R : RowN w0 blk off n) (hn : n < 4611686018427387904) {T P0 X0 Y0 Q0 D0 : List Int} (fv : Value) (cap a m b : Nat) (w : World)
    (S : SL w0 blk off n D0 w) (hR : RotAt T P0 X0 Y0 Q0 D0) (ha : P0.length = a) (hm : a + X0.length = m) (hb : m + Y0.length = b) (hx : a < m) (hy : m < b) :
    Calls Tryz.prog 154 #[.slice (some ⟨blk, off, none⟩) n cap, .int .i64 a, .int .i64 m, .int .i64 b, fv] w fun e w' => e = .returned (.tuple #[]) ∧ SL w0 blk off n T w' := by
  have hle : b ≤ n := by rw [← S.len, hR.1]; simp only [List.length_append]; omega
  have S0 : Aside (SL w0 blk off n D0 w) := S
  have H0 : Hid (RotAt T P0 X0 Y0 Q0 D0 ∧ X0.length = m - a ∧ Y0.length = b - m ∧ P0.length + (m - a) = m) := ⟨hR, by omega, by omega, by omega⟩
  clear S hR ha hm hb
  have z1 : (m : Int) - (a : Int) = ((m - a : Nat) : Int) := by omega
  have z2 : (b : Int) - (m : Int) = ((b - m : Nat) : Int) := by omega
  go_enter Tryz.func154, Tryz.ntmps154
  go_wp2
  go_loopg [10, 11] (b - a) (fun g1 vi vj wr => ∃ (i j : Nat) (P X Y Q D : List Int), vi = .int .i64 i ∧ vj = .int .i64 j ∧ 0 < i ∧ 0 < j ∧ i ≤ m ∧ m + j ≤ n ∧ i + j ≤ g1 ∧ Aside (SL w0 blk off n D wr) ∧ Hid (RotAt T P X Y Q D ∧ X.length = i ∧ Y.length = j ∧ P.length + i = m))
  case atStart => exact ⟨m - a, b - m, P0, X0, Y0, Q0, D0, by first | rfl | rw [z1], by first | rfl | rw [z2], by omega, by omega, by omega, by omega, by omega, S0, H0⟩
  case round =>
    clear S0 H0 z1 z2
    obtain ⟨i, j, P, X, Y, Q, D, rfl, rfl, hi0, hj0, him, hjn, hg1, S1, H1⟩ := hrel
    obtain ⟨p, hp⟩ : ∃ p, p + i = m := ⟨m - i, by omega⟩
    have ep : (m : Int) - (i : Int) = (p : Int) := by omega
    by_cases hne : i = j
    · have hz : (i : Int) = (j : Int) := by omega
      have hS := swapRange_any R hn (T := T) (P := P) (U := X) (M := []) (V := Y) (Q := Q) fv cap p m i wr S1.out (by rw [H1.out.1.1]; simp) (by have := H1.out; omega) H1.out.2.1 (by have := H1.out; omega) (by simp; omega) (by rw [H1.out.1.2]; simp)
      subst hne
      clear S1 H1 hz
      go_wp2_with fail
      refine hS.mono ?_
      rintro e w2 ⟨rfl, S2⟩
      go_wp2
      go_end0
      exact ⟨rfl, S2⟩
    · have hz : ¬ (i : Int) = (j : Int) := by omega
      by_cases hgt : j < i
      · have hgz : (j : Int) < (i : Int) := by omega
        obtain ⟨h1, h2⟩ := H1.out.1.left j
        have hS := swapRange_any R hn (T := P ++ Y ++ X.drop j ++ X.take j ++ Q) (P := P) (U := X.take j) (M := X.drop j) (V := Y) (Q := Q) fv cap p m j wr S1.out h1 (by have := H1.out; omega) (by rw [List.length_take]; have := H1.out; omega) H1.out.2.2.1 (by rw [List.length_drop]; have := H1.out; omega) rfl
        have H2 : Hid (RotAt T (P ++ Y) (X.drop j) (X.take j) Q (P ++ Y ++ X.drop j ++ X.take j ++ Q) ∧ (X.drop j).length = i - j ∧ (X.take j).length = j ∧ (P ++ Y).length + (i - j) = m) := ⟨h2, by rw [List.length_drop]; have := H1.out; omega, by rw [List.length_take]; have := H1.out; omega, by rw [List.length_append]; have := H1.out; omega⟩
        generalize P ++ Y ++ X.drop j ++ X.take j ++ Q = D2 at hS H2
        clear S1 H1 h1 h2
        go_wp2_with fail
        refine hS.mono ?_
        rintro e w2 ⟨rfl, S2⟩
        have S2 : Aside _ := S2
        clear hS
        go_wp2
        go_roundg (i - j + j)
        case measure => omega
        case rel => exact ⟨i - j, j, _, _, _, _, D2, by first | rfl | (congr 1; omega), rfl, by omega, hj0, by omega, hjn, Nat.le_refl _, S2, H2⟩
      · have hgz : ¬ (j : Int) < (i : Int) := by omega
        obtain ⟨q, hq⟩ : ∃ q, q + i = m + j := ⟨m + j - i, by omega⟩
        have eq : (m : Int) + (j : Int) - (i : Int) = (q : Int) := by omega
        obtain ⟨h1, h2⟩ := H1.out.1.right (j - i)
        have hS := swapRange_any R hn (T := P ++ Y.drop (j - i) ++ Y.take (j - i) ++ X ++ Q) (P := P) (U := X) (M := Y.take (j - i)) (V := Y.drop (j - i)) (Q := Q) fv cap p q i wr S1.out h1 (by have := H1.out; omega) H1.out.2.1 (by rw [List.length_drop]; have := H1.out; omega) (by rw [List.length_take]; have := H1.out; omega) rfl
        have H2 : Hid (RotAt T P (Y.drop (j - i)) (Y.take (j - i)) (X ++ Q) (P ++ Y.drop (j - i) ++ Y.take (j - i) ++ X ++ Q) ∧ (Y.drop (j - i)).length = i ∧ (Y.take (j - i)).length = j - i ∧ P.length + i = m) := ⟨h2, by rw [List.length_drop]; have := H1.out; omega, by rw [List.length_take]; have := H1.out; omega, H1.out.2.2.2⟩
        generalize P ++ Y.drop (j - i) ++ Y.take (j - i) ++ X ++ Q = D2 at hS H2
        clear S1 H1 h1 h2
        go_wp2_with fail
        refine hS.mono ?_
        rintro e w2 ⟨rfl, S2⟩
        have S2 : Aside _ := S2
        clear hS
        go_wp2
        go_roundg (i + (j - i))
        case measure => omega
        case rel => exact ⟨i, j - i, _, _, _, _, D2, rfl, by first | rfl | (congr 1; omega), hi0, by omega, him, by omega, Nat.le_refl _, S2, H2⟩
end Go.Proofs.YtfhpgmlfgjfknaaGreatDoor
namespace Go.Vf
theorem swapL_comm {D : List Int} {i j : Nat} (h : i ≠ j) : swapL D i j = swapL D j i := by
  unfold swapL
  rw [List.set_comm _ _ h]
def InsO (key : Int → Int) (P A Q : List Int) (a b i : Nat) (D : List Int) : Prop := ∃ S R, D = P ++ S ++ R ++ Q ∧ a + S.length = min i b ∧ SortedK key S ∧ AlikeK key A (S ++ R) ∧ (S ++ R).length = A.length
def InsI (key : Int → Int) (P A Q : List Int) (a i j : Nat) (D : List Int) : Prop := ∃ U x V R, D = P ++ U ++ [x] ++ V ++ R ++ Q ∧ a + U.length = j ∧ a + U.length + V.length = i ∧ SortedK key (U ++ V) ∧ (∀ v ∈ V, key x < key v) ∧ AlikeK key A (U ++ [x] ++ V ++ R) ∧ (U ++ [x] ++ V ++ R).length = A.length
theorem InsO.start {key : Int → Int} {P A Q D : List Int} {a b : Nat} (hD : D = P ++ A ++ Q) (hb : a + A.length = b) : InsO key P A Q a b (a + 1) D := by
  cases A with
  | nil => exact ⟨[], [], by simpa using hD, by simp at hb ⊢; omega, SortedK.nil, AlikeK.refl _, rfl⟩
  | cons x t => exact ⟨[x], t, by simpa using hD, by simp at hb ⊢; omega, SortedK.one, by simpa using AlikeK.refl _, by simp⟩
theorem InsO.done {key : Int → Int} {P A Q D : List Int} {a b i : Nat} (h : InsO key P A Q a b i D) (hb : a + A.length = b) (hi : b ≤ i) : ∃ C, D = P ++ C ++ Q ∧ SortedK key C ∧ AlikeK key A C := by
  obtain ⟨S, R, h1, h2, h3, h4, h5⟩ := h
  have hR : R = [] := List.length_eq_zero_iff.1 (by rw [List.length_append] at h5; omega)
  subst hR
  exact ⟨S, by simpa using h1, h3, by simpa using h4⟩
theorem InsO.enter {key : Int → Int} {P A Q D : List Int} {a b i : Nat} (h : InsO key P A Q a b i D) (hb : a + A.length = b) (hi : i < b) : InsI key P A Q a i i D := by
  obtain ⟨S, R, h1, h2, h3, h4, h5⟩ := h
  cases R with
  | nil => exfalso; simp at h5; omega
  | cons x t => exact ⟨S, x, [], t, by simpa using h1, by omega, by simp; omega, by simpa using h3, by simp, by simpa using h4, by simpa using h5⟩
theorem InsI.stop0 {key : Int → Int} {P A Q D : List Int} {a b i : Nat} (h : InsI key P A Q a i a D) (hi : i < b) : InsO key P A Q a b (i + 1) D := by
  obtain ⟨U, x, V, R, h1, h2, h3, h4, h5, h6, h7⟩ := h
  have hU : U = [] := List.length_eq_zero_iff.1 (by omega)
  subst hU
  refine ⟨[x] ++ V, R, by simpa using h1, by simp at h3 ⊢; omega, ?_, by simpa using h6, by simpa using h7⟩
  simpa using insert_done (U := []) (by simpa using h4) h5 (by simp)
theorem InsI.at {key : Int → Int} {P A Q D : List Int} {a i j : Nat} (h : InsI key P A Q a i j D) (ha : P.length = a) (hj : a < j) : ∃ U x y V R, D = P ++ (U ++ [y]) ++ [x] ++ V ++ R ++ Q ∧ a + (U ++ [y]).length = j ∧ a + (U ++ [y]).length + V.length = i ∧ SortedK key ((U ++ [y]) ++ V) ∧ (∀ v ∈ V, key x < key v) ∧ AlikeK key A ((U ++ [y]) ++ [x] ++ V ++ R) ∧ ((U ++ [y]) ++ [x] ++ V ++ R).length = A.length ∧ D.getD j 0 = x ∧ D.getD (j - 1) 0 = y := by
  obtain ⟨U, x, V, R, h1, h2, h3, h4, h5, h6, h7⟩ := h
  have hne : U ≠ [] := fun e => by subst e; simp at h2; omega
  obtain ⟨U', y, rfl⟩ : ∃ U' y, U = U' ++ [y] := ⟨U.dropLast, U.getLast hne, (List.dropLast_concat_getLast hne).symm⟩
  refine ⟨U', x, y, V, R, h1, h2, h3, h4, h5, h6, h7, ?_, ?_⟩
  · have e : D = (P ++ (U' ++ [y])) ++ [x] ++ (V ++ R ++ Q) := by rw [h1]; simp
    rw [e, getD_mid (by rw [List.length_append]; omega) (by rw [List.length_append]; simp; simp at h2; omega), List.length_append, show j - (P.length + (U' ++ [y]).length) = 0 from by omega]; rfl
  · rw [List.length_append, List.length_singleton] at h2
    have e : D = (P ++ U') ++ [y] ++ ([x] ++ V ++ R ++ Q) := by rw [h1]; simp
    rw [e, getD_mid (by rw [List.length_append]; omega) (by rw [List.length_append, List.length_singleton]; omega), List.length_append, show j - 1 - (P.length + U'.length) = 0 from by omega]; rfl
theorem InsI.stop {key : Int → Int} {P A Q D : List Int} {a b i j : Nat} (h : InsI key P A Q a i j D) (ha : P.length = a) (hj : a < j) (hi : i < b) (hk : ¬ key (D.getD j 0) < key (D.getD (j - 1) 0)) : InsO key P A Q a b (i + 1) D := by
  obtain ⟨U, x, y, V, R, h1, h2, h3, h4, h5, h6, h7, e1, e2⟩ := h.at ha hj
  rw [e1, e2] at hk
  refine ⟨(U ++ [y]) ++ [x] ++ V, R, by rw [h1]; simp, by simp at h2 h3 ⊢; omega, ?_, by simpa using h6, by simpa using h7⟩
  refine insert_done h4 h5 ?_
  intro u hu
  rcases List.mem_append.1 hu with hu | hu
  · have := (SortedK.left h4).across u hu y (by simp)
    omega
  · rw [List.mem_singleton] at hu; rw [hu]; omega
theorem InsI.go {key : Int → Int} {P A Q D : List Int} {a i j : Nat} (h : InsI key P A Q a i j D) (ha : P.length = a) (hj : a < j) (hk : key (D.getD j 0) < key (D.getD (j - 1) 0)) : InsI key P A Q a i (j - 1) (swapL D j (j - 1)) := by
  obtain ⟨U, x, y, V, R, h1, h2, h3, h4, h5, h6, h7, e1, e2⟩ := h.at ha hj
  rw [e1, e2] at hk
  obtain ⟨g1, g2, g3⟩ := insert_step (U := U) (V := V) h4 h5 hk
  rw [List.length_append, List.length_singleton] at h2 h3
  refine ⟨U, x, [y] ++ V, R, ?_, by omega, by simp; omega, g2, g1, ?_, by simp at h7 ⊢; omega⟩
  · have e : D = (P ++ U) ++ [y] ++ [] ++ [x] ++ (V ++ R ++ Q) := by rw [h1]; simp
    rw [swapL_comm (by omega), e, swapL_mid (by rw [List.length_append]; omega) (by rw [List.length_append]; simp; omega)]
    simp
  · exact h6.trans (AlikeK.append g3 (AlikeK.refl _))
end Go.Vf
namespace Go.Proofs.YtfhpgmlfgjfknaaGreatDoor
open Go.Shelf Go.RowKit Go.Lib Go.Sort Go.Vf
def SortPost (key : Int → Int) (w0 : World) (blk off n : Nat) (P A Q : List Int) (e : Ending) (w' : World) : Prop := e = .returned (.tuple #[]) ∧ ∃ C, SL w0 blk off n (P ++ C ++ Q) w' ∧ SortedK key C ∧ AlikeK key A C
set_option maxHeartbeats 4000000 in
set_option maxRecDepth 100000 in
theorem insertion_any {w0 : World} {blk off n : Nat} (R : RowN w0 blk off n) (hn : n < 4611686018427387904) {g : Nat} {cb : Array Value} {key : Int → Int} (eg : ∀ args w, (callFunc g args).run Tryz.prog w = .ok (.enter g args) w) (hC : CmpOk g cb key w0 blk off n) {P A Q D : List Int} (cap a b : Nat) (w : World)
    (S : SL w0 blk off n D w) (hD : D = P ++ A ++ Q) (ha : P.length = a) (hb : a + A.length = b) :
    Calls Tryz.prog 117 #[.slice (some ⟨blk, off, none⟩) n cap, .int .i64 a, .int .i64 b, .func (.func g) #[] cb] w fun e w' => SortPost key w0 blk off n P A Q e w' := by
  have hle : b ≤ n := by rw [← S.len, hD]; simp only [List.length_append]; omega
  have hab : a ≤ b := by omega
  have S0 : Aside (SL w0 blk off n D w) := S
  have H0 : Hid (InsO key P A Q a b (a + 1) D) := InsO.start hD hb
  have HA : Hid (P.length = a) := ha
  have HB : Hid (a + A.length = b) := hb
  have HC : Aside _ := hC
  clear S hD ha hb hC
  go_enter Tryz.func117, Tryz.ntmps117
  go_wp2
  go_loopg [8] (b - a) (fun g1 vi wr => ∃ (i : Nat) (Di : List Int), vi = .int .i64 i ∧ a < i ∧ i ≤ b + 1 ∧ b + 1 - i ≤ g1 + 1 ∧ Aside (SL w0 blk off n Di wr) ∧ Hid (InsO key P A Q a b i Di))
  case atStart => exact ⟨a + 1, D, by go_num, by omega, by omega, by omega, S0, H0⟩
  case round =>
    clear S0 H0
    obtain ⟨i, Di, rfl, hai, hib, hg1, S1, H1⟩ := hrel
    by_cases hlt : i < b
    · have hltz : (i : Int) < (b : Int) := by omega
      go_wp2
      go_loopg [9] i (fun g2 vj wr2 => ∃ (j : Nat) (Dj : List Int), vj = .int .i64 j ∧ a ≤ j ∧ j ≤ i ∧ j ≤ g2 ∧ Aside (SL w0 blk off n Dj wr2) ∧ Hid (InsI key P A Q a i j Dj))
      case atStart => exact ⟨i, Di, rfl, by omega, Nat.le_refl _, Nat.le_refl _, S1, H1.out.enter HB.out hlt⟩
      case round =>
        clear S1 H1
        obtain ⟨j, Dj, rfl, haj, hji, hg2, SJ, HI⟩ := hrel
        by_cases hja : a < j
        · have hjaz : (a : Int) < (j : Int) := by omega
          obtain ⟨jp, hjp⟩ : ∃ q, q + 1 = j := ⟨j - 1, by omega⟩
          have zjp : (j : Int) = (jp : Int) + 1 := by omega
          have hjad : decide ((jp : Int) + 1 > (a : Int)) = true := decide_eq_true (by omega)
          have hjaz' : (a : Int) < (jp : Int) + 1 := by omega
          obtain ⟨iN, hiN⟩ : ∃ q, q = j := ⟨_, rfl⟩
          obtain ⟨jN, hjN⟩ : ∃ q, q = j - 1 := ⟨_, rfl⟩
          have ea : ((jp : Int) + 1).toNat = iN := by omega
          have pa : (0 : Int) ≤ (jp : Int) + 1 := by omega
          have ba : (jp : Int) + 1 < (n : Int) := by omega
          have ra : IntKind.i64.wrap ((jp : Int) + 1) = (jp : Int) + 1 := by rw [IntKind.wrap_i64]; omega
          have ec : ((jp : Int)).toNat = jN := by omega
          have pc : (0 : Int) ≤ (jp : Int) := by omega
          have bc : (jp : Int) < (n : Int) := by omega
          have rc : IntKind.i64.wrap ((jp : Int)) = (jp : Int) := by rw [IntKind.wrap_i64]; omega
          obtain ⟨x, hx⟩ : ∃ x, x = Dj.getD j 0 := ⟨_, rfl⟩
          obtain ⟨y, hy⟩ : ∃ x, x = Dj.getD (j - 1) 0 := ⟨_, rfl⟩
          have la := SJ.out.cl R j (by omega)
          have lb := SJ.out.cl R (j - 1) (by omega)
          rw [← hx, ← hiN] at la
          rw [← hy, ← hjN] at lb
          have hc := SJ.out.cmp HC.out (x := x) (y := y) (by rw [hx]; exact SJ.out.at j (by omega)) (by rw [hy]; exact SJ.out.at (j - 1) (by omega))
          by_cases hk : key x < key y
          · have hv : cmpK key x y < 0 := cmpK_lt.2 hk
            have hd : decide (cmpK key x y < 0) = true := decide_eq_true hv
            have HG : Hid (InsI key P A Q a i (j - 1) (swapL Dj j (j - 1))) := HI.out.go HA.out hja (by rw [← hx, ← hy]; exact hk)
            have HX : Hid (x = Dj.getD j 0 ∧ y = Dj.getD (j - 1) 0 ∧ iN = j ∧ jN = j - 1) := ⟨hx, hy, hiN, hjN⟩
            clear hx hy hiN hjN HI hk
            go_wp2_with fail
            go_quiet (first | (go_at_fn g; refine Calls.quiet_of (hc _)))
            have S2 : Aside (SL w0 blk off n Dj (wr.drewN nq)) := SJ.out.drewN nq
            clear la lb hc SJ
            generalize wr.drewN nq = w2 at S2 ⊢
            clear nq
            go_wp2_with fail
            have S3 : Aside (SL w0 blk off n (swapL Dj j (j - 1)) ((w2.setCell ⟨blk, off + iN, none⟩ (.int .i64 y)).setCell ⟨blk, off + jN, none⟩ (.int .i64 x)).drew) := by
              obtain ⟨e1, e2, e3, e4⟩ := HX.out
              rw [e1, e2, e3, e4]; exact S2.out.swapped R j (j - 1) (by omega) (by omega)
            obtain ⟨e1, e2, e3, e4⟩ := HX.out
            have ca : w2.cell? ⟨blk, off + iN, none⟩ = some (.int .i64 x) := by rw [e1, e3]; exact S2.out.c1 R j (by omega)
            have cb' : w2.cell? ⟨blk, off + jN, none⟩ = some (.int .i64 y) := by rw [e2, e4]; exact S2.out.c1 R (j - 1) (by omega)
            have fa : w2.frozen? ⟨blk, off + iN, none⟩ = false := by rw [e3]; exact S2.out.f1 R j (by omega)
            have fb : w2.frozen? ⟨blk, off + jN, none⟩ = false := by rw [e4]; exact S2.out.f1 R (j - 1) (by omega)
            obtain ⟨u, cc⟩ : ∃ u, (w2.setCell ⟨blk, off + iN, none⟩ (.int .i64 y)).cell? ⟨blk, off + jN, none⟩ = some u := by rw [e3, e4]; exact S2.out.c2 R j (j - 1) (by omega) (by omega) (.int .i64 y)
            clear e1 e2 e3 e4
            clear S2 HX
            go_wp2_with fail
            go_region
            clear ca cb' cc fa fb
            generalize ((w2.setCell ⟨blk, off + iN, none⟩ (.int .i64 y)).setCell ⟨blk, off + jN, none⟩ (.int .i64 x)).drew = w3 at S3 ⊢
            clear ea ec
            go_wp2
            go_roundg (j - 1)
            case measure => omega
            case rel => exact ⟨j - 1, _, by first | rfl | go_num | (congr 1; omega), by omega, by omega, Nat.le_refl _, S3, HG⟩
          · have hv : ¬ cmpK key x y < 0 := fun h => hk (cmpK_lt.1 h)
            have hd : decide (cmpK key x y < 0) = false := decide_eq_false hv
            have HG : Hid (InsO key P A Q a b (i + 1) Dj) := HI.out.stop HA.out hja hlt (by rw [← hx, ← hy]; exact hk)
            clear hx hy hiN hjN HI hk
            go_wp2_with fail
            go_quiet (first | (go_at_fn g; refine Calls.quiet_of (hc _)))
            have S2 : Aside (SL w0 blk off n Dj (wr.drewN nq)) := SJ.out.drewN nq
            clear la lb hc SJ
            generalize wr.drewN nq = w2 at S2 ⊢
            clear nq
            clear ea ec
            go_wp2
            go_roundg (b - (i + 1))
            case measure => omega
            case rel => exact ⟨i + 1, Dj, by go_num, by omega, by omega, by omega, S2, HG⟩
        · have hjaz : decide ((j : Int) > (a : Int)) = false := decide_eq_false (by omega)
          have hjaz' : ¬ (a : Int) < (j : Int) := by omega
          have HG : Hid (InsO key P A Q a b (i + 1) Dj) := by
            obtain rfl : j = a := by omega
            exact HI.out.stop0 hlt
          clear HI
          go_wp2_with fail
          go_region
          have S2 : Aside (SL w0 blk off n Dj wr.drew) := SJ.out.drew
          clear SJ
          generalize wr.drew = w2 at S2 ⊢
          go_wp2
          go_roundg (b - (i + 1))
          case measure => omega
          case rel => exact ⟨i + 1, Dj, by go_num, by omega, by omega, by omega, S2, HG⟩
    · have hltz : ¬ (i : Int) < (b : Int) := by omega
      go_wp2
      go_end0
      obtain ⟨C, h1, h2, h3⟩ := H1.out.done HB.out (by omega)
      exact ⟨rfl, C, S1.out.to h1, h2, h3⟩
end Go.Proofs.YtfhpgmlfgjfknaaGreatDoor
namespace Go.Vf
def UpAt (P B1 R : List Int) (x : Int) (a k : Nat) (D : List Int) : Prop := D = P ++ B1.take (k - a) ++ [x] ++ B1.drop (k - a) ++ R
theorem UpAt.step {P B1 R D : List Int} {x : Int} {a k : Nat} (h : UpAt P B1 R x a k D) (ha : P.length = a) (hk : a ≤ k) (hb : k - a < B1.length) : UpAt P B1 R x a (k + 1) (swapL D k (k + 1)) := by
 unfold UpAt at h ⊢
 have e1 := List.drop_eq_getElem_cons hb
 have e2 := List.take_append_getElem hb
 rw [show k + 1 - a = k - a + 1 from by omega, ← e2]
 generalize B1.drop (k - a + 1) = Y at e1 ⊢
 have e : D = (P ++ B1.take (k - a)) ++ [x] ++ [] ++ [B1[k - a]] ++ (Y ++ R) := by rw [h, e1]; simp
 rw [e, swapL_mid (by rw [List.length_append, List.length_take]; omega) (by rw [List.length_append, List.length_take]; simp; omega)]
 simp
def DownAt (P A2 R : List Int) (y : Int) (i k : Nat) (D : List Int) : Prop := D = P ++ A2.take (k - i) ++ [y] ++ A2.drop (k - i) ++ R
theorem DownAt.step {P A2 R D : List Int} {y : Int} {i k : Nat} (h : DownAt P A2 R y i k D) (hi : P.length = i) (hk : i < k) (hb : k - i ≤ A2.length) : DownAt P A2 R y i (k - 1) (swapL D k (k - 1)) := by
 unfold DownAt at h ⊢
 have hb' : k - 1 - i < A2.length := by omega
 have e1 := List.drop_eq_getElem_cons hb'
 have e2 := List.take_append_getElem hb'
 rw [show k - i = k - 1 - i + 1 from by omega, ← e2] at h
 rw [e1]
 generalize A2.drop (k - 1 - i + 1) = Y at h ⊢
 have e : D = (P ++ A2.take (k - 1 - i)) ++ [A2[k - 1 - i]] ++ [] ++ [y] ++ (Y ++ R) := by rw [h]; simp
 rw [swapL_comm (by omega), e, swapL_mid (by rw [List.length_append, List.length_take]; omega) (by rw [List.length_append, List.length_take]; simp; omega)]
 simp
end Go.Vf
namespace Go.Proofs.YtfhpgmlfgjfknaaGreatDoor
open Go.Shelf Go.RowKit Go.Lib Go.Sort Go.Vf
set_option maxHeartbeats 8000000 in
set_option maxRecDepth 100000 in
theorem symOne_any {w0 : World} {blk off n : Nat} (R : RowN w0 blk off n) (hn : n < 4611686018427387904) {g : Nat} {cb : Array Value} {key : Int → Int} (eg : ∀ args w, (callFunc g args).run Tryz.prog w = .ok (.enter g args) w) (hC : CmpOk g cb key w0 blk off n) {P B Q D : List Int} {x : Int} (cap a m b : Nat) (w : World)
  (S : SL w0 blk off n D w) (hD : D = P ++ [x] ++ B ++ Q) (ha : P.length = a) (hm : a + 1 = m) (hb : m + B.length = b) (hB : SortedK key B) :
  Calls Tryz.prog 118 #[.slice (some ⟨blk, off, none⟩) n cap, .int .i64 a, .int .i64 m, .int .i64 b, .func (.func g) #[] cb] w fun e w' => SortPost key w0 blk off n P ([x] ++ B) Q e w' := by
 have hle : b ≤ n := by rw [← S.len, hD]; simp only [List.length_append]; simp; omega
 have hmb : m ≤ b := by omega
 have hax : D.getD a 0 = x := by
  have e : D = P ++ [x] ++ (B ++ Q) := by rw [hD]; simp
  rw [e, getD_mid (by omega) (by simp; omega), ha, Nat.sub_self]; rfl
 have S0 : Aside (SL w0 blk off n D w) := S
 have HD : Hid (D = P ++ [x] ++ B ++ Q) := hD
 have HA : Hid (P.length = a) := ha
 have HB : Hid (m + B.length = b) := hb
 have HS : Hid (SortedK key B) := hB
 have HC : Aside _ := hC
 have HX : Hid (D.getD a 0 = x) := hax
 have HM : Hid (a + 1 = m) := hm
 have hmz : (m : Int) - (a : Int) = 1 := by omega
 have hIx : I64 x := by rw [← hax]; exact S.at a (by omega)
 clear S hD ha hb hB hC hax
 go_enter Tryz.func118, Tryz.ntmps118
 go_wp2
 go_loopg [10, 11] (b - m) (fun g1 vi vj wr => ∃ (i j : Nat), vi = .int .i64 i ∧ vj = .int .i64 j ∧ m ≤ i ∧ i ≤ j ∧ j ≤ b ∧ j - i ≤ g1 ∧ Aside (SL w0 blk off n D wr) ∧ Hid ((m < i → key (D.getD (i - 1) 0) < key x) ∧ (j < b → key x ≤ key (D.getD j 0))))
 case atStart => exact ⟨m, b, rfl, rfl, by omega, by omega, by omega, by omega, S0, fun h => absurd h (by omega), fun h => absurd h (by omega)⟩
 case round =>
  clear S0
  obtain ⟨i, j, rfl, rfl, hmi, hij, hjb, hg1, S1, H1⟩ := hrel
  by_cases hlt : i < j
  ·
   have hltz : (i : Int) < (j : Int) := by omega
   obtain ⟨h, hh⟩ : ∃ h, h = (i + j) / 2 := ⟨_, rfl⟩
   have hz : ((i : Int) + (j : Int)) / 2 = (h : Int) := by omega
   have hh1 : i ≤ h := by omega
   have hh2 : h < j := by omega
   obtain ⟨y, hy⟩ : ∃ y, y = D.getD h 0 := ⟨_, rfl⟩
   have la := S1.out.cl R h (by omega)
   have lb := S1.out.cl R a (by omega)
   rw [← hy] at la
   rw [HX.out] at lb
   have ba : (h : Int) < (n : Int) := by omega
   have bc : (a : Int) < (n : Int) := by omega
   have hc := S1.out.cmp HC.out (x := y) (y := x) (by rw [hy]; exact S1.out.at h (by omega)) hIx
   have HY : Hid (y = D.getD h 0) := hy
   clear hh hy
   by_cases hk : key y < key x
   ·
    have hv : cmpK key y x < 0 := cmpK_lt.2 hk
    have hd : decide (cmpK key y x < 0) = true := decide_eq_true hv
    have H2 : Hid ((m < h + 1 → key (D.getD (h + 1 - 1) 0) < key x) ∧ (j < b → key x ≤ key (D.getD j 0))) := ⟨fun _ => by rw [Nat.add_sub_cancel, ← HY.out]; exact hk, H1.out.2⟩
    clear H1 hk
    go_wp2_with fail
    go_quiet (first | (go_at_fn g; refine Calls.quiet_of (hc _)))
    have S2 : Aside (SL w0 blk off n D (wr.drewN nq)) := S1.out.drewN nq
    clear la lb hc S1
    generalize wr.drewN nq = w2 at S2 ⊢
    clear nq
    go_wp2
    go_roundg (j - (h + 1))
    case measure => omega
    case rel => exact ⟨h + 1, j, by first | rfl | go_num, rfl, by omega, by omega, by omega, Nat.le_refl _, S2, H2⟩
   ·
    have hv : ¬ cmpK key y x < 0 := fun h => hk (cmpK_lt.1 h)
    have hd : decide (cmpK key y x < 0) = false := decide_eq_false hv
    have H2 : Hid ((m < i → key (D.getD (i - 1) 0) < key x) ∧ (h < b → key x ≤ key (D.getD h 0))) := ⟨H1.out.1, fun _ => by rw [← HY.out]; omega⟩
    clear H1 hk
    go_wp2_with fail
    go_quiet (first | (go_at_fn g; refine Calls.quiet_of (hc _)))
    have S2 : Aside (SL w0 blk off n D (wr.drewN nq)) := S1.out.drewN nq
    clear la lb hc S1
    generalize wr.drewN nq = w2 at S2 ⊢
    clear nq
    go_wp2
    go_roundg (h - i)
    case measure => omega
    case rel => exact ⟨i, h, rfl, rfl, by omega, by omega, by omega, Nat.le_refl _, S2, H2⟩
  ·
   have hltz : ¬ (i : Int) < (j : Int) := by omega
   obtain rfl : i = j := by omega
   have hsplit := part_one (P := P ++ [x]) (B := B) (Q := Q) (x := x) (i := i) HS.out (by simp; have := HA.out; have := HM.out; omega) (by simp; have := HA.out; have := HM.out; have := HB.out; omega)
    (fun h => by rw [← HD.out]; exact H1.out.1 (by simp at h; have := HA.out; have := HM.out; omega)) (fun h => by rw [← HD.out]; exact H1.out.2 (by simp at h; have := HA.out; have := HM.out; have := HB.out; omega))
   have hPx : (P ++ [x]).length = m := by simp; have := HA.out; have := HM.out; omega
   rw [hPx] at hsplit
   have hmo := merge_one (key := key) (x := x) (B1 := B.take (i - m)) (B2 := B.drop (i - m)) (by rw [List.take_append_drop]; exact HS.out) hsplit.1 hsplit.2
   rw [List.take_append_drop] at hmo
   have H2 : Hid (SortedK key (B.take (i - m) ++ [x] ++ B.drop (i - m)) ∧ AlikeK key ([x] ++ B) (B.take (i - m) ++ [x] ++ B.drop (i - m))) := hmo
   have H3 : Hid (UpAt P (B.take (i - m)) (B.drop (i - m) ++ Q) x a a D) := by
    show _ = _
    rw [HD.out, Nat.sub_self, List.take_zero, List.drop_zero]
    have e := (List.take_append_drop (i - m) B).symm
    generalize B.take (i - m) = B1 at e ⊢
    generalize B.drop (i - m) = B2 at e ⊢
    rw [e]; simp
   have HL : Hid ((B.take (i - m)).length = i - m) := by show _ = _; rw [List.length_take]; have := HB.out; omega
   generalize B.take (i - m) = B1 at H2 H3 HL
   generalize B.drop (i - m) = B2 at H2 H3
   clear H1 hsplit hmo hPx hltz
   obtain ⟨ip, hip⟩ : ∃ q, q + 1 = i := ⟨i - 1, by omega⟩
   have zip : (i : Int) - 1 = (ip : Int) := by omega
   go_wp2
   go_loopg [13] (ip - a) (fun g2 vk wr2 => ∃ (k : Nat) (Dk : List Int), vk = .int .i64 k ∧ a ≤ k ∧ k ≤ ip ∧ ip - k ≤ g2 ∧ Aside (SL w0 blk off n Dk wr2) ∧ Hid (UpAt P B1 (B2 ++ Q) x a k Dk))
   case atStart => exact ⟨a, D, rfl, Nat.le_refl _, by omega, Nat.le_refl _, S1, H3⟩
   case round =>
    clear S1 H3
    obtain ⟨k, Dk, rfl, hak, hki, hg2, SK, HK⟩ := hrel
    by_cases hlt2 : k < ip
    ·
     have hlt2z : (k : Int) < (ip : Int) := by omega
     have hlt3z : (k : Int) < (i : Int) - 1 := by omega
     go_wp2_with fail
     obtain ⟨iN, hiN⟩ : ∃ q, q = k := ⟨_, rfl⟩
     obtain ⟨jN, hjN⟩ : ∃ q, q = k + 1 := ⟨_, rfl⟩
     have ea : ((k : Int)).toNat = iN := by omega
     have pa : (0 : Int) ≤ (k : Int) := by omega
     have ba : (k : Int) < (n : Int) := by omega
     have ec : ((k : Int) + 1).toNat = jN := by omega
     have pc : (0 : Int) ≤ (k : Int) + 1 := by omega
     have bc : (k : Int) + 1 < (n : Int) := by omega
     have rc : IntKind.i64.wrap ((k : Int) + 1) = (k : Int) + 1 := by rw [IntKind.wrap_i64]; omega
     obtain ⟨u, hu⟩ : ∃ u, u = Dk.getD k 0 := ⟨_, rfl⟩
     obtain ⟨v, hv⟩ : ∃ v, v = Dk.getD (k + 1) 0 := ⟨_, rfl⟩
     have S3 : Aside (SL w0 blk off n (swapL Dk k (k + 1)) ((wr.setCell ⟨blk, off + iN, none⟩ (.int .i64 v)).setCell ⟨blk, off + jN, none⟩ (.int .i64 u)).drew) := by
      rw [hu, hv, hiN, hjN]; exact SK.out.swapped R k (k + 1) (by omega) (by omega)
     have ca : wr.cell? ⟨blk, off + iN, none⟩ = some (.int .i64 u) := by rw [hu, hiN]; exact SK.out.c1 R k (by omega)
     have cb' : wr.cell? ⟨blk, off + jN, none⟩ = some (.int .i64 v) := by rw [hv, hjN]; exact SK.out.c1 R (k + 1) (by omega)
     have fa : wr.frozen? ⟨blk, off + iN, none⟩ = false := by rw [hiN]; exact SK.out.f1 R k (by omega)
     have fb : wr.frozen? ⟨blk, off + jN, none⟩ = false := by rw [hjN]; exact SK.out.f1 R (k + 1) (by omega)
     obtain ⟨c, cc⟩ : ∃ c, (wr.setCell ⟨blk, off + iN, none⟩ (.int .i64 v)).cell? ⟨blk, off + jN, none⟩ = some c := by rw [hiN, hjN]; exact SK.out.c2 R k (k + 1) (by omega) (by omega) (.int .i64 v)
     have HG : Hid (UpAt P B1 (B2 ++ Q) x a (k + 1) (swapL Dk k (k + 1))) := HK.out.step HA.out hak (by have := HL.out; have := HM.out; omega)
     clear SK HK hu hv hiN hjN
     go_wp2_with fail
     go_region
     clear ca cb' cc fa fb
     generalize ((wr.setCell ⟨blk, off + iN, none⟩ (.int .i64 v)).setCell ⟨blk, off + jN, none⟩ (.int .i64 u)).drew = w3 at S3 ⊢
     clear ea ec
     go_wp2
     go_roundg (ip - (k + 1))
     case measure => omega
     case rel => exact ⟨k + 1, _, by first | rfl | go_num, by omega, by omega, Nat.le_refl _, S3, HG⟩
    ·
     have hlt2z : ¬ (k : Int) < (ip : Int) := by omega
     have hlt3z : ¬ (k : Int) < (i : Int) - 1 := by omega
     go_wp2
     go_end0
     refine ⟨rfl, B1 ++ [x] ++ B2, SK.out.to ?_, H2.out.1, H2.out.2⟩
     have e := HK.out
     unfold UpAt at e
     have hl := HL.out
     have hm := HM.out
     rw [List.take_of_length_le (by omega), List.drop_of_length_le (by omega)] at e
     rw [e]; simp
set_option maxHeartbeats 8000000 in
set_option maxRecDepth 100000 in
theorem symLast_any {w0 : World} {blk off n : Nat} (R : RowN w0 blk off n) (hn : n < 4611686018427387904) {g : Nat} {cb : Array Value} {key : Int → Int} (eg : ∀ args w, (callFunc g args).run Tryz.prog w = .ok (.enter g args) w) (hC : CmpOk g cb key w0 blk off n) {P A Q D : List Int} {x : Int} (cap a m b : Nat) (w : World)
  (S : SL w0 blk off n D w) (hD : D = P ++ A ++ [x] ++ Q) (ha : P.length = a) (hm : a + A.length = m) (hb : m + 1 = b) (ham : a + 1 < m) (hA : SortedK key A) :
  Calls Tryz.prog 118 #[.slice (some ⟨blk, off, none⟩) n cap, .int .i64 a, .int .i64 m, .int .i64 b, .func (.func g) #[] cb] w fun e w' => SortPost key w0 blk off n P (A ++ [x]) Q e w' := by
 have hle : b ≤ n := by rw [← S.len, hD]; simp only [List.length_append]; simp; omega
 have hax : D.getD m 0 = x := by
  have e : D = (P ++ A) ++ [x] ++ Q := by rw [hD]
  rw [e, getD_mid (by simp; omega) (by simp; omega), List.length_append, ha, hm, Nat.sub_self]; rfl
 have S0 : Aside (SL w0 blk off n D w) := S
 have HD : Hid (D = P ++ A ++ [x] ++ Q) := hD
 have HA : Hid (P.length = a) := ha
 have HM : Hid (a + A.length = m) := hm
 have HS : Hid (SortedK key A) := hA
 have HC : Aside _ := hC
 have HX : Hid (D.getD m 0 = x) := hax
 have HB : Hid (m + 1 = b) := hb
 have hmz : ¬ (m : Int) - (a : Int) = 1 := by omega
 have hbz : (b : Int) - (m : Int) = 1 := by omega
 have hmq : ((m : Int) - (a : Int) == 1) = false := by simpa using hmz
 have hIx : I64 x := by rw [← hax]; exact S.at m (by omega)
 clear S hD ha hm hA hC hax
 go_enter Tryz.func118, Tryz.ntmps118
 go_wp2
 go_loopg [14, 15] (m - a) (fun g1 vi vj wr => ∃ (i j : Nat), vi = .int .i64 i ∧ vj = .int .i64 j ∧ a ≤ i ∧ i ≤ j ∧ j ≤ m ∧ j - i ≤ g1 ∧ Aside (SL w0 blk off n D wr) ∧ Hid ((a < i → key (D.getD (i - 1) 0) ≤ key x) ∧ (j < m → key x < key (D.getD j 0))))
 case atStart => exact ⟨a, m, rfl, rfl, by omega, by omega, by omega, by omega, S0, fun h => absurd h (by omega), fun h => absurd h (by omega)⟩
 case round =>
  clear S0
  obtain ⟨i, j, rfl, rfl, hmi, hij, hjb, hg1, S1, H1⟩ := hrel
  by_cases hlt : i < j
  ·
   have hltz : (i : Int) < (j : Int) := by omega
   obtain ⟨h, hh⟩ : ∃ h, h = (i + j) / 2 := ⟨_, rfl⟩
   have hz : ((i : Int) + (j : Int)) / 2 = (h : Int) := by omega
   have hh1 : i ≤ h := by omega
   have hh2 : h < j := by omega
   obtain ⟨y, hy⟩ : ∃ y, y = D.getD h 0 := ⟨_, rfl⟩
   have la := S1.out.cl R h (by omega)
   have lb := S1.out.cl R m (by omega)
   rw [← hy] at la
   rw [HX.out] at lb
   have ba : (h : Int) < (n : Int) := by omega
   have bc : (m : Int) < (n : Int) := by omega
   have hc := S1.out.cmp HC.out (x := x) (y := y) hIx (by rw [hy]; exact S1.out.at h (by omega))
   have HY : Hid (y = D.getD h 0) := hy
   clear hh hy
   by_cases hk : key x < key y
   ·
    have hv : cmpK key x y < 0 := cmpK_lt.2 hk
    have hd : decide (cmpK key x y < 0) = true := decide_eq_true hv
    have H2 : Hid ((a < i → key (D.getD (i - 1) 0) ≤ key x) ∧ (h < m → key x < key (D.getD h 0))) := ⟨H1.out.1, fun _ => by rw [← HY.out]; exact hk⟩
    clear H1 hk
    go_wp2_with fail
    go_quiet (first | (go_at_fn g; refine Calls.quiet_of (hc _)))
    have S2 : Aside (SL w0 blk off n D (wr.drewN nq)) := S1.out.drewN nq
    clear la lb hc S1
    generalize wr.drewN nq = w2 at S2 ⊢
    clear nq
    go_wp2
    go_roundg (h - i)
    case measure => omega
    case rel => exact ⟨i, h, rfl, rfl, by omega, by omega, by omega, Nat.le_refl _, S2, H2⟩
   ·
    have hv : ¬ cmpK key x y < 0 := fun h => hk (cmpK_lt.1 h)
    have hd : decide (cmpK key x y < 0) = false := decide_eq_false hv
    have H2 : Hid ((a < h + 1 → key (D.getD (h + 1 - 1) 0) ≤ key x) ∧ (j < m → key x < key (D.getD j 0))) := ⟨fun _ => by rw [Nat.add_sub_cancel, ← HY.out]; omega, H1.out.2⟩
    clear H1 hk
    go_wp2_with fail
    go_quiet (first | (go_at_fn g; refine Calls.quiet_of (hc _)))
    have S2 : Aside (SL w0 blk off n D (wr.drewN nq)) := S1.out.drewN nq
    clear la lb hc S1
    generalize wr.drewN nq = w2 at S2 ⊢
    clear nq
    go_wp2
    go_roundg (j - (h + 1))
    case measure => omega
    case rel => exact ⟨h + 1, j, by first | rfl | go_num, rfl, by omega, by omega, by omega, Nat.le_refl _, S2, H2⟩
  ·
   have hltz : ¬ (i : Int) < (j : Int) := by omega
   obtain rfl : i = j := by omega
   have eD : D = P ++ A ++ ([x] ++ Q) := by rw [HD.out]; simp
   have hsplit := part_last (P := P) (A := A) (Q := [x] ++ Q) (x := x) (i := i) HS.out (by have := HA.out; omega) (by have := HA.out; have := HM.out; omega)
    (fun h => by rw [← eD]; exact H1.out.1 (by have := HA.out; omega)) (fun h => by rw [← eD]; exact H1.out.2 (by have := HA.out; have := HM.out; omega))
   rw [HA.out] at hsplit
   have hmo := merge_last (key := key) (x := x) (A1 := A.take (i - a)) (A2 := A.drop (i - a)) (by rw [List.take_append_drop]; exact HS.out) hsplit.1 hsplit.2
   rw [List.take_append_drop] at hmo
   have H2 : Hid (SortedK key (A.take (i - a) ++ [x] ++ A.drop (i - a)) ∧ AlikeK key (A ++ [x]) (A.take (i - a) ++ [x] ++ A.drop (i - a))) := hmo
   have HL : Hid ((P ++ A.take (i - a)).length = i ∧ (A.drop (i - a)).length = m - i) := by
    refine ⟨?_, ?_⟩
    ·
     rw [List.length_append, List.length_take]; have := HA.out; have := HM.out; omega
    ·
     rw [List.length_drop]; have := HM.out; omega
   have HE : Hid (A = A.take (i - a) ++ A.drop (i - a)) := (List.take_append_drop (i - a) A).symm
   generalize A.take (i - a) = A1 at H2 HL HE
   generalize A.drop (i - a) = A2 at H2 HL HE
   have H3 : Hid (DownAt (P ++ A1) A2 Q x i m D) := by
    have hl := HL.out.2
    show _ = _
    rw [List.take_of_length_le (by omega), List.drop_of_length_le (by omega), HD.out, HE.out]
    simp
   clear H1 hsplit hmo hltz eD
   go_wp2
   go_loopg [17] (m - i) (fun g2 vk wr2 => ∃ (k : Nat) (Dk : List Int), vk = .int .i64 k ∧ i ≤ k ∧ k ≤ m ∧ k - i ≤ g2 ∧ Aside (SL w0 blk off n Dk wr2) ∧ Hid (DownAt (P ++ A1) A2 Q x i k Dk))
   case atStart => exact ⟨m, D, rfl, by omega, Nat.le_refl _, Nat.le_refl _, S1, H3⟩
   case round =>
    clear S1 H3
    obtain ⟨k, Dk, rfl, hak, hki, hg2, SK, HK⟩ := hrel
    by_cases hlt2 : i < k
    ·
     have hlt2z : (i : Int) < (k : Int) := by omega
     obtain ⟨kp, hkp⟩ : ∃ q, q + 1 = k := ⟨k - 1, by omega⟩
     have zkp : (k : Int) = (kp : Int) + 1 := by omega
     go_wp2_with fail
     obtain ⟨iN, hiN⟩ : ∃ q, q = k := ⟨_, rfl⟩
     obtain ⟨jN, hjN⟩ : ∃ q, q = k - 1 := ⟨_, rfl⟩
     have ea : ((kp : Int) + 1).toNat = iN := by omega
     have pa : (0 : Int) ≤ (kp : Int) + 1 := by omega
     have ba : (kp : Int) + 1 < (n : Int) := by omega
     have ra : IntKind.i64.wrap ((kp : Int) + 1) = (kp : Int) + 1 := by rw [IntKind.wrap_i64]; omega
     have ec : ((kp : Int)).toNat = jN := by omega
     have pc : (0 : Int) ≤ (kp : Int) := by omega
     have bc : (kp : Int) < (n : Int) := by omega
     have rc : IntKind.i64.wrap ((kp : Int)) = (kp : Int) := by rw [IntKind.wrap_i64]; omega
     obtain ⟨u, hu⟩ : ∃ u, u = Dk.getD k 0 := ⟨_, rfl⟩
     obtain ⟨v, hv⟩ : ∃ v, v = Dk.getD (k - 1) 0 := ⟨_, rfl⟩
     have S3 : Aside (SL w0 blk off n (swapL Dk k (k - 1)) ((wr.setCell ⟨blk, off + iN, none⟩ (.int .i64 v)).setCell ⟨blk, off + jN, none⟩ (.int .i64 u)).drew) := by
      rw [hu, hv, hiN, hjN]; exact SK.out.swapped R k (k - 1) (by omega) (by omega)
     have ca : wr.cell? ⟨blk, off + iN, none⟩ = some (.int .i64 u) := by rw [hu, hiN]; exact SK.out.c1 R k (by omega)
     have cb' : wr.cell? ⟨blk, off + jN, none⟩ = some (.int .i64 v) := by rw [hv, hjN]; exact SK.out.c1 R (k - 1) (by omega)
     have fa : wr.frozen? ⟨blk, off + iN, none⟩ = false := by rw [hiN]; exact SK.out.f1 R k (by omega)
     have fb : wr.frozen? ⟨blk, off + jN, none⟩ = false := by rw [hjN]; exact SK.out.f1 R (k - 1) (by omega)
     obtain ⟨c, cc⟩ : ∃ c, (wr.setCell ⟨blk, off + iN, none⟩ (.int .i64 v)).cell? ⟨blk, off + jN, none⟩ = some c := by rw [hiN, hjN]; exact SK.out.c2 R k (k - 1) (by omega) (by omega) (.int .i64 v)
     have HG : Hid (DownAt (P ++ A1) A2 Q x i (k - 1) (swapL Dk k (k - 1))) := HK.out.step HL.out.1 hlt2 (by have := HL.out.2; omega)
     clear SK HK hu hv hiN hjN
     go_wp2_with fail
     go_region
     clear ca cb' cc fa fb
     generalize ((wr.setCell ⟨blk, off + iN, none⟩ (.int .i64 v)).setCell ⟨blk, off + jN, none⟩ (.int .i64 u)).drew = w3 at S3 ⊢
     clear ea ec
     go_wp2
     go_roundg (k - 1 - i)
     case measure => omega
     case rel => exact ⟨k - 1, _, by first | rfl | go_num | (congr 1; omega), by omega, by omega, Nat.le_refl _, S3, HG⟩
    ·
     have hlt2z : ¬ (i : Int) < (k : Int) := by omega
     go_wp2
     go_end0
     refine ⟨rfl, A1 ++ [x] ++ A2, SK.out.to ?_, H2.out.1, H2.out.2⟩
     have e := HK.out
     unfold DownAt at e
     obtain rfl : k = i := by omega
     rw [Nat.sub_self, List.take_zero, List.drop_zero] at e
     rw [e]; simp
def SymSays (key : Int → Int) (w0 : World) (blk off n g : Nat) (cb : Array Value) (N : Nat) : Prop := ∀ (P A B Q D : List Int) (cap a m b : Nat) (w : World), b - a ≤ N → SL w0 blk off n D w → D = P ++ A ++ B ++ Q → P.length = a → a + A.length = m → m + B.length = b → a < m → m < b → SortedK key A → SortedK key B →
 Calls Tryz.prog 118 #[.slice (some ⟨blk, off, none⟩) n cap, .int .i64 a, .int .i64 m, .int .i64 b, .func (.func g) #[] cb] w fun e w' => SortPost key w0 blk off n P (A ++ B) Q e w'
structure SymAt (key : Int → Int) (P A B Q D : List Int) (a m b mid s en : Nat) (A1 A2 B1 B2 : List Int) : Prop where
 hD : D = P ++ A ++ B ++ Q
 hP : P.length = a
 hA : A = A1 ++ A2
 hB : B = B1 ++ B2
 lA : a + A1.length = s
 lm : a + A.length = m
 lB : m + B1.length = en
 lb : m + B.length = b
 en' : en + s = mid + m
 sA : SortedK key A
 sB : SortedK key B
 lo : ∀ u ∈ A2, ∀ v ∈ B1, key v < key u
 hi : ∀ u ∈ A1, ∀ v ∈ B2, key u ≤ key v
theorem SymAt.rot {key : Int → Int} {P A B Q D : List Int} {a m b mid s en : Nat} {A1 A2 B1 B2 : List Int} (h : SymAt key P A B Q D a m b mid s en A1 A2 B1 B2) : RotAt (P ++ (A1 ++ B1) ++ (A2 ++ B2 ++ Q)) (P ++ A1) A2 B1 (B2 ++ Q) D :=
 ⟨by rw [h.hD, h.hA, h.hB]; simp, by simp⟩
theorem SymAt.stay {key : Int → Int} {P A B Q D : List Int} {a m b mid s en : Nat} {A1 A2 B1 B2 : List Int} (h : SymAt key P A B Q D a m b mid s en A1 A2 B1 B2) (hs : s ≤ m) (he : m ≤ en) (hn : ¬ (s < m ∧ m < en)) : D = P ++ (A1 ++ B1) ++ (A2 ++ B2 ++ Q) := by
 have l1 := h.lA; have l2 := h.lm; have l3 := h.lB
 have l4 : A.length = A1.length + A2.length := by rw [h.hA, List.length_append]
 rcases Nat.lt_or_ge s m with c | c
 ·
  have e : B1 = [] := List.length_eq_zero_iff.1 (by omega)
  rw [h.hD, h.hA, h.hB, e]; simp
 ·
  have e : A2 = [] := List.length_eq_zero_iff.1 (by omega)
  rw [h.hD, h.hA, h.hB, e]; simp
theorem SymAt.left {key : Int → Int} {P A B Q D : List Int} {a m b mid s en : Nat} {A1 A2 B1 B2 : List Int} (h : SymAt key P A B Q D a m b mid s en A1 A2 B1 B2) (hs : a ≤ s) (he : m ≤ en) (hn : ¬ (a < s ∧ s < mid)) : SortedK key (A1 ++ B1) := by
 have l1 := h.lA; have l3 := h.lB; have l4 := h.en'
 have sA := h.sA; have sB := h.sB
 rw [h.hA] at sA; rw [h.hB] at sB
 rcases Nat.lt_or_ge a s with c | c
 ·
  have e : B1 = [] := List.length_eq_zero_iff.1 (by omega)
  rw [e, List.append_nil]; exact sA.left
 ·
  have e : A1 = [] := List.length_eq_zero_iff.1 (by omega)
  rw [e, List.nil_append]; exact sB.left
theorem SymAt.right {key : Int → Int} {P A B Q D : List Int} {a m b mid s en : Nat} {A1 A2 B1 B2 : List Int} (h : SymAt key P A B Q D a m b mid s en A1 A2 B1 B2) (hs : s ≤ m) (he : en ≤ b) (hn : ¬ (mid < en ∧ en < b)) : SortedK key (A2 ++ B2) := by
 have l1 := h.lA; have l2 := h.lm; have l3 := h.lB; have l4 := h.en'; have l5 := h.lb
 have e1 : A.length = A1.length + A2.length := by rw [h.hA, List.length_append]
 have e2 : B.length = B1.length + B2.length := by rw [h.hB, List.length_append]
 have sA := h.sA; have sB := h.sB
 rw [h.hA] at sA; rw [h.hB] at sB
 rcases Nat.lt_or_ge mid en with c | c
 ·
  have e : B2 = [] := List.length_eq_zero_iff.1 (by omega)
  rw [e, List.append_nil]; exact sA.right
 ·
  have e : A2 = [] := List.length_eq_zero_iff.1 (by omega)
  rw [e, List.nil_append]; exact sB.right
theorem SymAt.lens {key : Int → Int} {P A B Q D : List Int} {a m b mid s en : Nat} {A1 A2 B1 B2 : List Int} (h : SymAt key P A B Q D a m b mid s en A1 A2 B1 B2) : s + A2.length = m ∧ s + B1.length = mid ∧ mid + A2.length = en ∧ en + B2.length = b := by
 have l1 := h.lA; have l2 := h.lm; have l3 := h.lB; have l4 := h.en'; have l5 := h.lb
 have e1 : A.length = A1.length + A2.length := by rw [h.hA, List.length_append]
 have e2 : B.length = B1.length + B2.length := by rw [h.hB, List.length_append]
 omega
def LeftPost (key : Int → Int) (w0 : World) (blk off n : Nat) (P X Q : List Int) (w' : World) : Prop := ∃ C, SL w0 blk off n (P ++ C ++ Q) w' ∧ SortedK key C ∧ AlikeK key X C ∧ C.length = X.length
set_option maxHeartbeats 16000000 in
set_option maxRecDepth 100000 in
theorem symMerge_step {w0 : World} {blk off n : Nat} (R : RowN w0 blk off n) (hn : n < 2305843009213693952) {g : Nat} {cb : Array Value} {key : Int → Int} (eg : ∀ args w, (callFunc g args).run Tryz.prog w = .ok (.enter g args) w) (hC : CmpOk g cb key w0 blk off n) (N : Nat) (ih : SymSays key w0 blk off n g cb N) :
  SymSays key w0 blk off n g cb (N + 1) := by
 intro P A B Q D cap a m b w hN S hD hP hA hB ham hmb sA sB
 by_cases c1 : m - a = 1
 ·
  obtain ⟨x, rfl⟩ : ∃ x, A = [x] := List.length_eq_one_iff.1 (by omega)
  exact symOne_any R (by omega) eg hC cap a m b w S hD hP (by omega) hB sB
 by_cases c2 : b - m = 1
 ·
  obtain ⟨x, rfl⟩ : ∃ x, B = [x] := List.length_eq_one_iff.1 (by omega)
  exact symLast_any R (by omega) eg hC cap a m b w S hD hP hA (by omega) (by omega) sA
 have hle : b ≤ n := by rw [← S.len, hD]; simp only [List.length_append]; omega
 obtain ⟨mid, hmid⟩ : ∃ mid, mid = (a + b) / 2 := ⟨_, rfl⟩
 have zmid : ((a : Int) + (b : Int)) / 2 = (mid : Int) := by omega
 have hm1 : a < mid := by omega
 have hm2 : mid < b := by omega
 have S0 : Aside (SL w0 blk off n D w) := S
 have IH : Aside (SymSays key w0 blk off n g cb N) := ih
 have HC : Aside _ := hC
 have c1z : ¬ (m : Int) - (a : Int) = 1 := by omega
 have c1q : ((m : Int) - (a : Int) == 1) = false := by simpa using c1z
 have c2z : ¬ (b : Int) - (m : Int) = 1 := by omega
 have c2q : ((b : Int) - (m : Int) == 1) = false := by simpa using c2z
 obtain ⟨q, hq⟩ : ∃ q, q + 1 = mid + m := ⟨mid + m - 1, by omega⟩
 have zq : (mid : Int) + (m : Int) - 1 = (q : Int) := by omega
 obtain ⟨lo, hlo⟩ : ∃ lo, lo = if mid < m then mid + m - b else a := ⟨_, rfl⟩
 obtain ⟨hi, hhi⟩ : ∃ hi, hi = if mid < m then mid else m := ⟨_, rfl⟩
 have HS : Hid (∀ s, lo ≤ s → s ≤ hi → (s < hi → key (D.getD (q - s) 0) < key (D.getD s 0)) → (lo < s → key (D.getD (s - 1) 0) ≤ key (D.getD (q + 1 - s) 0)) → ∃ A1 A2 B1 B2 en, SymAt key P A B Q D a m b mid s en A1 A2 B1 B2 ∧ a ≤ s ∧ s ≤ m ∧ m ≤ en ∧ en ≤ b) := by
  intro s h1 h2 g1 g2
  obtain ⟨A1, A2, B1, B2, e1, e2, e3, e4, e5, e6, e7, e8, e9, e10⟩ := part_two (Q := Q) sA sB hP hA hB hmid hlo hhi h1 h2 (fun h => by rw [← hD, show mid + m - 1 - s = q - s from by omega]; exact g1 h) (fun h => by rw [← hD, show mid + m - s = q + 1 - s from by omega]; exact g2 h)
  exact ⟨A1, A2, B1, B2, mid + m - s, ⟨hD, hP, e1, e2, e3, hA, e4, hB, by omega, sA, sB, e9, e10⟩, e5, e6, e7, e8⟩
 have hl1 : a ≤ lo := by split at hlo <;> omega
 have hl2 : lo ≤ hi := by split at hlo <;> split at hhi <;> omega
 have hl3 : hi ≤ m := by split at hhi <;> omega
 have hl4 : hi ≤ mid := by split at hhi <;> omega
 have hl5 : q + 1 ≤ lo + b := by split at hlo <;> omega
 clear S hD hP hA hB sA sB hC ih
 have hcase : (mid < m ∧ (mid : Int) + (m : Int) - (b : Int) = (lo : Int) ∧ hi = mid) ∨ (¬ mid < m ∧ lo = a ∧ hi = m) := by
  by_cases h : mid < m
  ·
   rw [if_pos h] at hlo hhi
   exact .inl ⟨h, by omega, hhi⟩
  ·
   rw [if_neg h] at hlo hhi
   exact .inr ⟨h, hlo, hhi⟩
 clear hlo hhi hmid
 go_enter Tryz.func118, Tryz.ntmps118
 rcases hcase with ⟨hmm, zlo, zhi⟩ | ⟨hmm, zlo, zhi⟩
 ·
  have hmmz : (mid : Int) < (m : Int) := by omega
  have zhi' : Hid (hi = mid) := zhi
  clear zhi
  go_wp2
  go_loopg [20, 21] (hi - lo) (fun g1 vi vj wr => ∃ (s r : Nat), vi = .int .i64 s ∧ vj = .int .i64 r ∧ lo ≤ s ∧ s ≤ r ∧ r ≤ hi ∧ r - s ≤ g1 ∧ Aside (SL w0 blk off n D wr) ∧ Hid ((r < hi → key (D.getD (q - r) 0) < key (D.getD r 0)) ∧ (lo < s → key (D.getD (s - 1) 0) ≤ key (D.getD (q + 1 - s) 0))))
  case atStart => exact ⟨lo, hi, rfl, by rw [zhi'.out], Nat.le_refl _, hl2, Nat.le_refl _, Nat.le_refl _, S0, fun h => absurd h (by omega), fun h => absurd h (by omega)⟩
  case round =>
   clear S0
   obtain ⟨s, r, rfl, rfl, hls, hsr, hrh, hg1, S1, H1⟩ := hrel
   by_cases hlt : s < r
   ·
    have hltz : (s : Int) < (r : Int) := by omega
    obtain ⟨c, hc0⟩ : ∃ h, h = (s + r) / 2 := ⟨_, rfl⟩
    have hz : ((s : Int) + (r : Int)) / 2 = (c : Int) := by omega
    have hc1 : s ≤ c := by omega
    have hc2 : c < r := by omega
    obtain ⟨t, ht⟩ : ∃ t, t + c = q := ⟨q - c, by omega⟩
    have zt : (q : Int) - (c : Int) = (t : Int) := by omega
    have zw : IntKind.i64.wrap ((q : Int) - (c : Int)) = (t : Int) := by rw [IntKind.wrap_i64]; omega
    obtain ⟨x, hx⟩ : ∃ y, y = D.getD t 0 := ⟨_, rfl⟩
    obtain ⟨y, hy⟩ : ∃ y, y = D.getD c 0 := ⟨_, rfl⟩
    have la := S1.out.cl R t (by omega)
    have lb := S1.out.cl R c (by omega)
    rw [← hx] at la
    rw [← hy] at lb
    have ba : (t : Int) < (n : Int) := by omega
    have bc : (c : Int) < (n : Int) := by omega
    have hc := S1.out.cmp HC.out (x := x) (y := y) (by rw [hx]; exact S1.out.at t (by omega)) (by rw [hy]; exact S1.out.at c (by omega))
    have HY : Hid (x = D.getD (q - c) 0 ∧ y = D.getD c 0) := ⟨by rw [hx, show q - c = t from by omega], hy⟩
    have HT : Hid (t + c = q) := ht
    clear hc0 hx hy ht
    by_cases hk : key x < key y
    ·
     have hv : cmpK key x y < 0 := cmpK_lt.2 hk
     have hd : decide (cmpK key x y < 0) = true := decide_eq_true hv
     have H2 : Hid ((c < hi → key (D.getD (q - c) 0) < key (D.getD c 0)) ∧ (lo < s → key (D.getD (s - 1) 0) ≤ key (D.getD (q + 1 - s) 0))) := ⟨fun _ => by rw [← HY.out.1, ← HY.out.2]; exact hk, H1.out.2⟩
     clear H1 hk
     go_wp2_with fail
     go_quiet (first | (go_at_fn g; refine Calls.quiet_of (hc _)))
     have S2 : Aside (SL w0 blk off n D (wr.drewN nq)) := S1.out.drewN nq
     clear la lb hc S1
     generalize wr.drewN nq = w2 at S2 ⊢
     clear nq
     go_wp2
     go_roundg (c - s)
     case measure => omega
     case rel => exact ⟨s, c, rfl, rfl, by omega, by omega, by omega, Nat.le_refl _, S2, H2⟩
    ·
     have hv : ¬ cmpK key x y < 0 := fun h => hk (cmpK_lt.1 h)
     have hd : decide (cmpK key x y < 0) = false := decide_eq_false hv
     have H2 : Hid ((r < hi → key (D.getD (q - r) 0) < key (D.getD r 0)) ∧ (lo < c + 1 → key (D.getD (c + 1 - 1) 0) ≤ key (D.getD (q + 1 - (c + 1)) 0))) := ⟨H1.out.1, fun _ => by rw [Nat.add_sub_cancel, show q + 1 - (c + 1) = q - c from by omega, ← HY.out.1, ← HY.out.2]; omega⟩
     clear H1 hk
     go_wp2_with fail
     go_quiet (first | (go_at_fn g; refine Calls.quiet_of (hc _)))
     have S2 : Aside (SL w0 blk off n D (wr.drewN nq)) := S1.out.drewN nq
     clear la lb hc S1
     generalize wr.drewN nq = w2 at S2 ⊢
     clear nq
     go_wp2
     go_roundg (r - (c + 1))
     case measure => omega
     case rel => exact ⟨c + 1, r, by first | rfl | go_num, rfl, by omega, by omega, by omega, Nat.le_refl _, S2, H2⟩
   ·
    have hltz : ¬ (s : Int) < (r : Int) := by omega
    obtain rfl : s = r := by omega
    obtain ⟨A1, A2, B1, B2, en, HQ0, e1, e2, e3, e4⟩ := HS.out s hls hrh H1.out.1 H1.out.2
    have HQ : Aside (SymAt key P A B Q D a m b mid s en A1 A2 B1 B2) := HQ0
    have zen : (mid : Int) + (m : Int) - (s : Int) = (en : Int) := by have := HQ0.en'; omega
    have hsm : s ≤ mid := by omega
    have hrot : s < m ∧ m < en → Calls Tryz.prog 154 #[.slice (some ⟨blk, off, none⟩) n cap, .int .i64 s, .int .i64 m, .int .i64 en, .func (.func g) #[] cb] wr fun e w' => e = .returned (.tuple #[]) ∧ SL w0 blk off n (P ++ (A1 ++ B1) ++ (A2 ++ B2 ++ Q)) w' := fun h =>
     rotate_any R (by omega) (.func (.func g) #[] cb) cap s m en wr S1.out HQ0.rot (by rw [List.length_append, HQ0.hP]; exact HQ0.lA) (HQ0.lens).1 HQ0.lB h.1 h.2
    have hstay : ¬ (s < m ∧ m < en) → SL w0 blk off n (P ++ (A1 ++ B1) ++ (A2 ++ B2 ++ Q)) wr := fun h => S1.out.to (HQ0.stay e2 e3 h)
    have HROT : Aside _ := hrot
    have HSTAY : Aside _ := hstay
    clear H1 HQ0 HS S1 hrot hstay hl1 hl2 hl3 hl4 hl5 hls hrh hg1 hltz
    go_upto_region 39 with fail
    go_cut [185] from 178 to 185 (fun c wx => c = .bool (decide (s < m ∧ m < en)) ∧ wx = wr)
    case first =>
     by_cases d1 : s < m
     ·
      have d1z : (s : Int) < (m : Int) := by omega
      by_cases d2 : m < en
      ·
       have d2z : (m : Int) < (en : Int) := by omega
       go_wp2_with fail
       go_meet
       case rel => exact ⟨by simp [d1, d2], rfl⟩
      ·
       have d2z : ¬ (m : Int) < (en : Int) := by omega
       go_wp2_with fail
       go_meet
       case rel => exact ⟨by simp [d2], rfl⟩
     ·
      have d1z : ¬ (s : Int) < (m : Int) := by omega
      go_wp2_with fail
      go_meet
      case rel => exact ⟨by simp [d1], rfl⟩
    case rest =>
     obtain ⟨rfl, rfl⟩ := hcut
     go_upto_if 185 with fail
     go_cut [191] from 185 to 191 (fun _ wx => Aside (SL w0 blk off n (P ++ (A1 ++ B1) ++ (A2 ++ B2 ++ Q)) wx))
     case first =>
      by_cases d : s < m ∧ m < en
      ·
       have dz : decide (s < m ∧ m < en) = true := decide_eq_true d
       have hrot := HROT.out d
       go_wp2_with fail
       refine hrot.mono ?_
       rintro e w2 ⟨rfl, S2⟩
       go_wp2_with fail
       go_meet
       case rel => exact S2
      ·
       have dz : decide (s < m ∧ m < en) = false := decide_eq_false d
       go_wp2_with fail
       go_meet
       case rel => exact HSTAY.out d
     case rest =>
      clear HROT HSTAY
      have hl : a < s ∧ s < mid → Calls Tryz.prog 118 #[.slice (some ⟨blk, off, none⟩) n cap, .int .i64 a, .int .i64 s, .int .i64 mid, .func (.func g) #[] cb] wc fun e w' => SortPost key w0 blk off n P (A1 ++ B1) (A2 ++ B2 ++ Q) e w' := fun h => by
       have q := HQ.out
       refine IH.out P A1 B1 (A2 ++ B2 ++ Q) _ cap a s mid wc (by omega) hcut.out (by simp) q.hP q.lA q.lens.2.1 h.1 h.2 ?_ ?_
       ·
        have := q.sA; rw [q.hA] at this; exact this.left
       ·
        have := q.sB; rw [q.hB] at this; exact this.left
      have hl' : ¬ (a < s ∧ s < mid) → LeftPost key w0 blk off n P (A1 ++ B1) (A2 ++ B2 ++ Q) wc := fun h => ⟨A1 ++ B1, hcut.out, HQ.out.left e1 e3 h, AlikeK.refl _, rfl⟩
      have hl2 : ∀ C w', SL w0 blk off n (P ++ C ++ (A2 ++ B2 ++ Q)) w' → C.length = (A1 ++ B1).length := fun C w' h => by
       have h1 := h.len
       have h2 := hcut.out.len
       simp only [List.length_append] at h1 h2 ⊢
       omega
      have HL : Aside _ := hl
      have HL' : Aside _ := hl'
      have HL2 : Aside _ := hl2
      clear hl hl' hl2 hcut
      generalize wc = wd at HL HL' ⊢
      go_upto_region 41 with fail
      go_cut [199] from 192 to 199 (fun c wx => c = .bool (decide (a < s ∧ s < mid)) ∧ wx = wd)
      case first =>
       by_cases d1 : a < s
       ·
        have d1z : (a : Int) < (s : Int) := by omega
        by_cases d2 : s < mid
        ·
         have d2z : (s : Int) < (mid : Int) := by omega
         go_wp2_with fail
         go_meet
         case rel => exact ⟨by simp [d1, d2], rfl⟩
        ·
         have d2z : ¬ (s : Int) < (mid : Int) := by omega
         go_wp2_with fail
         go_meet
         case rel => exact ⟨by simp [d2], rfl⟩
       ·
        have d1z : ¬ (a : Int) < (s : Int) := by omega
        go_wp2_with fail
        go_meet
        case rel => exact ⟨by simp [d1], rfl⟩
      case rest =>
       obtain ⟨rfl, rfl⟩ := hcut
       go_upto_if 199 with fail
       go_cut [205] from 199 to 205 (fun _ wx => Aside (LeftPost key w0 blk off n P (A1 ++ B1) (A2 ++ B2 ++ Q) wx))
       case first =>
        by_cases d : a < s ∧ s < mid
        ·
         have dz : decide (a < s ∧ s < mid) = true := decide_eq_true d
         have hrot := HL.out d
         go_wp2_with fail
         refine hrot.mono ?_
         rintro e w2 ⟨rfl, C, S2, g1, g2⟩
         have hcl := HL2.out C w2 S2
         go_wp2_with fail
         go_meet
         case rel => exact ⟨C, S2, g1, g2, hcl⟩
        ·
         have dz : decide (a < s ∧ s < mid) = false := decide_eq_false d
         go_wp2_with fail
         go_meet
         case rel => exact HL'.out d
       case rest =>
        clear HL HL' HL2
        obtain ⟨C1, SC, sC, aC, lC⟩ := hcut.out
        have hlen : (P ++ C1).length = mid := by
         have q := HQ.out
         have := q.lens
         have := q.hP
         have := q.lA
         rw [List.length_append] at lC ⊢
         omega
        have hr : mid < en ∧ en < b → Calls Tryz.prog 118 #[.slice (some ⟨blk, off, none⟩) n cap, .int .i64 mid, .int .i64 en, .int .i64 b, .func (.func g) #[] cb] wc fun e w' => SortPost key w0 blk off n (P ++ C1) (A2 ++ B2) Q e w' := fun h => by
         have q := HQ.out
         refine IH.out (P ++ C1) A2 B2 Q _ cap mid en b wc (by omega) SC (by simp) hlen q.lens.2.2.1 q.lens.2.2.2 h.1 h.2 ?_ ?_
         ·
          have := q.sA; rw [q.hA] at this; exact this.right
         ·
          have := q.sB; rw [q.hB] at this; exact this.right
        have hfin : ∀ C2 w', SL w0 blk off n ((P ++ C1) ++ C2 ++ Q) w' → SortedK key C2 → AlikeK key (A2 ++ B2) C2 → SortPost key w0 blk off n P (A ++ B) Q (.returned (.tuple #[])) w' := fun C2 w' h g1 g2 => by
         have q := HQ.out
         have m2 := merge_two (A1 := A1) (A2 := A2) (B1 := B1) (B2 := B2) (C1 := C1) (C2 := C2) (by rw [← q.hA]; exact q.sA) (by rw [← q.hB]; exact q.sB) q.lo q.hi sC aC g1 g2
         rw [← q.hA, ← q.hB] at m2
         exact ⟨rfl, C1 ++ C2, h.to (by simp), m2.1, m2.2⟩
        have hr' : ¬ (mid < en ∧ en < b) → SortPost key w0 blk off n P (A ++ B) Q (.returned (.tuple #[])) wc := fun h => hfin (A2 ++ B2) wc (SC.to (by simp)) (HQ.out.right e2 e4 h) (AlikeK.refl _)
        have HR : Aside _ := hr
        have HR' : Aside _ := hr'
        have HF : Aside _ := hfin
        clear hr hr' hfin hlen lC aC sC SC hcut HQ
        generalize wc = wd at HR HR' ⊢
        by_cases d1 : mid < en
        ·
         have d1z : (mid : Int) < (en : Int) := by omega
         by_cases d2 : en < b
         ·
          have d2z : (en : Int) < (b : Int) := by omega
          have hrot := HR.out ⟨d1, d2⟩
          go_wp2_with fail
          refine hrot.mono ?_
          rintro e w2 ⟨rfl, C, S2, g1, g2⟩
          have hfin := HF.out C w2 S2 g1 g2
          go_wp2
          go_end0
          exact hfin
         ·
          have d2z : ¬ (en : Int) < (b : Int) := by omega
          have hfin := HR'.out (fun h => d2 h.2)
          go_wp2
          go_end0
          exact hfin
        ·
         have d1z : ¬ (mid : Int) < (en : Int) := by omega
         have hfin := HR'.out (fun h => d1 h.1)
         go_wp2
         go_end0
         exact hfin
 ·
  have hmmz : ¬ (mid : Int) < (m : Int) := by omega
  have zhi' : Hid (hi = m) := zhi
  have zlo' : Hid (lo = a) := zlo
  clear zhi zlo
  go_wp2
  go_loopg [20, 21] (hi - lo) (fun g1 vi vj wr => ∃ (s r : Nat), vi = .int .i64 s ∧ vj = .int .i64 r ∧ lo ≤ s ∧ s ≤ r ∧ r ≤ hi ∧ r - s ≤ g1 ∧ Aside (SL w0 blk off n D wr) ∧ Hid ((r < hi → key (D.getD (q - r) 0) < key (D.getD r 0)) ∧ (lo < s → key (D.getD (s - 1) 0) ≤ key (D.getD (q + 1 - s) 0))))
  case atStart => exact ⟨lo, hi, by rw [zlo'.out], by rw [zhi'.out], Nat.le_refl _, hl2, Nat.le_refl _, Nat.le_refl _, S0, fun h => absurd h (by omega), fun h => absurd h (by omega)⟩
  case round =>
   clear S0
   obtain ⟨s, r, rfl, rfl, hls, hsr, hrh, hg1, S1, H1⟩ := hrel
   by_cases hlt : s < r
   ·
    have hltz : (s : Int) < (r : Int) := by omega
    obtain ⟨c, hc0⟩ : ∃ h, h = (s + r) / 2 := ⟨_, rfl⟩
    have hz : ((s : Int) + (r : Int)) / 2 = (c : Int) := by omega
    have hc1 : s ≤ c := by omega
    have hc2 : c < r := by omega
    obtain ⟨t, ht⟩ : ∃ t, t + c = q := ⟨q - c, by omega⟩
    have zt : (q : Int) - (c : Int) = (t : Int) := by omega
    have zw : IntKind.i64.wrap ((q : Int) - (c : Int)) = (t : Int) := by rw [IntKind.wrap_i64]; omega
    obtain ⟨x, hx⟩ : ∃ y, y = D.getD t 0 := ⟨_, rfl⟩
    obtain ⟨y, hy⟩ : ∃ y, y = D.getD c 0 := ⟨_, rfl⟩
    have la := S1.out.cl R t (by omega)
    have lb := S1.out.cl R c (by omega)
    rw [← hx] at la
    rw [← hy] at lb
    have ba : (t : Int) < (n : Int) := by omega
    have bc : (c : Int) < (n : Int) := by omega
    have hc := S1.out.cmp HC.out (x := x) (y := y) (by rw [hx]; exact S1.out.at t (by omega)) (by rw [hy]; exact S1.out.at c (by omega))
    have HY : Hid (x = D.getD (q - c) 0 ∧ y = D.getD c 0) := ⟨by rw [hx, show q - c = t from by omega], hy⟩
    have HT : Hid (t + c = q) := ht
    clear hc0 hx hy ht
    by_cases hk : key x < key y
    ·
     have hv : cmpK key x y < 0 := cmpK_lt.2 hk
     have hd : decide (cmpK key x y < 0) = true := decide_eq_true hv
     have H2 : Hid ((c < hi → key (D.getD (q - c) 0) < key (D.getD c 0)) ∧ (lo < s → key (D.getD (s - 1) 0) ≤ key (D.getD (q + 1 - s) 0))) := ⟨fun _ => by rw [← HY.out.1, ← HY.out.2]; exact hk, H1.out.2⟩
     clear H1 hk
     go_wp2_with fail
     go_quiet (first | (go_at_fn g; refine Calls.quiet_of (hc _)))
     have S2 : Aside (SL w0 blk off n D (wr.drewN nq)) := S1.out.drewN nq
     clear la lb hc S1
     generalize wr.drewN nq = w2 at S2 ⊢
     clear nq
     go_wp2
     go_roundg (c - s)
     case measure => omega
     case rel => exact ⟨s, c, rfl, rfl, by omega, by omega, by omega, Nat.le_refl _, S2, H2⟩
    ·
     have hv : ¬ cmpK key x y < 0 := fun h => hk (cmpK_lt.1 h)
     have hd : decide (cmpK key x y < 0) = false := decide_eq_false hv
     have H2 : Hid ((r < hi → key (D.getD (q - r) 0) < key (D.getD r 0)) ∧ (lo < c + 1 → key (D.getD (c + 1 - 1) 0) ≤ key (D.getD (q + 1 - (c + 1)) 0))) := ⟨H1.out.1, fun _ => by rw [Nat.add_sub_cancel, show q + 1 - (c + 1) = q - c from by omega, ← HY.out.1, ← HY.out.2]; omega⟩
     clear H1 hk
     go_wp2_with fail
     go_quiet (first | (go_at_fn g; refine Calls.quiet_of (hc _)))
     have S2 : Aside (SL w0 blk off n D (wr.drewN nq)) := S1.out.drewN nq
     clear la lb hc S1
     generalize wr.drewN nq = w2 at S2 ⊢
     clear nq
     go_wp2
     go_roundg (r - (c + 1))
     case measure => omega
     case rel => exact ⟨c + 1, r, by first | rfl | go_num, rfl, by omega, by omega, by omega, Nat.le_refl _, S2, H2⟩
   ·
    have hltz : ¬ (s : Int) < (r : Int) := by omega
    obtain rfl : s = r := by omega
    obtain ⟨A1, A2, B1, B2, en, HQ0, e1, e2, e3, e4⟩ := HS.out s hls hrh H1.out.1 H1.out.2
    have HQ : Aside (SymAt key P A B Q D a m b mid s en A1 A2 B1 B2) := HQ0
    have zen : (mid : Int) + (m : Int) - (s : Int) = (en : Int) := by have := HQ0.en'; omega
    have hsm : s ≤ mid := by omega
    have hrot : s < m ∧ m < en → Calls Tryz.prog 154 #[.slice (some ⟨blk, off, none⟩) n cap, .int .i64 s, .int .i64 m, .int .i64 en, .func (.func g) #[] cb] wr fun e w' => e = .returned (.tuple #[]) ∧ SL w0 blk off n (P ++ (A1 ++ B1) ++ (A2 ++ B2 ++ Q)) w' := fun h =>
     rotate_any R (by omega) (.func (.func g) #[] cb) cap s m en wr S1.out HQ0.rot (by rw [List.length_append, HQ0.hP]; exact HQ0.lA) (HQ0.lens).1 HQ0.lB h.1 h.2
    have hstay : ¬ (s < m ∧ m < en) → SL w0 blk off n (P ++ (A1 ++ B1) ++ (A2 ++ B2 ++ Q)) wr := fun h => S1.out.to (HQ0.stay e2 e3 h)
    have HROT : Aside _ := hrot
    have HSTAY : Aside _ := hstay
    clear H1 HQ0 HS S1 hrot hstay hl1 hl2 hl3 hl4 hl5 hls hrh hg1 hltz
    go_upto_region 39 with fail
    go_cut [185] from 178 to 185 (fun c wx => c = .bool (decide (s < m ∧ m < en)) ∧ wx = wr)
    case first =>
     by_cases d1 : s < m
     ·
      have d1z : (s : Int) < (m : Int) := by omega
      by_cases d2 : m < en
      ·
       have d2z : (m : Int) < (en : Int) := by omega
       go_wp2_with fail
       go_meet
       case rel => exact ⟨by simp [d1, d2], rfl⟩
      ·
       have d2z : ¬ (m : Int) < (en : Int) := by omega
       go_wp2_with fail
       go_meet
       case rel => exact ⟨by simp [d2], rfl⟩
     ·
      have d1z : ¬ (s : Int) < (m : Int) := by omega
      go_wp2_with fail
      go_meet
      case rel => exact ⟨by simp [d1], rfl⟩
    case rest =>
     obtain ⟨rfl, rfl⟩ := hcut
     go_upto_if 185 with fail
     go_cut [191] from 185 to 191 (fun _ wx => Aside (SL w0 blk off n (P ++ (A1 ++ B1) ++ (A2 ++ B2 ++ Q)) wx))
     case first =>
      by_cases d : s < m ∧ m < en
      ·
       have dz : decide (s < m ∧ m < en) = true := decide_eq_true d
       have hrot := HROT.out d
       go_wp2_with fail
       refine hrot.mono ?_
       rintro e w2 ⟨rfl, S2⟩
       go_wp2_with fail
       go_meet
       case rel => exact S2
      ·
       have dz : decide (s < m ∧ m < en) = false := decide_eq_false d
       go_wp2_with fail
       go_meet
       case rel => exact HSTAY.out d
     case rest =>
      clear HROT HSTAY
      have hl : a < s ∧ s < mid → Calls Tryz.prog 118 #[.slice (some ⟨blk, off, none⟩) n cap, .int .i64 a, .int .i64 s, .int .i64 mid, .func (.func g) #[] cb] wc fun e w' => SortPost key w0 blk off n P (A1 ++ B1) (A2 ++ B2 ++ Q) e w' := fun h => by
       have q := HQ.out
       refine IH.out P A1 B1 (A2 ++ B2 ++ Q) _ cap a s mid wc (by omega) hcut.out (by simp) q.hP q.lA q.lens.2.1 h.1 h.2 ?_ ?_
       ·
        have := q.sA; rw [q.hA] at this; exact this.left
       ·
        have := q.sB; rw [q.hB] at this; exact this.left
      have hl' : ¬ (a < s ∧ s < mid) → LeftPost key w0 blk off n P (A1 ++ B1) (A2 ++ B2 ++ Q) wc := fun h => ⟨A1 ++ B1, hcut.out, HQ.out.left e1 e3 h, AlikeK.refl _, rfl⟩
      have hl2 : ∀ C w', SL w0 blk off n (P ++ C ++ (A2 ++ B2 ++ Q)) w' → C.length = (A1 ++ B1).length := fun C w' h => by
       have h1 := h.len
       have h2 := hcut.out.len
       simp only [List.length_append] at h1 h2 ⊢
       omega
      have HL : Aside _ := hl
      have HL' : Aside _ := hl'
      have HL2 : Aside _ := hl2
      clear hl hl' hl2 hcut
      generalize wc = wd at HL HL' ⊢
      go_upto_region 41 with fail
      go_cut [199] from 192 to 199 (fun c wx => c = .bool (decide (a < s ∧ s < mid)) ∧ wx = wd)
      case first =>
       by_cases d1 : a < s
       ·
        have d1z : (a : Int) < (s : Int) := by omega
        by_cases d2 : s < mid
        ·
         have d2z : (s : Int) < (mid : Int) := by omega
         go_wp2_with fail
         go_meet
         case rel => exact ⟨by simp [d1, d2], rfl⟩
        ·
         have d2z : ¬ (s : Int) < (mid : Int) := by omega
         go_wp2_with fail
         go_meet
         case rel => exact ⟨by simp [d2], rfl⟩
       ·
        have d1z : ¬ (a : Int) < (s : Int) := by omega
        go_wp2_with fail
        go_meet
        case rel => exact ⟨by simp [d1], rfl⟩
      case rest =>
       obtain ⟨rfl, rfl⟩ := hcut
       go_upto_if 199 with fail
       go_cut [205] from 199 to 205 (fun _ wx => Aside (LeftPost key w0 blk off n P (A1 ++ B1) (A2 ++ B2 ++ Q) wx))
       case first =>
        by_cases d : a < s ∧ s < mid
        ·
         have dz : decide (a < s ∧ s < mid) = true := decide_eq_true d
         have hrot := HL.out d
         go_wp2_with fail
         refine hrot.mono ?_
         rintro e w2 ⟨rfl, C, S2, g1, g2⟩
         have hcl := HL2.out C w2 S2
         go_wp2_with fail
         go_meet
         case rel => exact ⟨C, S2, g1, g2, hcl⟩
        ·
         have dz : decide (a < s ∧ s < mid) = false := decide_eq_false d
         go_wp2_with fail
         go_meet
         case rel => exact HL'.out d
       case rest =>
        clear HL HL' HL2
        obtain ⟨C1, SC, sC, aC, lC⟩ := hcut.out
        have hlen : (P ++ C1).length = mid := by
         have q := HQ.out
         have := q.lens
         have := q.hP
         have := q.lA
         rw [List.length_append] at lC ⊢
         omega
        have hr : mid < en ∧ en < b → Calls Tryz.prog 118 #[.slice (some ⟨blk, off, none⟩) n cap, .int .i64 mid, .int .i64 en, .int .i64 b, .func (.func g) #[] cb] wc fun e w' => SortPost key w0 blk off n (P ++ C1) (A2 ++ B2) Q e w' := fun h => by
         have q := HQ.out
         refine IH.out (P ++ C1) A2 B2 Q _ cap mid en b wc (by omega) SC (by simp) hlen q.lens.2.2.1 q.lens.2.2.2 h.1 h.2 ?_ ?_
         ·
          have := q.sA; rw [q.hA] at this; exact this.right
         ·
          have := q.sB; rw [q.hB] at this; exact this.right
        have hfin : ∀ C2 w', SL w0 blk off n ((P ++ C1) ++ C2 ++ Q) w' → SortedK key C2 → AlikeK key (A2 ++ B2) C2 → SortPost key w0 blk off n P (A ++ B) Q (.returned (.tuple #[])) w' := fun C2 w' h g1 g2 => by
         have q := HQ.out
         have m2 := merge_two (A1 := A1) (A2 := A2) (B1 := B1) (B2 := B2) (C1 := C1) (C2 := C2) (by rw [← q.hA]; exact q.sA) (by rw [← q.hB]; exact q.sB) q.lo q.hi sC aC g1 g2
         rw [← q.hA, ← q.hB] at m2
         exact ⟨rfl, C1 ++ C2, h.to (by simp), m2.1, m2.2⟩
        have hr' : ¬ (mid < en ∧ en < b) → SortPost key w0 blk off n P (A ++ B) Q (.returned (.tuple #[])) wc := fun h => hfin (A2 ++ B2) wc (SC.to (by simp)) (HQ.out.right e2 e4 h) (AlikeK.refl _)
        have HR : Aside _ := hr
        have HR' : Aside _ := hr'
        have HF : Aside _ := hfin
        clear hr hr' hfin hlen lC aC sC SC hcut HQ
        generalize wc = wd at HR HR' ⊢
        by_cases d1 : mid < en
        ·
         have d1z : (mid : Int) < (en : Int) := by omega
         by_cases d2 : en < b
         ·
          have d2z : (en : Int) < (b : Int) := by omega
          have hrot := HR.out ⟨d1, d2⟩
          go_wp2_with fail
          refine hrot.mono ?_
          rintro e w2 ⟨rfl, C, S2, g1, g2⟩
          have hfin := HF.out C w2 S2 g1 g2
          go_wp2
          go_end0
          exact hfin
         ·
          have d2z : ¬ (en : Int) < (b : Int) := by omega
          have hfin := HR'.out (fun h => d2 h.2)
          go_wp2
          go_end0
          exact hfin
        ·
         have d1z : ¬ (mid : Int) < (en : Int) := by omega
         have hfin := HR'.out (fun h => d1 h.1)
         go_wp2
         go_end0
         exact hfin
theorem symMerge_any {w0 : World} {blk off n : Nat} (R : RowN w0 blk off n) (hn : n < 2305843009213693952) {g : Nat} {cb : Array Value} {key : Int → Int} (eg : ∀ args w, (callFunc g args).run Tryz.prog w = .ok (.enter g args) w) (hC : CmpOk g cb key w0 blk off n) : ∀ N, SymSays key w0 blk off n g cb N := by
 intro N
 induction N with
 | zero => intro P A B Q D cap a m b w hN _ _ _ _ _ h1 h2; omega
 | succ N ih => exact symMerge_step R hn eg hC N ih
end Go.Proofs.YtfhpgmlfgjfknaaGreatDoor
namespace Go.Vf
structure StepA (key : Int → Int) (D0 D : List Int) (a : Nat) (Bs : List (List Int)) (X : List Int) : Prop where
 is : D = Bs.flatten ++ X
 each : ∀ B ∈ Bs, B.length = 20 ∧ SortedK key B
 len : Bs.flatten.length = a
 al : AlikeK key D0 D
structure StepB (key : Int → Int) (D0 D : List Int) (bs a : Nat) (Ds Bs : List (List Int)) (X : List Int) : Prop where
 is : D = Ds.flatten ++ Bs.flatten ++ X
 eachD : ∀ B ∈ Ds, B.length = 2 * bs ∧ SortedK key B
 each : ∀ B ∈ Bs, B.length = bs ∧ SortedK key B
 less : X.length < bs
 rest : SortedK key X
 len : Ds.flatten.length = a
 al : AlikeK key D0 D
theorem StepA.start {key : Int → Int} {D0 : List Int} : StepA key D0 D0 0 [] D0 := ⟨by simp, by simp, rfl, AlikeK.refl _⟩
theorem flatten_snoc {Bs : List (List Int)} {C : List Int} : (Bs ++ [C]).flatten = Bs.flatten ++ C := by simp
theorem StepA.next {key : Int → Int} {D0 D : List Int} {a : Nat} {Bs : List (List Int)} {X C : List Int} (h : StepA key D0 D a Bs X) (hs : SortedK key C) (ha : AlikeK key (X.take 20) C) (hl : C.length = 20) : StepA key D0 (Bs.flatten ++ C ++ X.drop 20) (a + 20) (Bs ++ [C]) (X.drop 20) := by
 refine ⟨by rw [flatten_snoc], ?_, by rw [flatten_snoc, List.length_append, h.len, hl], ?_⟩
 ·
  intro B hB
  rcases List.mem_append.1 hB with hB | hB
  ·
   exact h.each B hB
  ·
   rw [List.mem_singleton] at hB; rw [hB]; exact ⟨hl, hs⟩
 ·
  refine h.al.trans ?_
  rw [h.is, List.append_assoc]
  refine AlikeK.append (AlikeK.refl _) ?_
  have e := (List.take_append_drop 20 X).symm
  generalize X.drop 20 = Y at e ⊢
  rw [e]
  exact AlikeK.append ha (AlikeK.refl _)
theorem StepA.done {key : Int → Int} {D0 D : List Int} {a : Nat} {Bs : List (List Int)} {X C : List Int} (h : StepA key D0 D a Bs X) (hx : X.length < 20) (hs : SortedK key C) (ha : AlikeK key X C) (hl : C.length = X.length) : StepB key D0 (Bs.flatten ++ C) 20 0 [] Bs C := by
 refine ⟨by simp, by simp, h.each, by omega, hs, rfl, ?_⟩
 refine h.al.trans ?_
 rw [h.is]
 exact AlikeK.append (AlikeK.refl _) ha
theorem StepB.pair {key : Int → Int} {D0 D : List Int} {bs a : Nat} {Ds Bs : List (List Int)} {X : List Int} (h : StepB key D0 D bs a Ds Bs X) (hn : a + 2 * bs ≤ D.length) : ∃ B1 B2 Bs', Bs = B1 :: B2 :: Bs' ∧ B1.length = bs ∧ B2.length = bs ∧ SortedK key B1 ∧ SortedK key B2 := by
 have e : D.length = a + Bs.flatten.length + X.length := by rw [h.is, List.length_append, List.length_append, h.len]
 rw [blocks_len h.each] at e
 have hx := h.less
 rcases Bs with _ | ⟨B1, _ | ⟨B2, Bs⟩⟩
 ·
  exfalso; simp at e; omega
 ·
  exfalso; simp at e; omega
 ·
  exact ⟨B1, B2, Bs, rfl, (h.each B1 (by simp)).1, (h.each B2 (by simp)).1, (h.each B1 (by simp)).2, (h.each B2 (by simp)).2⟩
theorem StepB.next {key : Int → Int} {D0 D : List Int} {bs a : Nat} {Ds Bs : List (List Int)} {X B1 B2 C : List Int} (h : StepB key D0 D bs a Ds (B1 :: B2 :: Bs) X) (hs : SortedK key C) (ha : AlikeK key (B1 ++ B2) C) (hl : C.length = 2 * bs) : StepB key D0 (Ds.flatten ++ C ++ (Bs.flatten ++ X)) bs (a + 2 * bs) (Ds ++ [C]) Bs X := by
 refine ⟨by rw [flatten_snoc, List.append_assoc (Ds.flatten ++ C)], ?_, fun B hB => h.each B (by simp [hB]), h.less, h.rest, by rw [flatten_snoc, List.length_append, h.len, hl], ?_⟩
 ·
  intro B hB
  rcases List.mem_append.1 hB with hB | hB
  ·
   exact h.eachD B hB
  ·
   rw [List.mem_singleton] at hB; rw [hB]; exact ⟨hl, hs⟩
 ·
  refine h.al.trans ?_
  have e : D = Ds.flatten ++ (B1 ++ B2) ++ (Bs.flatten ++ X) := by rw [h.is]; simp
  rw [e]
  exact AlikeK.append (AlikeK.append (AlikeK.refl _) ha) (AlikeK.refl _)
theorem StepB.last {key : Int → Int} {D0 D : List Int} {bs a : Nat} {Ds Bs : List (List Int)} {X : List Int} (h : StepB key D0 D bs a Ds Bs X) (hn : ¬ a + 2 * bs ≤ D.length) (hm : a + bs < D.length) : ∃ B1, Bs = [B1] ∧ B1.length = bs ∧ SortedK key B1 ∧ X ≠ [] := by
 have e : D.length = a + Bs.flatten.length + X.length := by rw [h.is, List.length_append, List.length_append, h.len]
 rw [blocks_len h.each] at e
 have hx := h.less
 rcases Bs with _ | ⟨B1, _ | ⟨B2, Bs⟩⟩
 ·
  exfalso; simp at e; omega
 ·
  refine ⟨B1, rfl, (h.each B1 (by simp)).1, (h.each B1 (by simp)).2, fun e' => ?_⟩
  subst e'; simp at e; omega
 ·
  exfalso
  simp only [List.length_cons] at e
  have : 2 * bs ≤ (Bs.length + 1 + 1) * bs := Nat.mul_le_mul_right _ (by omega)
  omega
theorem StepB.turn {key : Int → Int} {D0 D : List Int} {bs a : Nat} {Ds : List (List Int)} {X B1 C : List Int} (h : StepB key D0 D bs a Ds [B1] X) (hb : B1.length = bs) (hs : SortedK key C) (ha : AlikeK key (B1 ++ X) C) (hl : C.length = (B1 ++ X).length) : StepB key D0 (Ds.flatten ++ C) (2 * bs) 0 [] Ds C := by
 have hx := h.less
 refine ⟨by simp, by simp, h.eachD, by rw [hl, List.length_append]; omega, hs, rfl, ?_⟩
 refine h.al.trans ?_
 have e : D = Ds.flatten ++ (B1 ++ X) := by rw [h.is]; simp
 rw [e]
 exact AlikeK.append (AlikeK.refl _) ha
theorem StepB.over {key : Int → Int} {D0 D : List Int} {bs a : Nat} {Ds Bs : List (List Int)} {X : List Int} (h : StepB key D0 D bs a Ds Bs X) (hm : ¬ a + bs < D.length) : ∃ C, StepB key D0 D (2 * bs) 0 [] Ds C := by
 have e : D.length = a + Bs.flatten.length + X.length := by rw [h.is, List.length_append, List.length_append, h.len]
 rw [blocks_len h.each] at e
 have hx := h.less
 rcases Bs with _ | ⟨B1, _ | ⟨B2, Bs⟩⟩
 ·
  exact ⟨X, by rw [h.is]; simp, by simp, h.eachD, by omega, h.rest, rfl, h.al⟩
 ·
  have hX : X = [] := List.length_eq_zero_iff.1 (by simp at e; omega)
  subst hX
  have h1 := h.each B1 (by simp)
  exact ⟨B1, by rw [h.is]; simp, by simp, h.eachD, by omega, h1.2, rfl, h.al⟩
 ·
  exfalso
  simp only [List.length_cons] at e
  have : 2 * bs ≤ (Bs.length + 1 + 1) * bs := Nat.mul_le_mul_right _ (by omega)
  omega
theorem StepB.end {key : Int → Int} {D0 D : List Int} {bs : Nat} {Bs : List (List Int)} {X : List Int} (h : StepB key D0 D bs 0 [] Bs X) (hn : D.length ≤ bs) : SortedK key D ∧ AlikeK key D0 D :=
 ⟨Blocks.done (Bs := Bs) (R := X) ⟨by rw [h.is]; simp, h.each, h.less, h.rest⟩ hn, h.al⟩
end Go.Vf
namespace Go.Proofs.YtfhpgmlfgjfknaaGreatDoor
open Go.Shelf Go.RowKit Go.Lib Go.Sort Go.Vf
def StablePost (key : Int → Int) (w0 : World) (blk off n : Nat) (D0 : List Int) (e : Ending) (w' : World) : Prop := e = .returned (.tuple #[]) ∧ ∃ C, SL w0 blk off n C w' ∧ SortedK key C ∧ AlikeK key D0 C
theorem SL.piece {w0 W : World} {blk off n : Nat} {D : List Int} (h : SL w0 blk off n D W) {P A Q C : List Int} {w' : World} (hD : D = P ++ A ++ Q) (g : SL w0 blk off n (P ++ C ++ Q) w') : C.length = A.length := by
 have h1 := h.len
 have h2 := g.len
 rw [hD] at h1
 simp only [List.length_append] at h1 h2
 omega
set_option maxHeartbeats 16000000 in
set_option maxRecDepth 100000 in
theorem stable_any {w0 : World} {blk off n : Nat} (R : RowN w0 blk off n) (hn : n < 1152921504606846976) {g : Nat} {cb : Array Value} {key : Int → Int} (eg : ∀ args w, (callFunc g args).run Tryz.prog w = .ok (.enter g args) w) (hC : CmpOk g cb key w0 blk off n) {D0 : List Int} (cap : Nat) (w : World)
  (S : SL w0 blk off n D0 w) :
  Calls Tryz.prog 75 #[.slice (some ⟨blk, off, none⟩) n cap, .int .i64 n, .func (.func g) #[] cb] w fun e w' => StablePost key w0 blk off n D0 e w' := by
 have S0 : Aside (SL w0 blk off n D0 w) := S
 have H0 : Hid (StepA key D0 D0 0 [] D0) := StepA.start
 have hI : ∀ (P A Q D : List Int) (a b : Nat) (w : World), SL w0 blk off n D w → D = P ++ A ++ Q → P.length = a → a + A.length = b → Calls Tryz.prog 117 #[.slice (some ⟨blk, off, none⟩) n cap, .int .i64 a, .int .i64 b, .func (.func g) #[] cb] w fun e w' => SortPost key w0 blk off n P A Q e w' := fun P A Q D a b w h1 h2 h3 h4 => insertion_any R (by omega) eg hC cap a b w h1 h2 h3 h4
 have hY : ∀ N, SymSays key w0 blk off n g cb N := symMerge_any R (by omega) eg hC
 have HI : Aside _ := hI
 have HY : Aside _ := hY
 clear S hI hY hC
 go_enter Tryz.func75, Tryz.ntmps75
 go_wp2
 go_loopg [7, 8] n (fun g1 va vb wr => ∃ (a b : Nat) (D : List Int) (Bs : List (List Int)) (X : List Int), va = .int .i64 a ∧ vb = .int .i64 b ∧ a ≤ n ∧ n - a ≤ g1 ∧ Hid (b = a + 20) ∧ Aside (SL w0 blk off n D wr) ∧ Hid (StepA key D0 D a Bs X))
 case atStart => exact ⟨0, 20, D0, [], D0, rfl, rfl, Nat.zero_le _, by omega, rfl, S0, H0⟩
 case round =>
  clear S0 H0
  obtain ⟨a, b, D, Bs, X, rfl, rfl, han, hg1, HB, S1, H1⟩ := hrel
  have hlen : a + X.length = n := by
   have h1 := S1.out.len
   rw [H1.out.is, List.length_append, H1.out.len] at h1
   exact h1
  have hb := HB.out
  by_cases hlt : b ≤ n
  ·
   have hltz : (b : Int) ≤ (n : Int) := by omega
   have hS := HI.out Bs.flatten (X.take 20) (X.drop 20) D a b wr S1.out (by rw [H1.out.is, List.append_assoc, List.take_append_drop]) H1.out.len (by rw [List.length_take]; omega)
   have hP : ∀ C w', SL w0 blk off n (Bs.flatten ++ C ++ X.drop 20) w' → SortedK key C → AlikeK key (X.take 20) C → StepA key D0 (Bs.flatten ++ C ++ X.drop 20) b (Bs ++ [C]) (X.drop 20) := fun C w' h1 h2 h3 => by
    have := S1.out.piece (P := Bs.flatten) (A := X.take 20) (Q := X.drop 20) (by rw [H1.out.is, List.append_assoc, List.take_append_drop]) h1
    rw [List.length_take] at this
    rw [hb]
    exact H1.out.next h2 h3 (by omega)
   have HP : Aside _ := hP
   obtain ⟨b2, hb2⟩ : ∃ q, q = b + 20 := ⟨_, rfl⟩
   have zb2 : (b : Int) + 20 = (b2 : Int) := by omega
   have HB2 : Hid (b2 = b + 20) := hb2
   clear hP S1 H1 hlen hb hb2
   go_wp2_with fail
   refine hS.mono ?_
   rintro e w2 ⟨rfl, C, S2, g1, g2⟩
   have H2 : Hid (StepA key D0 (Bs.flatten ++ C ++ X.drop 20) b (Bs ++ [C]) (X.drop 20)) := HP.out C w2 S2 g1 g2
   have S2 : Aside (SL w0 blk off n (Bs.flatten ++ C ++ X.drop 20) w2) := S2
   generalize Bs.flatten ++ C ++ X.drop 20 = D2 at S2 H2
   clear g1 g2 hS HP
   go_wp2
   go_roundg (n - b)
   case measure => have := HB.out; omega
   case rel => exact ⟨b, b2, D2, _, _, rfl, by first | rfl | (congr 1), hlt, Nat.le_refl _, HB2, S2, H2⟩
  ·
   have hltz : ¬ (b : Int) ≤ (n : Int) := by omega
   have hS := HI.out Bs.flatten X [] D a n wr S1.out (by rw [H1.out.is]; simp) H1.out.len hlen
   have hP : ∀ C w', SL w0 blk off n (Bs.flatten ++ C ++ []) w' → SortedK key C → AlikeK key X C → StepB key D0 (Bs.flatten ++ C ++ []) 20 0 [] Bs C := fun C w' h1 h2 h3 => by
    have := S1.out.piece (P := Bs.flatten) (A := X) (Q := []) (by rw [H1.out.is]; simp) h1
    rw [List.append_nil]
    exact H1.out.done (by omega) h2 h3 this
   have HP : Aside _ := hP
   clear hP S1 H1 hlen hb
   go_wp2_with fail
   refine hS.mono ?_
   rintro e w2 ⟨rfl, C, S2, g1, g2⟩
   have H2 : Hid (StepB key D0 (Bs.flatten ++ C ++ []) 20 0 [] Bs C) := HP.out C w2 S2 g1 g2
   have S2 : Aside (SL w0 blk off n (Bs.flatten ++ C ++ []) w2) := S2
   generalize Bs.flatten ++ C ++ [] = D2 at S2 H2
   clear g1 g2 hS HP HB
   go_wp2
   go_loopg [6] n (fun g2 vs wr => ∃ (bs : Nat) (D : List Int) (Bs : List (List Int)) (X : List Int), vs = .int .i64 bs ∧ 0 < bs ∧ n - bs ≤ g2 ∧ Aside (SL w0 blk off n D wr) ∧ Hid (StepB key D0 D bs 0 [] Bs X))
   case atStart => exact ⟨20, D2, Bs, C, rfl, by omega, by omega, S2, H2⟩
   case round =>
    clear S2 H2
    obtain ⟨bs, D, Bs, X, rfl, hbs, hg2, S1, H1⟩ := hrel
    by_cases hlt : bs < n
    ·
     have hltz : (bs : Int) < (n : Int) := by omega
     obtain ⟨b0, hb0⟩ : ∃ q, q = 2 * bs := ⟨_, rfl⟩
     have zb0 : 2 * (bs : Int) = (b0 : Int) := by omega
     have zb1 : (bs : Int) * 2 = (b0 : Int) := by omega
     have hb0n : b0 < 2 * n := by omega
     have HB0 : Hid (b0 = 2 * bs) := hb0
     clear hb0
     go_wp2
     go_loopg [7, 8] n (fun g3 va vb wr => ∃ (a b : Nat) (D : List Int) (Ds Bs : List (List Int)) (X : List Int), va = .int .i64 a ∧ vb = .int .i64 b ∧ a ≤ n ∧ n - a ≤ g3 ∧ Hid (b = a + 2 * bs) ∧ Aside (SL w0 blk off n D wr) ∧ Hid (StepB key D0 D bs a Ds Bs X))
     case atStart => exact ⟨0, b0, D, [], Bs, X, rfl, rfl, Nat.zero_le _, by omega, by rw [HB0.out]; show _ = _; omega, S1, H1⟩
     case round =>
      clear S1 H1
      obtain ⟨a, b, D, Ds, Bs, X, rfl, rfl, han, hg3, HB, S1, H1⟩ := hrel
      have hDn := S1.out.len
      have hb := HB.out
      obtain ⟨m, hm⟩ : ∃ q, q = a + bs := ⟨_, rfl⟩
      have zm : (a : Int) + (bs : Int) = (m : Int) := by omega
      by_cases hle : b ≤ n
      ·
       have hlez : (b : Int) ≤ (n : Int) := by omega
       obtain ⟨B1, B2, Bs', rfl, l1, l2, s1, s2⟩ := H1.out.pair (by omega)
       have hD : D = Ds.flatten ++ B1 ++ B2 ++ (Bs'.flatten ++ X) := by rw [H1.out.is]; simp
       have hS := HY.out (b - a) Ds.flatten B1 B2 (Bs'.flatten ++ X) D cap a m b wr (Nat.le_refl _) S1.out hD H1.out.len (by omega) (by omega) (by omega) (by omega) s1 s2
       have hP : ∀ C w', SL w0 blk off n (Ds.flatten ++ C ++ (Bs'.flatten ++ X)) w' → SortedK key C → AlikeK key (B1 ++ B2) C → StepB key D0 (Ds.flatten ++ C ++ (Bs'.flatten ++ X)) bs b (Ds ++ [C]) Bs' X := fun C w' h1 h2 h3 => by
        have := S1.out.piece (P := Ds.flatten) (A := B1 ++ B2) (Q := Bs'.flatten ++ X) (by rw [hD]; simp) h1
        rw [List.length_append] at this
        rw [hb]
        exact H1.out.next h2 h3 (by omega)
       have HP : Aside _ := hP
       obtain ⟨b2, hb2⟩ : ∃ q, q = b + 2 * bs := ⟨_, rfl⟩
       have zb2 : (b : Int) + (b0 : Int) = (b2 : Int) := by have := HB0.out; omega
       have HB2 : Hid (b2 = b + 2 * bs) := hb2
       have hb2n : b2 < 4 * n := by omega
       clear hP S1 H1 hDn hb hb2 hm hD l1 l2 s1 s2
       go_wp2_with fail
       refine hS.mono ?_
       rintro e w2 ⟨rfl, C, S2, g1, g2⟩
       have H2 : Hid (StepB key D0 (Ds.flatten ++ C ++ (Bs'.flatten ++ X)) bs b (Ds ++ [C]) Bs' X) := HP.out C w2 S2 g1 g2
       have S2 : Aside (SL w0 blk off n (Ds.flatten ++ C ++ (Bs'.flatten ++ X)) w2) := S2
       generalize Ds.flatten ++ C ++ (Bs'.flatten ++ X) = D2 at S2 H2
       clear g1 g2 hS HP
       go_wp2
       go_roundg (n - b)
       case measure => have := HB.out; omega
       case rel => exact ⟨b, b2, D2, _, _, _, rfl, by first | rfl | (congr 1), hle, Nat.le_refl _, HB2, S2, H2⟩
      ·
       have hlez : ¬ (b : Int) ≤ (n : Int) := by omega
       by_cases hmn : m < n
       ·
        have hmnz : (m : Int) < (n : Int) := by omega
        obtain ⟨B1, rfl, l1, s1, hX⟩ := H1.out.last (by omega) (by omega)
        have hD : D = Ds.flatten ++ B1 ++ X ++ [] := by rw [H1.out.is]; simp
        have hDl : n = a + bs + X.length := by rw [← hDn, hD]; simp only [List.length_append, H1.out.len, l1, List.length_nil]; omega
        have hX0 : 0 < X.length := List.length_pos_iff.2 hX
        have hS := HY.out (n - a) Ds.flatten B1 X [] D cap a m n wr (Nat.le_refl _) S1.out hD H1.out.len (by omega) (by omega) (by omega) (by omega) s1 H1.out.rest
        have hP : ∀ C w', SL w0 blk off n (Ds.flatten ++ C ++ []) w' → SortedK key C → AlikeK key (B1 ++ X) C → StepB key D0 (Ds.flatten ++ C ++ []) b0 0 [] Ds C := fun C w' h1 h2 h3 => by
         have := S1.out.piece (P := Ds.flatten) (A := B1 ++ X) (Q := []) (by rw [hD]; simp) h1
         rw [HB0.out, List.append_nil]
         exact H1.out.turn l1 h2 h3 this
        have HP : Aside _ := hP
        clear hP S1 H1 hDn hb hm hD l1 s1 hX hDl hX0
        go_wp2_with fail
        refine hS.mono ?_
        rintro e w2 ⟨rfl, C, S2, g1, g2⟩
        have H2 : Hid (StepB key D0 (Ds.flatten ++ C ++ []) b0 0 [] Ds C) := HP.out C w2 S2 g1 g2
        have S2 : Aside (SL w0 blk off n (Ds.flatten ++ C ++ []) w2) := S2
        generalize Ds.flatten ++ C ++ [] = D2 at S2 H2
        clear g1 g2 hS HP
        go_wp2
        go_roundg (n - b0)
        case measure => have := HB0.out; omega
        case rel => exact ⟨b0, D2, _, _, by first | rfl | (congr 1), by have := HB0.out; omega, Nat.le_refl _, S2, H2⟩
       ·
        have hmnz : ¬ (m : Int) < (n : Int) := by omega
        obtain ⟨C, hC2⟩ := H1.out.over (by omega)
        have H2 : Hid (StepB key D0 D b0 0 [] Ds C) := by rw [HB0.out]; exact hC2
        clear H1 hDn hb hm hC2
        go_wp2
        go_roundg (n - b0)
        case measure => have := HB0.out; omega
        case rel => exact ⟨b0, D, _, _, by first | rfl | (congr 1), by have := HB0.out; omega, Nat.le_refl _, S1, H2⟩
    ·
     have hltz : ¬ (bs : Int) < (n : Int) := by omega
     go_wp2
     go_end0
     exact ⟨rfl, D, S1.out, H1.out.end (by rw [S1.out.len]; omega)⟩
set_option maxRecDepth 100000 in
theorem sortStable_any {w0 : World} {blk off n : Nat} (R : RowN w0 blk off n) (hn : n < 1152921504606846976) {g : Nat} {cb : Array Value} {key : Int → Int} (eg : ∀ args w, (callFunc g args).run Tryz.prog w = .ok (.enter g args) w) (hC : CmpOk g cb key w0 blk off n) {D0 : List Int} (cap : Nat) (w : World)
  (S : SL w0 blk off n D0 w) :
  Calls Tryz.prog 45 #[.slice (some ⟨blk, off, none⟩) n cap, .func (.func g) #[] cb] w fun e w' => StablePost key w0 blk off n D0 e w' := by
 have h := stable_any R hn eg hC cap w S
 clear hC S
 go_enter Tryz.func45, Tryz.ntmps45
 go_wp2_with fail
 refine h.mono ?_
 rintro e w' ⟨rfl, h⟩
 go_wp2
 go_end0
 exact ⟨rfl, h⟩
end Go.Proofs.YtfhpgmlfgjfknaaGreatDoor
