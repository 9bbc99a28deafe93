/- Contracts and lemmas (nothing is claimed here). -/
import Derived.Test.YtkcnjnccdafbfaaGreatDoorJ8
namespace Go.Proofs.YtkcnjnccdafbfaaGreatDoor
open Go.Shelf Go.RowKit Go.Lib Go.Sort Go.Vf
set_option maxHeartbeats 4000000 in
set_option maxRecDepth 100000 in
theorem swapRange_any {w0 : World} {blk off n : Nat} (R : RowN w0 blk off n) (hn : n < 4611686018427387904) {T P U M V Q D : List Int} (fv : Value) (cap a b k : Nat) (w : World)
    (S : SL w0 blk off n D w) (hD : D = P ++ U ++ M ++ V ++ Q) (ha : P.length = a) (hu : U.length = k) (hv : V.length = k) (hb : a + k + M.length = b) (hT : T = P ++ V ++ M ++ U ++ Q) :
    Calls Tryz.prog 147 #[.slice (some ⟨blk, off, none⟩) n cap, .int .i64 a, .int .i64 b, .int .i64 k, fv] w fun e w' => e = .returned (.tuple #[]) ∧ SL w0 blk off n T w' := by
  have hle : b + k ≤ n := by rw [← S.len, hD]; simp only [List.length_append]; omega
  have S0 : Aside (SL w0 blk off n D w) := S
  have H0 : Hid (SwapAt P U M V Q 0 D) := SwapAt.start hD
  have HA : Hid (P.length = a) := ha
  have HU : Hid (U.length = k) := hu
  have HV : Hid (V.length = k) := hv
  have HB : Hid (a + k + M.length = b) := hb
  have hab : a + k ≤ b := by omega
  have HT : Hid (T = P ++ V ++ M ++ U ++ Q) := hT
  clear S hD ha hu hv hb hT
  go_enter Tryz.func147, Tryz.ntmps147
  go_wp2
  go_loopg [10] k (fun g1 vi wr => ∃ (i : Nat) (Di : List Int), vi = .int .i64 i ∧ i ≤ k ∧ k - i ≤ g1 ∧ Aside (SL w0 blk off n Di wr) ∧ Hid (SwapAt P U M V Q i Di))
  case atStart => exact ⟨0, D, rfl, Nat.zero_le _, by omega, S0, H0⟩
  case round =>
    clear S0 H0
    obtain ⟨i, Di, rfl, hik, hg1, S1, H1⟩ := hrel
    by_cases hlt : i < k
    · have hltz : (i : Int) < (k : Int) := by omega
      go_wp2_with fail
      obtain ⟨iN, hiN⟩ : ∃ q, q = a + i := ⟨_, rfl⟩
      obtain ⟨jN, hjN⟩ : ∃ q, q = b + i := ⟨_, rfl⟩
      have ea : ((a : Int) + (i : Int)).toNat = iN := by omega
      have pa : (0 : Int) ≤ (a : Int) + (i : Int) := by omega
      have ba : (a : Int) + (i : Int) < (n : Int) := by omega
      have ra : IntKind.i64.wrap ((a : Int) + (i : Int)) = (a : Int) + (i : Int) := by rw [IntKind.wrap_i64]; omega
      have ec : ((b : Int) + (i : Int)).toNat = jN := by omega
      have pc : (0 : Int) ≤ (b : Int) + (i : Int) := by omega
      have bc : (b : Int) + (i : Int) < (n : Int) := by omega
      have rc : IntKind.i64.wrap ((b : Int) + (i : Int)) = (b : Int) + (i : Int) := by rw [IntKind.wrap_i64]; omega
      obtain ⟨x, hx⟩ : ∃ x, x = Di.getD (a + i) 0 := ⟨_, rfl⟩
      obtain ⟨y, hy⟩ : ∃ x, x = Di.getD (b + i) 0 := ⟨_, rfl⟩
      have S2 : Aside (SL w0 blk off n (swapL Di (a + i) (b + i)) ((wr.setCell ⟨blk, off + iN, none⟩ (.int .i64 y)).setCell ⟨blk, off + jN, none⟩ (.int .i64 x)).drew) := by rw [hiN, hjN, hx, hy]; exact S1.out.swapped R (a + i) (b + i) (by omega) (by omega)
      have ca := S1.out.c1 R (a + i) (by omega)
      have cb := S1.out.c1 R (b + i) (by omega)
      have fa := S1.out.f1 R (a + i) (by omega)
      have fb := S1.out.f1 R (b + i) (by omega)
      obtain ⟨u, cc⟩ := S1.out.c2 R (a + i) (b + i) (by omega) (by omega) (.int .i64 y)
      rw [← hjN, ← hiN] at cc
      rw [← hx, ← hiN] at ca
      rw [← hy, ← hjN] at cb
      rw [← hiN] at fa
      rw [← hjN] at fb
      have H2 : Hid (SwapAt P U M V Q (i + 1) (swapL Di (a + i) (b + i))) := H1.out.step HU.out HV.out hlt HA.out HB.out
      clear S1 H1 hx hy hiN hjN
      go_wp2_with fail
      go_region
      clear ca cb cc fa fb
      generalize ((wr.setCell ⟨blk, off + iN, none⟩ (.int .i64 y)).setCell ⟨blk, off + jN, none⟩ (.int .i64 x)).drew = w2 at S2 ⊢
      clear ea ec
      go_wp2
      go_roundg (k - (i + 1))
      case measure => omega
      case rel => exact ⟨i + 1, _, by first | rfl | go_num | simp, by omega, Nat.le_refl _, S2, H2⟩
    · have hltz : ¬ (i : Int) < (k : Int) := by omega
      go_wp2
      go_end0
      obtain rfl : i = k := by omega
      exact ⟨rfl, S1.out.to ((H1.out.done HU.out HV.out).trans HT.out.symm)⟩
set_option maxHeartbeats 4000000 in
set_option maxRecDepth 100000 in
theorem rotate_any {w0 : World} {blk off n : Nat} (R : RowN w0 blk off n) (hn : n < 4611686018427387904) {T P0 X0 Y0 Q0 D0 : List Int} (fv : Value) (cap a m b : Nat) (w : World)
    (S : SL w0 blk off n D0 w) (hR : RotAt T P0 X0 Y0 Q0 D0) (ha : P0.length = a) (hm : a + X0.length = m) (hb : m + Y0.length = b) (hx : a < m) (hy : m < b) :
    Calls Tryz.prog 129 #[.slice (some ⟨blk, off, none⟩) n cap, .int .i64 a, .int .i64 m, .int .i64 b, fv] w fun e w' => e = .returned (.tuple #[]) ∧ SL w0 blk off n T w' := by
  have hle : b ≤ n := by rw [← S.len, hR.1]; simp only [List.length_append]; omega
  have S0 : Aside (SL w0 blk off n D0 w) := S
  have H0 : Hid (RotAt T P0 X0 Y0 Q0 D0 ∧ X0.length = m - a ∧ Y0.length = b - m ∧ P0.length + (m - a) = m) := ⟨hR, by omega, by omega, by omega⟩
  clear S hR ha hm hb
  have z1 : (m : Int) - (a : Int) = ((m - a : Nat) : Int) := by omega
  have z2 : (b : Int) - (m : Int) = ((b - m : Nat) : Int) := by omega
  go_enter Tryz.func129, Tryz.ntmps129
  go_wp2
  go_loopg [10, 11] (b - a) (fun g1 vi vj wr => ∃ (i j : Nat) (P X Y Q D : List Int), vi = .int .i64 i ∧ vj = .int .i64 j ∧ 0 < i ∧ 0 < j ∧ i ≤ m ∧ m + j ≤ n ∧ i + j ≤ g1 ∧ Aside (SL w0 blk off n D wr) ∧ Hid (RotAt T P X Y Q D ∧ X.length = i ∧ Y.length = j ∧ P.length + i = m))
  case atStart => exact ⟨m - a, b - m, P0, X0, Y0, Q0, D0, by first | rfl | rw [z1], by first | rfl | rw [z2], by omega, by omega, by omega, by omega, by omega, S0, H0⟩
  case round =>
    clear S0 H0 z1 z2
    obtain ⟨i, j, P, X, Y, Q, D, rfl, rfl, hi0, hj0, him, hjn, hg1, S1, H1⟩ := hrel
    obtain ⟨p, hp⟩ : ∃ p, p + i = m := ⟨m - i, by omega⟩
    have ep : (m : Int) - (i : Int) = (p : Int) := by omega
    by_cases hne : i = j
    · have hz : (i : Int) = (j : Int) := by omega
      have hS := swapRange_any R hn (T := T) (P := P) (U := X) (M := []) (V := Y) (Q := Q) fv cap p m i wr S1.out (by rw [H1.out.1.1]; simp) (by have := H1.out; omega) H1.out.2.1 (by have := H1.out; omega) (by simp; omega) (by rw [H1.out.1.2]; simp)
      subst hne
      clear S1 H1 hz
      go_wp2_with fail
      refine hS.mono ?_
      rintro e w2 ⟨rfl, S2⟩
      go_wp2
      go_end0
      exact ⟨rfl, S2⟩
    · have hz : ¬ (i : Int) = (j : Int) := by omega
      by_cases hgt : j < i
      · have hgz : (j : Int) < (i : Int) := by omega
        obtain ⟨h1, h2⟩ := H1.out.1.left j
        have hS := swapRange_any R hn (T := P ++ Y ++ X.drop j ++ X.take j ++ Q) (P := P) (U := X.take j) (M := X.drop j) (V := Y) (Q := Q) fv cap p m j wr S1.out h1 (by have := H1.out; omega) (by rw [List.length_take]; have := H1.out; omega) H1.out.2.2.1 (by rw [List.length_drop]; have := H1.out; omega) rfl
        have H2 : Hid (RotAt T (P ++ Y) (X.drop j) (X.take j) Q (P ++ Y ++ X.drop j ++ X.take j ++ Q) ∧ (X.drop j).length = i - j ∧ (X.take j).length = j ∧ (P ++ Y).length + (i - j) = m) := ⟨h2, by rw [List.length_drop]; have := H1.out; omega, by rw [List.length_take]; have := H1.out; omega, by rw [List.length_append]; have := H1.out; omega⟩
        generalize P ++ Y ++ X.drop j ++ X.take j ++ Q = D2 at hS H2
        clear S1 H1 h1 h2
        go_wp2_with fail
        refine hS.mono ?_
        rintro e w2 ⟨rfl, S2⟩
        have S2 : Aside _ := S2
        clear hS
        go_wp2
        go_roundg (i - j + j)
        case measure => omega
        case rel => exact ⟨i - j, j, _, _, _, _, D2, by first | rfl | (congr 1; omega), rfl, by omega, hj0, by omega, hjn, Nat.le_refl _, S2, H2⟩
      · have hgz : ¬ (j : Int) < (i : Int) := by omega
        obtain ⟨q, hq⟩ : ∃ q, q + i = m + j := ⟨m + j - i, by omega⟩
        have eq : (m : Int) + (j : Int) - (i : Int) = (q : Int) := by omega
        obtain ⟨h1, h2⟩ := H1.out.1.right (j - i)
        have hS := swapRange_any R hn (T := P ++ Y.drop (j - i) ++ Y.take (j - i) ++ X ++ Q) (P := P) (U := X) (M := Y.take (j - i)) (V := Y.drop (j - i)) (Q := Q) fv cap p q i wr S1.out h1 (by have := H1.out; omega) H1.out.2.1 (by rw [List.length_drop]; have := H1.out; omega) (by rw [List.length_take]; have := H1.out; omega) rfl
        have H2 : Hid (RotAt T P (Y.drop (j - i)) (Y.take (j - i)) (X ++ Q) (P ++ Y.drop (j - i) ++ Y.take (j - i) ++ X ++ Q) ∧ (Y.drop (j - i)).length = i ∧ (Y.take (j - i)).length = j - i ∧ P.length + i = m) := ⟨h2, by rw [List.length_drop]; have := H1.out; omega, by rw [List.length_take]; have := H1.out; omega, H1.out.2.2.2⟩
        generalize P ++ Y.drop (j - i) ++ Y.take (j - i) ++ X ++ Q = D2 at hS H2
        clear S1 H1 h1 h2
        go_wp2_with fail
        refine hS.mono ?_
        rintro e w2 ⟨rfl, S2⟩
        have S2 : Aside _ := S2
        clear hS
        go_wp2
        go_roundg (i + (j - i))
        case measure => omega
        case rel => exact ⟨i, j - i, _, _, _, _, D2, rfl, by first | rfl | (congr 1; omega), hi0, by omega, him, by omega, Nat.le_refl _, S2, H2⟩
end Go.Proofs.YtkcnjnccdafbfaaGreatDoor
namespace Go.Vf
theorem swapL_comm {D : List Int} {i j : Nat} (h : i ≠ j) : swapL D i j = swapL D j i := by
  unfold swapL
  rw [List.set_comm _ _ h]
def InsO (key : Int → Int) (P A Q : List Int) (a b i : Nat) (D : List Int) : Prop := ∃ S R, D = P ++ S ++ R ++ Q ∧ a + S.length = min i b ∧ SortedK key S ∧ AlikeK key A (S ++ R) ∧ (S ++ R).length = A.length
def InsI (key : Int → Int) (P A Q : List Int) (a i j : Nat) (D : List Int) : Prop := ∃ U x V R, D = P ++ U ++ [x] ++ V ++ R ++ Q ∧ a + U.length = j ∧ a + U.length + V.length = i ∧ SortedK key (U ++ V) ∧ (∀ v ∈ V, key x < key v) ∧ AlikeK key A (U ++ [x] ++ V ++ R) ∧ (U ++ [x] ++ V ++ R).length = A.length
theorem InsO.start {key : Int → Int} {P A Q D : List Int} {a b : Nat} (hD : D = P ++ A ++ Q) (hb : a + A.length = b) : InsO key P A Q a b (a + 1) D := by
  cases A with
  | nil => exact ⟨[], [], by simpa using hD, by simp at hb ⊢; omega, SortedK.nil, AlikeK.refl _, rfl⟩
  | cons x t => exact ⟨[x], t, by simpa using hD, by simp at hb ⊢; omega, SortedK.one, by simpa using AlikeK.refl _, by simp⟩
theorem InsO.done {key : Int → Int} {P A Q D : List Int} {a b i : Nat} (h : InsO key P A Q a b i D) (hb : a + A.length = b) (hi : b ≤ i) : ∃ C, D = P ++ C ++ Q ∧ SortedK key C ∧ AlikeK key A C := by
  obtain ⟨S, R, h1, h2, h3, h4, h5⟩ := h
  have hR : R = [] := List.length_eq_zero_iff.1 (by rw [List.length_append] at h5; omega)
  subst hR
  exact ⟨S, by simpa using h1, h3, by simpa using h4⟩
theorem InsO.enter {key : Int → Int} {P A Q D : List Int} {a b i : Nat} (h : InsO key P A Q a b i D) (hb : a + A.length = b) (hi : i < b) : InsI key P A Q a i i D := by
  obtain ⟨S, R, h1, h2, h3, h4, h5⟩ := h
  cases R with
  | nil => exfalso; simp at h5; omega
  | cons x t => exact ⟨S, x, [], t, by simpa using h1, by omega, by simp; omega, by simpa using h3, by simp, by simpa using h4, by simpa using h5⟩
theorem InsI.stop0 {key : Int → Int} {P A Q D : List Int} {a b i : Nat} (h : InsI key P A Q a i a D) (hi : i < b) : InsO key P A Q a b (i + 1) D := by
  obtain ⟨U, x, V, R, h1, h2, h3, h4, h5, h6, h7⟩ := h
  have hU : U = [] := List.length_eq_zero_iff.1 (by omega)
  subst hU
  refine ⟨[x] ++ V, R, by simpa using h1, by simp at h3 ⊢; omega, ?_, by simpa using h6, by simpa using h7⟩
  simpa using insert_done (U := []) (by simpa using h4) h5 (by simp)
theorem InsI.at {key : Int → Int} {P A Q D : List Int} {a i j : Nat} (h : InsI key P A Q a i j D) (ha : P.length = a) (hj : a < j) : ∃ U x y V R, D = P ++ (U ++ [y]) ++ [x] ++ V ++ R ++ Q ∧ a + (U ++ [y]).length = j ∧ a + (U ++ [y]).length + V.length = i ∧ SortedK key ((U ++ [y]) ++ V) ∧ (∀ v ∈ V, key x < key v) ∧ AlikeK key A ((U ++ [y]) ++ [x] ++ V ++ R) ∧ ((U ++ [y]) ++ [x] ++ V ++ R).length = A.length ∧ D.getD j 0 = x ∧ D.getD (j - 1) 0 = y := by
  obtain ⟨U, x, V, R, h1, h2, h3, h4, h5, h6, h7⟩ := h
  have hne : U ≠ [] := fun e => by subst e; simp at h2; omega
  obtain ⟨U', y, rfl⟩ : ∃ U' y, U = U' ++ [y] := ⟨U.dropLast, U.getLast hne, (List.dropLast_concat_getLast hne).symm⟩
  refine ⟨U', x, y, V, R, h1, h2, h3, h4, h5, h6, h7, ?_, ?_⟩
  · have e : D = (P ++ (U' ++ [y])) ++ [x] ++ (V ++ R ++ Q) := by rw [h1]; simp
    rw [e, getD_mid (by rw [List.length_append]; omega) (by rw [List.length_append]; simp; simp at h2; omega), List.length_append, show j - (P.length + (U' ++ [y]).length) = 0 from by omega]; rfl
  · rw [List.length_append, List.length_singleton] at h2
    have e : D = (P ++ U') ++ [y] ++ ([x] ++ V ++ R ++ Q) := by rw [h1]; simp
    rw [e, getD_mid (by rw [List.length_append]; omega) (by rw [List.length_append, List.length_singleton]; omega), List.length_append, show j - 1 - (P.length + U'.length) = 0 from by omega]; rfl
theorem InsI.stop {key : Int → Int} {P A Q D : List Int} {a b i j : Nat} (h : InsI key P A Q a i j D) (ha : P.length = a) (hj : a < j) (hi : i < b) (hk : ¬ key (D.getD j 0) < key (D.getD (j - 1) 0)) : InsO key P A Q a b (i + 1) D := by
  obtain ⟨U, x, y, V, R, h1, h2, h3, h4, h5, h6, h7, e1, e2⟩ := h.at ha hj
  rw [e1, e2] at hk
  refine ⟨(U ++ [y]) ++ [x] ++ V, R, by rw [h1]; simp, by simp at h2 h3 ⊢; omega, ?_, by simpa using h6, by simpa using h7⟩
  refine insert_done h4 h5 ?_
  intro u hu
  rcases List.mem_append.1 hu with hu | hu
  · have := (SortedK.left h4).across u hu y (by simp)
    omega
  · rw [List.mem_singleton] at hu; rw [hu]; omega
theorem InsI.go {key : Int → Int} {P A Q D : List Int} {a i j : Nat} (h : InsI key P A Q a i j D) (ha : P.length = a) (hj : a < j) (hk : key (D.getD j 0) < key (D.getD (j - 1) 0)) : InsI key P A Q a i (j - 1) (swapL D j (j - 1)) := by
  obtain ⟨U, x, y, V, R, h1, h2, h3, h4, h5, h6, h7, e1, e2⟩ := h.at ha hj
  rw [e1, e2] at hk
  obtain ⟨g1, g2, g3⟩ := insert_step (U := U) (V := V) h4 h5 hk
  rw [List.length_append, List.length_singleton] at h2 h3
  refine ⟨U, x, [y] ++ V, R, ?_, by omega, by simp; omega, g2, g1, ?_, by simp at h7 ⊢; omega⟩
  · have e : D = (P ++ U) ++ [y] ++ [] ++ [x] ++ (V ++ R ++ Q) := by rw [h1]; simp
    rw [swapL_comm (by omega), e, swapL_mid (by rw [List.length_append]; omega) (by rw [List.length_append]; simp; omega)]
    simp
  · exact h6.trans (AlikeK.append g3 (AlikeK.refl _))
end Go.Vf
namespace Go.Proofs.YtkcnjnccdafbfaaGreatDoor
open Go.Shelf Go.RowKit Go.Lib Go.Sort Go.Vf
def SortPost (key : Int → Int) (w0 : World) (blk off n : Nat) (P A Q : List Int) (e : Ending) (w' : World) : Prop := e = .returned (.tuple #[]) ∧ ∃ C, SL w0 blk off n (P ++ C ++ Q) w' ∧ SortedK key C ∧ AlikeK key A C
set_option maxHeartbeats 4000000 in
set_option maxRecDepth 100000 in
theorem insertion_any {w0 : World} {blk off n : Nat} (R : RowN w0 blk off n) (hn : n < 4611686018427387904) {g : Nat} {cb : Array Value} {key : Int → Int} (eg : ∀ args w, (callFunc g args).run Tryz.prog w = .ok (.enter g args) w) (hC : CmpOk g cb key w0 blk off n) {P A Q D : List Int} (cap a b : Nat) (w : World)
    (S : SL w0 blk off n D w) (hD : D = P ++ A ++ Q) (ha : P.length = a) (hb : a + A.length = b) :
    Calls Tryz.prog 105 #[.slice (some ⟨blk, off, none⟩) n cap, .int .i64 a, .int .i64 b, .func (.func g) #[] cb] w fun e w' => SortPost key w0 blk off n P A Q e w' := by
  have hle : b ≤ n := by rw [← S.len, hD]; simp only [List.length_append]; omega
  have hab : a ≤ b := by omega
  have S0 : Aside (SL w0 blk off n D w) := S
  have H0 : Hid (InsO key P A Q a b (a + 1) D) := InsO.start hD hb
  have HA : Hid (P.length = a) := ha
  have HB : Hid (a + A.length = b) := hb
  have HC : Aside _ := hC
  clear S hD ha hb hC
  go_enter Tryz.func105, Tryz.ntmps105
  go_wp2
  go_loopg [8] (b - a) (fun g1 vi wr => ∃ (i : Nat) (Di : List Int), vi = .int .i64 i ∧ a < i ∧ i ≤ b + 1 ∧ b + 1 - i ≤ g1 + 1 ∧ Aside (SL w0 blk off n Di wr) ∧ Hid (InsO key P A Q a b i Di))
  case atStart => exact ⟨a + 1, D, by go_num, by omega, by omega, by omega, S0, H0⟩
  case round =>
    clear S0 H0
    obtain ⟨i, Di, rfl, hai, hib, hg1, S1, H1⟩ := hrel
    by_cases hlt : i < b
    · have hltz : (i : Int) < (b : Int) := by omega
      go_wp2
      go_loopg [9] i (fun g2 vj wr2 => ∃ (j : Nat) (Dj : List Int), vj = .int .i64 j ∧ a ≤ j ∧ j ≤ i ∧ j ≤ g2 ∧ Aside (SL w0 blk off n Dj wr2) ∧ Hid (InsI key P A Q a i j Dj))
      case atStart => exact ⟨i, Di, rfl, by omega, Nat.le_refl _, Nat.le_refl _, S1, H1.out.enter HB.out hlt⟩
      case round =>
        clear S1 H1
        obtain ⟨j, Dj, rfl, haj, hji, hg2, SJ, HI⟩ := hrel
        by_cases hja : a < j
        · have hjaz : (a : Int) < (j : Int) := by omega
          obtain ⟨jp, hjp⟩ : ∃ q, q + 1 = j := ⟨j - 1, by omega⟩
          have zjp : (j : Int) = (jp : Int) + 1 := by omega
          have hjad : decide ((jp : Int) + 1 > (a : Int)) = true := decide_eq_true (by omega)
          have hjaz' : (a : Int) < (jp : Int) + 1 := by omega
          obtain ⟨iN, hiN⟩ : ∃ q, q = j := ⟨_, rfl⟩
          obtain ⟨jN, hjN⟩ : ∃ q, q = j - 1 := ⟨_, rfl⟩
          have ea : ((jp : Int) + 1).toNat = iN := by omega
          have pa : (0 : Int) ≤ (jp : Int) + 1 := by omega
          have ba : (jp : Int) + 1 < (n : Int) := by omega
          have ra : IntKind.i64.wrap ((jp : Int) + 1) = (jp : Int) + 1 := by rw [IntKind.wrap_i64]; omega
          have ec : ((jp : Int)).toNat = jN := by omega
          have pc : (0 : Int) ≤ (jp : Int) := by omega
          have bc : (jp : Int) < (n : Int) := by omega
          have rc : IntKind.i64.wrap ((jp : Int)) = (jp : Int) := by rw [IntKind.wrap_i64]; omega
          obtain ⟨x, hx⟩ : ∃ x, x = Dj.getD j 0 := ⟨_, rfl⟩
          obtain ⟨y, hy⟩ : ∃ x, x = Dj.getD (j - 1) 0 := ⟨_, rfl⟩
          have la := SJ.out.cl R j (by omega)
          have lb := SJ.out.cl R (j - 1) (by omega)
          rw [← hx, ← hiN] at la
          rw [← hy, ← hjN] at lb
          have hc := SJ.out.cmp HC.out (x := x) (y := y) (by rw [hx]; exact SJ.out.at j (by omega)) (by rw [hy]; exact SJ.out.at (j - 1) (by omega))
          by_cases hk : key x < key y
          · have hv : cmpK key x y < 0 := cmpK_lt.2 hk
            have hd : decide (cmpK key x y < 0) = true := decide_eq_true hv
            have HG : Hid (InsI key P A Q a i (j - 1) (swapL Dj j (j - 1))) := HI.out.go HA.out hja (by rw [← hx, ← hy]; exact hk)
            have HX : Hid (x = Dj.getD j 0 ∧ y = Dj.getD (j - 1) 0 ∧ iN = j ∧ jN = j - 1) := ⟨hx, hy, hiN, hjN⟩
            clear hx hy hiN hjN HI hk
            go_wp2_with fail
            go_quiet (first | (go_at_fn g; refine Calls.quiet_of (hc _)))
            have S2 : Aside (SL w0 blk off n Dj (wr.drewN nq)) := SJ.out.drewN nq
            clear la lb hc SJ
            generalize wr.drewN nq = w2 at S2 ⊢
            clear nq
            go_wp2_with fail
            have S3 : Aside (SL w0 blk off n (swapL Dj j (j - 1)) ((w2.setCell ⟨blk, off + iN, none⟩ (.int .i64 y)).setCell ⟨blk, off + jN, none⟩ (.int .i64 x)).drew) := by
              obtain ⟨e1, e2, e3, e4⟩ := HX.out
              rw [e1, e2, e3, e4]; exact S2.out.swapped R j (j - 1) (by omega) (by omega)
            obtain ⟨e1, e2, e3, e4⟩ := HX.out
            have ca : w2.cell? ⟨blk, off + iN, none⟩ = some (.int .i64 x) := by rw [e1, e3]; exact S2.out.c1 R j (by omega)
            have cb' : w2.cell? ⟨blk, off + jN, none⟩ = some (.int .i64 y) := by rw [e2, e4]; exact S2.out.c1 R (j - 1) (by omega)
            have fa : w2.frozen? ⟨blk, off + iN, none⟩ = false := by rw [e3]; exact S2.out.f1 R j (by omega)
            have fb : w2.frozen? ⟨blk, off + jN, none⟩ = false := by rw [e4]; exact S2.out.f1 R (j - 1) (by omega)
            obtain ⟨u, cc⟩ : ∃ u, (w2.setCell ⟨blk, off + iN, none⟩ (.int .i64 y)).cell? ⟨blk, off + jN, none⟩ = some u := by rw [e3, e4]; exact S2.out.c2 R j (j - 1) (by omega) (by omega) (.int .i64 y)
            clear e1 e2 e3 e4
            clear S2 HX
            go_wp2_with fail
            go_region
            clear ca cb' cc fa fb
            generalize ((w2.setCell ⟨blk, off + iN, none⟩ (.int .i64 y)).setCell ⟨blk, off + jN, none⟩ (.int .i64 x)).drew = w3 at S3 ⊢
            clear ea ec
            go_wp2
            go_roundg (j - 1)
            case measure => omega
            case rel => exact ⟨j - 1, _, by first | rfl | go_num | (congr 1; omega), by omega, by omega, Nat.le_refl _, S3, HG⟩
          · have hv : ¬ cmpK key x y < 0 := fun h => hk (cmpK_lt.1 h)
            have hd : decide (cmpK key x y < 0) = false := decide_eq_false hv
            have HG : Hid (InsO key P A Q a b (i + 1) Dj) := HI.out.stop HA.out hja hlt (by rw [← hx, ← hy]; exact hk)
            clear hx hy hiN hjN HI hk
            go_wp2_with fail
            go_quiet (first | (go_at_fn g; refine Calls.quiet_of (hc _)))
            have S2 : Aside (SL w0 blk off n Dj (wr.drewN nq)) := SJ.out.drewN nq
            clear la lb hc SJ
            generalize wr.drewN nq = w2 at S2 ⊢
            clear nq
            clear ea ec
            go_wp2
            go_roundg (b - (i + 1))
            case measure => omega
            case rel => exact ⟨i + 1, Dj, by go_num, by omega, by omega, by omega, S2, HG⟩
        · have hjaz : decide ((j : Int) > (a : Int)) = false := decide_eq_false (by omega)
          have hjaz' : ¬ (a : Int) < (j : Int) := by omega
          have HG : Hid (InsO key P A Q a b (i + 1) Dj) := by
            obtain rfl : j = a := by omega
            exact HI.out.stop0 hlt
          clear HI
          go_wp2_with fail
          go_region
          have S2 : Aside (SL w0 blk off n Dj wr.drew) := SJ.out.drew
          clear SJ
          generalize wr.drew = w2 at S2 ⊢
          go_wp2
          go_roundg (b - (i + 1))
          case measure => omega
          case rel => exact ⟨i + 1, Dj, by go_num, by omega, by omega, by omega, S2, HG⟩
    · have hltz : ¬ (i : Int) < (b : Int) := by omega
      go_wp2
      go_end0
      obtain ⟨C, h1, h2, h3⟩ := H1.out.done HB.out (by omega)
      exact ⟨rfl, C, S1.out.to h1, h2, h3⟩
end Go.Proofs.YtkcnjnccdafbfaaGreatDoor
