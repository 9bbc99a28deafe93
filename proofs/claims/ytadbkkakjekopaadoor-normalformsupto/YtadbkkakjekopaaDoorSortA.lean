/- slices.swapRangeCmpFunc and rotateCmpFunc at ints (contracts; nothing is claimed here). -/
import Derived.Test.YtadbkkakjekopaaDoorSortK
namespace Go.Proofs.YtadbkkakjekopaaDoor
open Go.Shelf Go.RowKit Go.Lib Go.Sort Go.Vf

set_option maxHeartbeats 4000000 in
set_option maxRecDepth 100000 in
theorem swapRange_any {w0 : World} {blk off n : Nat} (R : RowN w0 blk off n) (hn : n < 4611686018427387904) {T P U M V Q D : List Int} (fv : Value) (cap a b k : Nat) (w : World)
    (S : SL w0 blk off n D w) (hD : D = P ++ U ++ M ++ V ++ Q) (ha : P.length = a) (hu : U.length = k) (hv : V.length = k) (hb : a + k + M.length = b) (hT : T = P ++ V ++ M ++ U ++ Q) :
    Calls Tryd.prog 82 #[.slice (some ⟨blk, off, none⟩) n cap, .int .i64 a, .int .i64 b, .int .i64 k, fv] w fun e w' => e = .returned (.tuple #[]) ∧ SL w0 blk off n T w' := by
  have hle : b + k ≤ n := by rw [← S.len, hD]; simp only [List.length_append]; omega
  have S0 : Aside (SL w0 blk off n D w) := S
  have H0 : Hid (SwapAt P U M V Q 0 D) := SwapAt.start hD
  have HA : Hid (P.length = a) := ha
  have HU : Hid (U.length = k) := hu
  have HV : Hid (V.length = k) := hv
  have HB : Hid (a + k + M.length = b) := hb
  have hab : a + k ≤ b := by omega
  have HT : Hid (T = P ++ V ++ M ++ U ++ Q) := hT
  clear S hD ha hu hv hb hT
  go_enter Tryd.func82, Tryd.ntmps82
  go_wp2
  go_loopg [10] k (fun g1 vi wr => ∃ (i : Nat) (Di : List Int), vi = .int .i64 i ∧ i ≤ k ∧ k - i ≤ g1 ∧ Aside (SL w0 blk off n Di wr) ∧ Hid (SwapAt P U M V Q i Di))
  case atStart => exact ⟨0, D, rfl, Nat.zero_le _, by omega, S0, H0⟩
  case round =>
    clear S0 H0
    obtain ⟨i, Di, rfl, hik, hg1, S1, H1⟩ := hrel
    by_cases hlt : i < k
    · have hltz : (i : Int) < (k : Int) := by omega
      go_wp2_with fail
      obtain ⟨iN, hiN⟩ : ∃ q, q = a + i := ⟨_, rfl⟩
      obtain ⟨jN, hjN⟩ : ∃ q, q = b + i := ⟨_, rfl⟩
      have ea : ((a : Int) + (i : Int)).toNat = iN := by omega
      have pa : (0 : Int) ≤ (a : Int) + (i : Int) := by omega
      have ba : (a : Int) + (i : Int) < (n : Int) := by omega
      have ra : IntKind.i64.wrap ((a : Int) + (i : Int)) = (a : Int) + (i : Int) := by rw [IntKind.wrap_i64]; omega
      have ec : ((b : Int) + (i : Int)).toNat = jN := by omega
      have pc : (0 : Int) ≤ (b : Int) + (i : Int) := by omega
      have bc : (b : Int) + (i : Int) < (n : Int) := by omega
      have rc : IntKind.i64.wrap ((b : Int) + (i : Int)) = (b : Int) + (i : Int) := by rw [IntKind.wrap_i64]; omega
      obtain ⟨x, hx⟩ : ∃ x, x = Di.getD (a + i) 0 := ⟨_, rfl⟩
      obtain ⟨y, hy⟩ : ∃ x, x = Di.getD (b + i) 0 := ⟨_, rfl⟩
      have S2 : Aside (SL w0 blk off n (swapL Di (a + i) (b + i)) ((wr.setCell ⟨blk, off + iN, none⟩ (.int .i64 y)).setCell ⟨blk, off + jN, none⟩ (.int .i64 x)).drew) := by rw [hiN, hjN, hx, hy]; exact S1.out.swapped R (a + i) (b + i) (by omega) (by omega)
      have ca := S1.out.c1 R (a + i) (by omega)
      have cb := S1.out.c1 R (b + i) (by omega)
      have fa := S1.out.f1 R (a + i) (by omega)
      have fb := S1.out.f1 R (b + i) (by omega)
      obtain ⟨u, cc⟩ := S1.out.c2 R (a + i) (b + i) (by omega) (by omega) (.int .i64 y)
      rw [← hjN, ← hiN] at cc
      rw [← hx, ← hiN] at ca
      rw [← hy, ← hjN] at cb
      rw [← hiN] at fa
      rw [← hjN] at fb
      have H2 : Hid (SwapAt P U M V Q (i + 1) (swapL Di (a + i) (b + i))) := H1.out.step HU.out HV.out hlt HA.out HB.out
      clear S1 H1 hx hy hiN hjN
      go_wp2_with fail
      go_region
      clear ca cb cc fa fb
      generalize ((wr.setCell ⟨blk, off + iN, none⟩ (.int .i64 y)).setCell ⟨blk, off + jN, none⟩ (.int .i64 x)).drew = w2 at S2 ⊢
      clear ea ec
      go_wp2
      go_roundg (k - (i + 1))
      case measure => omega
      case rel => exact ⟨i + 1, _, by first | rfl | go_num | simp, by omega, Nat.le_refl _, S2, H2⟩
    · have hltz : ¬ (i : Int) < (k : Int) := by omega
      go_wp2
      go_end0
      obtain rfl : i = k := by omega
      exact ⟨rfl, S1.out.to ((H1.out.done HU.out HV.out).trans HT.out.symm)⟩

set_option maxHeartbeats 4000000 in
set_option maxRecDepth 100000 in
theorem rotate_any {w0 : World} {blk off n : Nat} (R : RowN w0 blk off n) (hn : n < 4611686018427387904) {T P0 X0 Y0 Q0 D0 : List Int} (fv : Value) (cap a m b : Nat) (w : World)
    (S : SL w0 blk off n D0 w) (hR : RotAt T P0 X0 Y0 Q0 D0) (ha : P0.length = a) (hm : a + X0.length = m) (hb : m + Y0.length = b) (hx : a < m) (hy : m < b) :
    Calls Tryd.prog 76 #[.slice (some ⟨blk, off, none⟩) n cap, .int .i64 a, .int .i64 m, .int .i64 b, fv] w fun e w' => e = .returned (.tuple #[]) ∧ SL w0 blk off n T w' := by
  have hle : b ≤ n := by rw [← S.len, hR.1]; simp only [List.length_append]; omega
  have S0 : Aside (SL w0 blk off n D0 w) := S
  have H0 : Hid (RotAt T P0 X0 Y0 Q0 D0 ∧ X0.length = m - a ∧ Y0.length = b - m ∧ P0.length + (m - a) = m) := ⟨hR, by omega, by omega, by omega⟩
  clear S hR ha hm hb
  have z1 : (m : Int) - (a : Int) = ((m - a : Nat) : Int) := by omega
  have z2 : (b : Int) - (m : Int) = ((b - m : Nat) : Int) := by omega
  go_enter Tryd.func76, Tryd.ntmps76
  go_wp2
  go_loopg [10, 11] (b - a) (fun g1 vi vj wr => ∃ (i j : Nat) (P X Y Q D : List Int), vi = .int .i64 i ∧ vj = .int .i64 j ∧ 0 < i ∧ 0 < j ∧ i ≤ m ∧ m + j ≤ n ∧ i + j ≤ g1 ∧ Aside (SL w0 blk off n D wr) ∧ Hid (RotAt T P X Y Q D ∧ X.length = i ∧ Y.length = j ∧ P.length + i = m))
  case atStart => exact ⟨m - a, b - m, P0, X0, Y0, Q0, D0, by first | rfl | rw [z1], by first | rfl | rw [z2], by omega, by omega, by omega, by omega, by omega, S0, H0⟩
  case round =>
    clear S0 H0 z1 z2
    obtain ⟨i, j, P, X, Y, Q, D, rfl, rfl, hi0, hj0, him, hjn, hg1, S1, H1⟩ := hrel
    obtain ⟨p, hp⟩ : ∃ p, p + i = m := ⟨m - i, by omega⟩
    have ep : (m : Int) - (i : Int) = (p : Int) := by omega
    by_cases hne : i = j
    · have hz : (i : Int) = (j : Int) := by omega
      have hS := swapRange_any R hn (T := T) (P := P) (U := X) (M := []) (V := Y) (Q := Q) fv cap p m i wr S1.out (by rw [H1.out.1.1]; simp) (by have := H1.out; omega) H1.out.2.1 (by have := H1.out; omega) (by simp; omega) (by rw [H1.out.1.2]; simp)
      subst hne
      clear S1 H1 hz
      go_wp2_with fail
      refine hS.mono ?_
      rintro e w2 ⟨rfl, S2⟩
      go_wp2
      go_end0
      exact ⟨rfl, S2⟩
    · have hz : ¬ (i : Int) = (j : Int) := by omega
      by_cases hgt : j < i
      · have hgz : (j : Int) < (i : Int) := by omega
        obtain ⟨h1, h2⟩ := H1.out.1.left j
        have hS := swapRange_any R hn (T := P ++ Y ++ X.drop j ++ X.take j ++ Q) (P := P) (U := X.take j) (M := X.drop j) (V := Y) (Q := Q) fv cap p m j wr S1.out h1 (by have := H1.out; omega) (by rw [List.length_take]; have := H1.out; omega) H1.out.2.2.1 (by rw [List.length_drop]; have := H1.out; omega) rfl
        have H2 : Hid (RotAt T (P ++ Y) (X.drop j) (X.take j) Q (P ++ Y ++ X.drop j ++ X.take j ++ Q) ∧ (X.drop j).length = i - j ∧ (X.take j).length = j ∧ (P ++ Y).length + (i - j) = m) := ⟨h2, by rw [List.length_drop]; have := H1.out; omega, by rw [List.length_take]; have := H1.out; omega, by rw [List.length_append]; have := H1.out; omega⟩
        generalize P ++ Y ++ X.drop j ++ X.take j ++ Q = D2 at hS H2
        clear S1 H1 h1 h2
        go_wp2_with fail
        refine hS.mono ?_
        rintro e w2 ⟨rfl, S2⟩
        have S2 : Aside _ := S2
        clear hS
        go_wp2
        go_roundg (i - j + j)
        case measure => omega
        case rel => exact ⟨i - j, j, _, _, _, _, D2, by first | rfl | (congr 1; omega), rfl, by omega, hj0, by omega, hjn, Nat.le_refl _, S2, H2⟩
      · have hgz : ¬ (j : Int) < (i : Int) := by omega
        obtain ⟨q, hq⟩ : ∃ q, q + i = m + j := ⟨m + j - i, by omega⟩
        have eq : (m : Int) + (j : Int) - (i : Int) = (q : Int) := by omega
        obtain ⟨h1, h2⟩ := H1.out.1.right (j - i)
        have hS := swapRange_any R hn (T := P ++ Y.drop (j - i) ++ Y.take (j - i) ++ X ++ Q) (P := P) (U := X) (M := Y.take (j - i)) (V := Y.drop (j - i)) (Q := Q) fv cap p q i wr S1.out h1 (by have := H1.out; omega) H1.out.2.1 (by rw [List.length_drop]; have := H1.out; omega) (by rw [List.length_take]; have := H1.out; omega) rfl
        have H2 : Hid (RotAt T P (Y.drop (j - i)) (Y.take (j - i)) (X ++ Q) (P ++ Y.drop (j - i) ++ Y.take (j - i) ++ X ++ Q) ∧ (Y.drop (j - i)).length = i ∧ (Y.take (j - i)).length = j - i ∧ P.length + i = m) := ⟨h2, by rw [List.length_drop]; have := H1.out; omega, by rw [List.length_take]; have := H1.out; omega, H1.out.2.2.2⟩
        generalize P ++ Y.drop (j - i) ++ Y.take (j - i) ++ X ++ Q = D2 at hS H2
        clear S1 H1 h1 h2
        go_wp2_with fail
        refine hS.mono ?_
        rintro e w2 ⟨rfl, S2⟩
        have S2 : Aside _ := S2
        clear hS
        go_wp2
        go_roundg (i + (j - i))
        case measure => omega
        case rel => exact ⟨i, j - i, _, _, _, _, D2, rfl, by first | rfl | (congr 1; omega), hi0, by omega, him, by omega, Nat.le_refl _, S2, H2⟩
end Go.Proofs.YtadbkkakjekopaaDoor
