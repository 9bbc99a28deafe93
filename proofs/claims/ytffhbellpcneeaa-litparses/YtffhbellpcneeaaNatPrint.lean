/- What nat.Print does (a contract; nothing is claimed here). -/
import Derived.Test.YtffhbellpcneeaaJ4
namespace Go.Proofs.Ytffhbellpcneeaa
open Go.RowKit Go.Vf

def printL (b : Bool) (m : List UInt8) : List UInt8 := if m.isEmpty then [48] else if b then 45 :: (decD (hvl m)).reverse else (decD (hvl m)).reverse
def printE (b : Bool) (m : List UInt8) : Ending := .returned (.tuple #[.string (bs (if chk b m = 0 then printL b m else [])), .int .i64 (chk b m)])

theorem chk_zero {b : Bool} {m : List UInt8} (h : chk b m = 0) : m.length ≤ 255 ∧ m.head? ≠ some 0 ∧ (m = [] → b = false) := by
  unfold chk at h
  split at h
  · exact absurd h (by decide)
  · split at h
    · exact absurd h (by decide)
    · rename_i h1 h2
      simp at h2
      refine ⟨by omega, h2.2, fun h3 => by simpa [h3] using h2.1⟩

theorem hvl_pos {m : List UInt8} (h : m.head? ≠ some 0) (h0 : m ≠ []) : hvl m ≠ 0 := lval_pos (by rw [List.getLast?_reverse]; exact h) (by simpa using h0)

/-- Decimal digits of a magnitude of at most 255 bytes: not too many. -/
theorem decD_length_le : ∀ (k n : Nat), n < 10 ^ k → (decD n).length ≤ k
  | 0, n, h => by
    have : n = 0 := by simpa using h
    subst this; rw [decD_zero]; simp
  | k + 1, n, h => by
    by_cases h0 : n = 0
    · subst h0; rw [decD_zero]; simp
    · rw [decD_pos h0, List.length_cons]
      have := decD_length_le k (n / 10) (by rw [Nat.pow_succ] at h; omega)
      omega
theorem decD_three (k : Nat) : ∀ (n : Nat), n < 1000 ^ k → (decD n).length ≤ 3 * k := by
  intro n h
  refine decD_length_le _ _ ?_
  rw [Nat.pow_mul]
  exact h
theorem decD_bound {m : List UInt8} (h : m.length ≤ 255) : (decD (hvl m)).length ≤ 765 := by
  have h1 := lval_lt m.reverse
  rw [List.length_reverse] at h1
  have h2 : 256 ^ m.length ≤ 1000 ^ m.length := Nat.pow_le_pow_left (by decide) _
  have h3 := decD_three m.length (hvl m) (Nat.lt_of_lt_of_le h1 h2)
  omega

set_option maxHeartbeats 1000000 in
theorem print_any (b : Bool) (m : ByteArray) (hm : m.size ≤ 17179869184) (w : World) :
    Calls Try.prog 64 #[numV b m] w fun e w' => e = printE b m.data.toList ∧ Below w.heap.size w w' := by
  have hl : m.data.toList.length = m.size := (Lib.size_eq m).symm
  by_cases hc : chk b m.data.toList = 0
  · obtain ⟨h255, hhd, hnb⟩ := chk_zero hc
    by_cases h0 : m.size = 0
    · have hn : m.data.toList = [] := List.eq_nil_of_length_eq_zero (by omega)
      have he : m.toList.isEmpty = true := by rw [ByteArray.toList_eq, hn]; rfl
      have hR : printE b m.data.toList = .returned (.tuple #[.string (bs [48]), .int .i64 0]) := by rw [printE, hc, if_pos rfl, hn]; rfl
      rw [hR]
      have HC : Hid (chk b m.data.toList = 0) := hc
      clear hR hnb hhd h255 hn hc hl h0
      go_enter Try.func64, Try.ntmps64
      go_wp2_with fail
      refine (check_any b m hm _).mono ?_
      rintro e w1 ⟨rfl, hb1⟩
      obtain ⟨hc0, hc1, hc2⟩ := box_num hb1 (h := w.heap.size) (v0 := .bool b) (v1 := .string m) ⟨by simp, by simp, by simp⟩
      rw [HC.out]
      go_wp2
      go_ret2
      exact ⟨rfl, below_box hb1⟩
    · have hne : m.data.toList ≠ [] := fun h => h0 (by rw [← hl, h]; rfl)
      have he2 : m.data.toList.isEmpty = false := by simpa using hne
      have he : m.toList.isEmpty = false := by rw [ByteArray.toList_eq]; exact he2
      have hdb := decD_bound h255
      have hpos := hvl_pos hhd hne
      obtain ⟨M, hM⟩ : ∃ M, hvl m.data.toList = M := ⟨_, rfl⟩
      have HM : Hid (hvl m.data.toList = M) := hM
      rw [hM] at hdb hpos
      have hsz : (bs (decD M).reverse).size ≤ 765 := by rw [bs_size, List.length_reverse]; exact hdb
      clear hnb hdb
      cases b
      · have hR : printE false m.data.toList = .returned (.tuple #[.string (bs (decD M).reverse), .int .i64 0]) := by rw [printE, hc, if_pos rfl, printL, he2, hM]; rfl
        rw [hR]
        clear hR
        go_enter Try.func64, Try.ntmps64
        go_wp2_with fail
        refine (check_any false m hm _).mono ?_
        rintro e w1 ⟨rfl, hb1⟩
        obtain ⟨hc0, hc1, hc2⟩ := box_num hb1 (h := w.heap.size) (v0 := .bool false) (v1 := .string m) ⟨by simp, by simp, by simp⟩
        rw [hc]
        clear hc hM
        go_wp2_with fail
        refine (writeDigits_any m (by omega) M HM hpos hhd _).mono ?_
        rintro e w2 ⟨rfl, hb2⟩
        go_wp2
        go_ret2
        exact ⟨rfl, below_next (below_box hb1) hb2⟩
      · have hR : printE true m.data.toList = .returned (.tuple #[.string (⟨#[45]⟩ ++ bs (decD M).reverse), .int .i64 0]) := by
          rw [printE, hc, if_pos rfl, printL, he2, hM]
          have : (⟨#[45]⟩ : ByteArray) ++ bs (decD M).reverse = bs (45 :: (decD M).reverse) := bs_append [45] _
          rw [this]
          rfl
        rw [hR]
        clear hR
        go_enter Try.func64, Try.ntmps64
        go_wp2_with fail
        refine (check_any true m hm _).mono ?_
        rintro e w1 ⟨rfl, hb1⟩
        obtain ⟨hc0, hc1, hc2⟩ := box_num hb1 (h := w.heap.size) (v0 := .bool true) (v1 := .string m) ⟨by simp, by simp, by simp⟩
        rw [hc]
        clear hc hM
        go_wp2_with fail
        refine (writeDigits_any m (by omega) M HM hpos hhd _).mono ?_
        rintro e w2 ⟨rfl, hb2⟩
        go_wp2
        go_ret2
        exact ⟨rfl, below_next (below_box hb1) hb2⟩
  · have hR : printE b m.data.toList = .returned (.tuple #[.string (bs []), .int .i64 (chk b m.data.toList)]) := by simp [printE, hc]
    rw [hR]
    clear hR hl
    generalize hcc : chk b m.data.toList = c at hc ⊢
    go_enter Try.func64, Try.ntmps64
    go_wp2_with fail
    refine (check_any b m hm _).mono ?_
    rintro e w1 ⟨rfl, hb1⟩
    rw [hcc]
    go_wp2
    go_ret2
    exact ⟨rfl, below_box hb1⟩
end Go.Proofs.Ytffhbellpcneeaa
