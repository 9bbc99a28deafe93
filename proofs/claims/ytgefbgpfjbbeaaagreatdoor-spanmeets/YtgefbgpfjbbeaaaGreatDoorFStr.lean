/- What the rows of schema's kinds do (contracts; nothing is claimed here). -/
import Derived.Test.YtgefbgpfjbbeaaaGreatDoorFSay
import Derived.Laws.EntriesVeiled
namespace Go.Proofs.YtgefbgpfjbbeaaaGreatDoor
open Go.RowKit Go.Vf

theorem below_set {W : World} {B j : Nat} (v : Value) : Below B W (W.setCell ⟨B, j, none⟩ v) := (Below.refl B W).setCell (Nat.le_refl _) v
theorem stripNothing_any (B : Nat) (w : World) : Calls Tryz.prog 172 #[.pointer (some ⟨B, 0, none⟩)] w fun e w' => e = .returned (.tuple #[]) ∧ w' = w := by
  go_enter Tryz.func172, Tryz.ntmps172
  go_wp2
  go_end0
  exact ⟨rfl, rfl⟩
theorem stripMost_any (B : Nat) (o : Own) (a : Option Addr) (n c : Nat) (w : World) (h : Blk w B 50 (cellsF o a n c)) : Calls Tryz.prog 180 #[.pointer (some ⟨B, 0, none⟩)] w fun e w' => e = .returned (.tuple #[]) ∧ Below B w w' ∧ Blk w' B 50 (cellsF { o with most := 0 } a n c) := by
  have c9 := h.rowF.c9
  have f9 := h.frozen 9
  simp only [Nat.zero_add] at c9
  have hn := h.set 9 (.int .i64 0)
  have hb := below_set (W := w) (B := B) (j := 9) (.int .i64 0)
  clear h
  go_enter Tryz.func180, Tryz.ntmps180
  go_wp2
  go_end0
  exact ⟨rfl, hb, hn⟩
theorem stripCollate_any (B : Nat) (o : Own) (a : Option Addr) (n c : Nat) (w : World) (h : Blk w B 50 (cellsF o a n c)) : Calls Tryz.prog 184 #[.pointer (some ⟨B, 0, none⟩)] w fun e w' => e = .returned (.tuple #[]) ∧ Below B w w' ∧ Blk w' B 50 (cellsF { o with str := 0, shf := false, bck := false } a n c) := by
  have c10 := h.rowF.c10
  have c11 := h.rowF.c11
  have c12 := h.rowF.c12
  simp only [Nat.zero_add] at c10 c11 c12
  have f10 := h.frozen 10
  have f11 := h.frozen 11
  have f12 := h.frozen 12
  have hn := ((h.set 10 (.int .i64 0)).set 11 (.bool false)).set 12 (.bool false)
  have hb := ((below_set (W := w) (B := B) (j := 10) (.int .i64 0)).trans (below_set (j := 11) (.bool false))).trans (below_set (j := 12) (.bool false))
  clear h
  go_enter Tryz.func184, Tryz.ntmps184
  go_wp2
  go_end0
  exact ⟨rfl, hb, hn⟩
theorem stripFields_any (B : Nat) (o : Own) (a : Option Addr) (n c : Nat) (w : World) (h : Blk w B 50 (cellsF o a n c)) : Calls Tryz.prog 187 #[.pointer (some ⟨B, 0, none⟩)] w fun e w' => e = .returned (.tuple #[]) ∧ Below B w w' ∧ Blk w' B 50 (cellsF o none 0 0) := by
  have c13 := h.rowF.c13
  have f13 := h.frozen 13
  simp only [Nat.zero_add] at c13
  have hn := h.set 13 (.slice none 0 0)
  have hb := below_set (W := w) (B := B) (j := 13) (.slice none 0 0)
  clear h
  go_enter Tryz.func187, Tryz.ntmps187
  go_wp2
  go_end0
  exact ⟨rfl, hb, hn⟩
theorem stripBounds_any (B : Nat) (o : Own) (a : Option Addr) (n c : Nat) (w : World) (h : Blk w B 50 (cellsF o a n c)) : Calls Tryz.prog 176 #[.pointer (some ⟨B, 0, none⟩)] w fun e w' => e = .returned (.tuple #[]) ∧ Below B w w' ∧ Blk w' B 50 (cellsF { o with bnd := false, ln := false, lm := ⟨#[]⟩, hn := false, hm := ⟨#[]⟩ } a n c) := by
  have c4 := h.rowF.c4
  have c5 := h.rowF.c5
  have c6 := h.rowF.c6
  have c7 := h.rowF.c7
  have c8 := h.rowF.c8
  simp only [Nat.zero_add] at c4 c5 c6 c7 c8
  have f4 := h.frozen 4
  have f5 := h.frozen 5
  have f6 := h.frozen 6
  have f7 := h.frozen 7
  have f8 := h.frozen 8
  have hn := ((((h.set 4 (.bool false)).set 5 (.bool false)).set 6 (.string ⟨#[]⟩)).set 7 (.bool false)).set 8 (.string ⟨#[]⟩)
  have hb := ((((below_set (W := w) (B := B) (j := 4) (.bool false)).trans (below_set (j := 5) (.bool false))).trans (below_set (j := 6) (.string ⟨#[]⟩))).trans (below_set (j := 7) (.bool false))).trans (below_set (j := 8) (.string ⟨#[]⟩))
  clear h
  go_enter Tryz.func176, Tryz.ntmps176
  go_wp2
  go_end0
  exact ⟨rfl, hb, hn⟩

theorem anyRight_any (o : Own) (a : Option Addr) (n c : Nat) (w : World) : Calls Tryz.prog 171 #[fV o a n c] w fun e w' => e = .returned (.bool true) ∧ Below w.heap.size w w' := by
  unfold fV
  have hb1 := (Below.refl w.heap.size w).alloc (Nat.le_refl _) (fC o a n c)
  unfold fC at hb1
  go_enter Tryz.func171, Tryz.ntmps171
  go_wp2
  go_ret
  exact ⟨rfl, hb1⟩
theorem mostRight_any (o : Own) (a : Option Addr) (n c : Nat) (w : World) : Calls Tryz.prog 179 #[fV o a n c] w fun e w' => e = .returned (.bool (decide (0 ≤ o.most) && decide (o.most ≤ 65536))) ∧ Below w.heap.size w w' := by
  unfold fV
  have hb1 := (Below.refl w.heap.size w).alloc (Nat.le_refl _) (fC o a n c)
  unfold fC at hb1
  cases h1 : decide (0 ≤ o.most) with
  | false =>
    go_enter Tryz.func179, Tryz.ntmps179
    go_wp2
    go_ret
    exact ⟨rfl, hb1⟩
  | true =>
    cases h2 : decide (o.most ≤ 65536) with
    | false =>
      go_enter Tryz.func179, Tryz.ntmps179
      go_wp2
      go_ret
      exact ⟨rfl, hb1⟩
    | true =>
      go_enter Tryz.func179, Tryz.ntmps179
      go_wp2
      go_ret
      exact ⟨rfl, hb1⟩
def colOk (o : Own) : Bool := decide (1 ≤ o.str) && decide (o.str ≤ 4) && (decide (o.str < 4) || o.shf)
theorem collateRight_any (o : Own) (a : Option Addr) (n c : Nat) (w : World) : Calls Tryz.prog 183 #[fV o a n c] w fun e w' => e = .returned (.bool (colOk o)) ∧ Below w.heap.size w w' := by
  unfold fV colOk
  have hb1 := (((Below.refl w.heap.size w).alloc (Nat.le_refl _) (fC o a n c))).alloc (by simp) (.cells #[.int .i64 o.str, .bool o.shf, .bool o.bck] 47)
  unfold fC at hb1
  cases h1 : decide (1 ≤ o.str) with
  | false =>
    go_enter Tryz.func183, Tryz.ntmps183
    go_wp2
    go_ret
    exact ⟨rfl, hb1⟩
  | true =>
    cases h2 : decide (o.str ≤ 4) with
    | false =>
      go_enter Tryz.func183, Tryz.ntmps183
      go_wp2
      go_ret
      exact ⟨rfl, hb1⟩
    | true =>
      cases h3 : decide (o.str < 4) with
      | true =>
        go_enter Tryz.func183, Tryz.ntmps183
        go_wp2
        go_ret
        exact ⟨rfl, hb1⟩
      | false =>
        cases h4 : o.shf with
        | true =>
          rw [h4] at hb1
          go_enter Tryz.func183, Tryz.ntmps183
          go_wp2
          go_ret
          exact ⟨rfl, hb1⟩
        | false =>
          rw [h4] at hb1
          go_enter Tryz.func183, Tryz.ntmps183
          go_wp2
          go_ret
          exact ⟨rfl, hb1⟩

end Go.Proofs.YtgefbgpfjbbeaaaGreatDoor
