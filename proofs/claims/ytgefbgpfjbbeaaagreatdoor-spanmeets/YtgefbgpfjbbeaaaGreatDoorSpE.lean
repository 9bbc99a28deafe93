/- What the next field's isEscaped, tag, payload do with the document's example (contracts; nothing is claimed here). -/
import Derived.Test.YtgefbgpfjbbeaaaGreatDoorSpD
namespace Go.Proofs.YtgefbgpfjbbeaaaGreatDoor
open Go.RowKit Go.Vf

theorem cN {W : World} {h : Nat} {t : TypeId} {a0 a1 a2 a3 a4 a5 a6 a7 a8 a9 a10 a11 a12 a13 a14 a15 a16 : Value} (hb : Blk W h t #[a0, a1, a2, a3, a4, a5, a6, a7, a8, a9, a10, a11, a12, a13, a14, a15, a16]) : (W.cell? ⟨h, 0, none⟩ = some a0 ∧ W.cell? ⟨h, 1, none⟩ = some a1 ∧ W.cell? ⟨h, 2, none⟩ = some a2 ∧ W.cell? ⟨h, 3, none⟩ = some a3 ∧ W.cell? ⟨h, 4, none⟩ = some a4 ∧ W.cell? ⟨h, 5, none⟩ = some a5 ∧ W.cell? ⟨h, 6, none⟩ = some a6 ∧ W.cell? ⟨h, 7, none⟩ = some a7 ∧ W.cell? ⟨h, 8, none⟩ = some a8 ∧ W.cell? ⟨h, 9, none⟩ = some a9 ∧ W.cell? ⟨h, 10, none⟩ = some a10 ∧ W.cell? ⟨h, 11, none⟩ = some a11 ∧ W.cell? ⟨h, 12, none⟩ = some a12 ∧ W.cell? ⟨h, 13, none⟩ = some a13 ∧ W.cell? ⟨h, 14, none⟩ = some a14 ∧ W.cell? ⟨h, 15, none⟩ = some a15 ∧ W.cell? ⟨h, 16, none⟩ = some a16) :=
  ⟨hb.cell 0, hb.cell 1, hb.cell 2, hb.cell 3, hb.cell 4, hb.cell 5, hb.cell 6, hb.cell 7, hb.cell 8, hb.cell 9, hb.cell 10, hb.cell 11, hb.cell 12, hb.cell 13, hb.cell 14, hb.cell 15, hb.cell 16⟩
set_option maxHeartbeats 2000000 in
set_option maxRecDepth 20000 in
theorem isEscaped_one (tb : Nat) (w : World) : Calls Tryz.prog 26 #[.agg #[.pointer (some ⟨tb, 0, none⟩), .string ⟨#[98]⟩, .int .u8 3, .bool false, .int .u8 0, .bool false, .bool false, .string ⟨#[]⟩, .bool false, .string ⟨#[]⟩, .int .i64 9, .int .i64 0, .bool false, .bool false, .slice none 0 0, .int .i64 1, .string ⟨#[18, 129, 1]⟩]] w fun e w' => e = .returned (.bool true) ∧ Below w.heap.size w w' := by
  have hb1 := (Below.refl w.heap.size w).alloc (Nat.le_refl _) (.cells #[.pointer (some ⟨tb, 0, none⟩), .string ⟨#[98]⟩, .int .u8 3, .bool false, .int .u8 0, .bool false, .bool false, .string ⟨#[]⟩, .bool false, .string ⟨#[]⟩, .int .i64 9, .int .i64 0, .bool false, .bool false, .slice none 0 0, .int .i64 1, .string ⟨#[18, 129, 1]⟩] 76)
  have hN1 := Blk.new w 76 #[.pointer (some ⟨tb, 0, none⟩), .string ⟨#[98]⟩, .int .u8 3, .bool false, .int .u8 0, .bool false, .bool false, .string ⟨#[]⟩, .bool false, .string ⟨#[]⟩, .int .i64 9, .int .i64 0, .bool false, .bool false, .slice none 0 0, .int .i64 1, .string ⟨#[18, 129, 1]⟩]
  obtain ⟨c0, c1, c2, c3, c4, c5, c6, c7, c8, c9, c10, c11, c12, c13, c14, c15, c16⟩ := cN hN1
  clear hN1
  go_enter Tryz.func26, Tryz.ntmps26
  go_wp2_with fail
  go_ret
  exact ⟨rfl, hb1⟩
set_option maxHeartbeats 2000000 in
set_option maxRecDepth 20000 in
theorem tag_one (tb : Nat) (w : World) : Calls Tryz.prog 27 #[.agg #[.pointer (some ⟨tb, 0, none⟩), .string ⟨#[98]⟩, .int .u8 3, .bool false, .int .u8 0, .bool false, .bool false, .string ⟨#[]⟩, .bool false, .string ⟨#[]⟩, .int .i64 9, .int .i64 0, .bool false, .bool false, .slice none 0 0, .int .i64 1, .string ⟨#[18, 129, 1]⟩]] w fun e w' => e = .returned (.string ⟨#[19]⟩) ∧ Below w.heap.size w w' := by
  have hb1 := (Below.refl w.heap.size w).alloc (Nat.le_refl _) (.cells #[.pointer (some ⟨tb, 0, none⟩), .string ⟨#[98]⟩, .int .u8 3, .bool false, .int .u8 0, .bool false, .bool false, .string ⟨#[]⟩, .bool false, .string ⟨#[]⟩, .int .i64 9, .int .i64 0, .bool false, .bool false, .slice none 0 0, .int .i64 1, .string ⟨#[18, 129, 1]⟩] 76)
  have hN1 := Blk.new w 76 #[.pointer (some ⟨tb, 0, none⟩), .string ⟨#[98]⟩, .int .u8 3, .bool false, .int .u8 0, .bool false, .bool false, .string ⟨#[]⟩, .bool false, .string ⟨#[]⟩, .int .i64 9, .int .i64 0, .bool false, .bool false, .slice none 0 0, .int .i64 1, .string ⟨#[18, 129, 1]⟩]
  obtain ⟨c0, c1, c2, c3, c4, c5, c6, c7, c8, c9, c10, c11, c12, c13, c14, c15, c16⟩ := cN hN1
  have hle := fun W => fitLeastB W
  have hpu := fun W => fieldPutB tb W
  unfold fV at hle hpu
  simp only [oB] at hle hpu
  go_enter Tryz.func27, Tryz.ntmps27
  go_wp2_with fail
  refine (hle _).mono ?_
  rintro _ w2 ⟨rfl, hb2⟩
  have hb02 := hb1.trans (hb2.mono hb1.size)
  have hN2 := hN1.old hb2
  clear c0 c1 c2 c3 c4 c5 c6 c7 c8 c9 c10 c11 c12 c13 c14 c15 c16 hb1 hb2 hN1 hle
  obtain ⟨c0, c1, c2, c3, c4, c5, c6, c7, c8, c9, c10, c11, c12, c13, c14, c15, c16⟩ := cN hN2
  go_wp2_with fail
  refine (hpu _).mono ?_
  rintro _ w3 ⟨rfl, hb3⟩
  have hb03 := hb02.trans (hb3.mono hb02.size)
  clear c0 c1 c2 c3 c4 c5 c6 c7 c8 c9 c10 c11 c12 c13 c14 c15 c16 hb02 hb3 hN2 hpu
  go_wp2_with fail
  go_ret
  exact ⟨rfl, hb03⟩
set_option maxHeartbeats 2000000 in
set_option maxRecDepth 20000 in
theorem payload_one (tb : Nat) (w : World) : Calls Tryz.prog 28 #[.agg #[.pointer (some ⟨tb, 0, none⟩), .string ⟨#[98]⟩, .int .u8 3, .bool false, .int .u8 0, .bool false, .bool false, .string ⟨#[]⟩, .bool false, .string ⟨#[]⟩, .int .i64 9, .int .i64 0, .bool false, .bool false, .slice none 0 0, .int .i64 1, .string ⟨#[18, 129, 1]⟩], .string ⟨#[97, 0]⟩] w fun e w' => e = .returned (.string ⟨#[97, 0, 255]⟩) ∧ Below w.heap.size w w' := by
  have hb1 := (Below.refl w.heap.size w).alloc (Nat.le_refl _) (.cells #[.pointer (some ⟨tb, 0, none⟩), .string ⟨#[98]⟩, .int .u8 3, .bool false, .int .u8 0, .bool false, .bool false, .string ⟨#[]⟩, .bool false, .string ⟨#[]⟩, .int .i64 9, .int .i64 0, .bool false, .bool false, .slice none 0 0, .int .i64 1, .string ⟨#[18, 129, 1]⟩] 76)
  have hN1 := Blk.new w 76 #[.pointer (some ⟨tb, 0, none⟩), .string ⟨#[98]⟩, .int .u8 3, .bool false, .int .u8 0, .bool false, .bool false, .string ⟨#[]⟩, .bool false, .string ⟨#[]⟩, .int .i64 9, .int .i64 0, .bool false, .bool false, .slice none 0 0, .int .i64 1, .string ⟨#[18, 129, 1]⟩]
  obtain ⟨c0, c1, c2, c3, c4, c5, c6, c7, c8, c9, c10, c11, c12, c13, c14, c15, c16⟩ := cN hN1
  have hes := fun W => escape_any ⟨#[97, 0]⟩ W (by decide)
  rw [show bs (esc (⟨#[97, 0]⟩ : ByteArray).data.toList) = ⟨#[97, 0, 255, 0, 1]⟩ by decide] at hes
  go_enter Tryz.func28, Tryz.ntmps28
  go_wp2_with fail
  refine (hes _).mono ?_
  rintro _ w2 ⟨rfl, hb2⟩
  have hb02 := hb1.trans (hb2.mono hb1.size)
  have hN2 := hN1.old hb2
  clear c0 c1 c2 c3 c4 c5 c6 c7 c8 c9 c10 c11 c12 c13 c14 c15 c16 hb1 hb2 hN1 hes
  obtain ⟨c0, c1, c2, c3, c4, c5, c6, c7, c8, c9, c10, c11, c12, c13, c14, c15, c16⟩ := cN hN2
  go_wp2_with fail
  go_ret
  exact ⟨rfl, hb02⟩

end Go.Proofs.YtgefbgpfjbbeaaaGreatDoor
