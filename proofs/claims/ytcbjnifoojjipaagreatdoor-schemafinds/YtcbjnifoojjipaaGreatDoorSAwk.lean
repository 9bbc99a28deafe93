/- What the statements' awake does (a contract; nothing is claimed here). -/
import Derived.Test.YtcbjnifoojjipaaGreatDoorJ24
namespace Go.Proofs.YtcbjnifoojjipaaGreatDoor
open Go.RowKit Go.Vf
theorem aw_fin {w : World} {A B lo n : Nat} (hlo : lo ≤ A) (hlo2 : lo ≤ B) (hn : A < n) (hn2 : B < n) (hA : Blk w A 48 #[.string ⟨#[120]⟩, .int .u8 1, .bool false, .int .u8 0, .bool false, .bool false, .string ⟨#[]⟩, .bool false, .string ⟨#[]⟩, .int .i64 0, .int .i64 0, .bool false, .bool false, .slice none 0 0, .string ⟨#[121]⟩, .int .u8 6, .bool false, .int .u8 0, .bool false, .bool false, .string ⟨#[]⟩, .bool false, .string ⟨#[]⟩, .int .i64 0, .int .i64 2, .bool false, .bool true, .slice none 0 0]) (hB : Blk w B 48 #[.string ⟨#[116]⟩, .int .u8 7, .bool false, .int .u8 0, .bool false, .bool false, .string ⟨#[]⟩, .bool false, .string ⟨#[]⟩, .int .i64 0, .int .i64 0, .bool false, .bool false, .slice (some ⟨A, 0, none⟩) 2 2]) : FIn w lo n [awT] (some ⟨B, 0, none⟩) := by
  refine .cons (fun _ => some ⟨A, 0, none⟩) (fun _ => 2) hlo2 hn2 (fun j hj => ?_) (fun j hj => ?_) (fun j hj => ?_)
  all_goals
    have hj0 : j = 0 := by simp at hj; omega
    subst hj0
  · exact ⟨hB.cell 0, hB.cell 1, hB.cell 2, hB.cell 3, hB.cell 4, hB.cell 5, hB.cell 6, hB.cell 7, hB.cell 8, hB.cell 9, hB.cell 10, hB.cell 11, hB.cell 12, hB.cell 13⟩
  · exact Nat.le_refl 2
  · show FIn w lo n [awX, awY] (some ⟨A, 0, none⟩)
    refine .cons (fun _ => none) (fun _ => 0) hlo hn (fun j hj => ?_) (fun j hj => ?_) (fun j hj => ?_)
    · match j, hj with
      | 0, _ => exact ⟨hA.cell 0, hA.cell 1, hA.cell 2, hA.cell 3, hA.cell 4, hA.cell 5, hA.cell 6, hA.cell 7, hA.cell 8, hA.cell 9, hA.cell 10, hA.cell 11, hA.cell 12, hA.cell 13⟩
      | 1, _ => exact ⟨hA.cell 14, hA.cell 15, hA.cell 16, hA.cell 17, hA.cell 18, hA.cell 19, hA.cell 20, hA.cell 21, hA.cell 22, hA.cell 23, hA.cell 24, hA.cell 25, hA.cell 26, hA.cell 27⟩
    · match j, hj with
      | 0, _ => exact Nat.le_refl 0
      | 1, _ => exact Nat.le_refl 0
    · match j, hj with
      | 0, _ => exact .nil
      | 1, _ => exact .nil
theorem aw_lit : bs awText = ⟨#[108, 105, 109, 105, 116, 32, 57, 10, 102, 105, 101, 108, 100, 32, 116, 32, 116, 117, 112, 108, 101, 10, 32, 32, 102, 105, 101, 108, 100, 32, 120, 32, 98, 111, 111, 108, 10, 32, 32, 102, 105, 101, 108, 100, 32, 121, 32, 116, 101, 120, 116, 32, 115, 116, 114, 101, 110, 103, 116, 104, 32, 50, 32, 98, 97, 99, 107, 10, 101, 110, 100, 10]⟩ := rfl
set_option maxHeartbeats 4000000 in
set_option maxRecDepth 20000 in
theorem awake_any (w : World) (hE : Env w) : Calls Tryz.prog 9 #[] w fun e w' => e = .returned (.bool true) ∧ Below w.heap.size w w' := by
  have h1 := (Below.refl w.heap.size w).alloc (Nat.le_refl _) (.cells #[.string ⟨#[120]⟩, .int .u8 1, .bool false, .int .u8 0, .bool false, .bool false, .string ⟨#[]⟩, .bool false, .string ⟨#[]⟩, .int .i64 0, .int .i64 0, .bool false, .bool false, .slice none 0 0, .string ⟨#[121]⟩, .int .u8 6, .bool false, .int .u8 0, .bool false, .bool false, .string ⟨#[]⟩, .bool false, .string ⟨#[]⟩, .int .i64 0, .int .i64 2, .bool false, .bool true, .slice none 0 0] 48)
  have s1 := alloc_size w (.cells #[.string ⟨#[120]⟩, .int .u8 1, .bool false, .int .u8 0, .bool false, .bool false, .string ⟨#[]⟩, .bool false, .string ⟨#[]⟩, .int .i64 0, .int .i64 0, .bool false, .bool false, .slice none 0 0, .string ⟨#[121]⟩, .int .u8 6, .bool false, .int .u8 0, .bool false, .bool false, .string ⟨#[]⟩, .bool false, .string ⟨#[]⟩, .int .i64 0, .int .i64 2, .bool false, .bool true, .slice none 0 0] 48)
  have A1 := Blk.new w 48 #[.string ⟨#[120]⟩, .int .u8 1, .bool false, .int .u8 0, .bool false, .bool false, .string ⟨#[]⟩, .bool false, .string ⟨#[]⟩, .int .i64 0, .int .i64 0, .bool false, .bool false, .slice none 0 0, .string ⟨#[121]⟩, .int .u8 6, .bool false, .int .u8 0, .bool false, .bool false, .string ⟨#[]⟩, .bool false, .string ⟨#[]⟩, .int .i64 0, .int .i64 2, .bool false, .bool true, .slice none 0 0]
  go_enter Tryz.func9, Tryz.ntmps9
  have HS1 : Hid ((w.alloc (.cells #[.string ⟨#[120]⟩, .int .u8 1, .bool false, .int .u8 0, .bool false, .bool false, .string ⟨#[]⟩, .bool false, .string ⟨#[]⟩, .int .i64 0, .int .i64 0, .bool false, .bool false, .slice none 0 0, .string ⟨#[121]⟩, .int .u8 6, .bool false, .int .u8 0, .bool false, .bool false, .string ⟨#[]⟩, .bool false, .string ⟨#[]⟩, .int .i64 0, .int .i64 2, .bool false, .bool true, .slice none 0 0] 48)).heap.size = w.heap.size + 1) := s1
  clear s1
  go_upto_region 2 with fail
  have s1 := HS1.out
  generalize w.alloc (.cells #[.string ⟨#[120]⟩, .int .u8 1, .bool false, .int .u8 0, .bool false, .bool false, .string ⟨#[]⟩, .bool false, .string ⟨#[]⟩, .int .i64 0, .int .i64 0, .bool false, .bool false, .slice none 0 0, .string ⟨#[121]⟩, .int .u8 6, .bool false, .int .u8 0, .bool false, .bool false, .string ⟨#[]⟩, .bool false, .string ⟨#[]⟩, .int .i64 0, .int .i64 2, .bool false, .bool true, .slice none 0 0] 48) = w1 at *
  have h2 := (Below.refl w1.heap.size w1).alloc (Nat.le_refl _) (.cells #[.string ⟨#[116]⟩, .int .u8 7, .bool false, .int .u8 0, .bool false, .bool false, .string ⟨#[]⟩, .bool false, .string ⟨#[]⟩, .int .i64 0, .int .i64 0, .bool false, .bool false, .slice (some ⟨w.heap.size, 0, none⟩) 2 2] 48)
  have s2 := alloc_size w1 (.cells #[.string ⟨#[116]⟩, .int .u8 7, .bool false, .int .u8 0, .bool false, .bool false, .string ⟨#[]⟩, .bool false, .string ⟨#[]⟩, .int .i64 0, .int .i64 0, .bool false, .bool false, .slice (some ⟨w.heap.size, 0, none⟩) 2 2] 48)
  have T2 := Blk.new w1 48 #[.string ⟨#[116]⟩, .int .u8 7, .bool false, .int .u8 0, .bool false, .bool false, .string ⟨#[]⟩, .bool false, .string ⟨#[]⟩, .int .i64 0, .int .i64 0, .bool false, .bool false, .slice (some ⟨w.heap.size, 0, none⟩) 2 2]
  rw [s1] at s2 T2
  have A2 := A1.old h2
  generalize w1.alloc (.cells #[.string ⟨#[116]⟩, .int .u8 7, .bool false, .int .u8 0, .bool false, .bool false, .string ⟨#[]⟩, .bool false, .string ⟨#[]⟩, .int .i64 0, .int .i64 0, .bool false, .bool false, .slice (some ⟨w.heap.size, 0, none⟩) 2 2] 48) = w2 at *
  have h3 := (Below.refl w2.heap.size w2).alloc (Nat.le_refl _) (.cells #[.int .i64 9, .slice (some ⟨w.heap.size + 1, 0, none⟩) 1 1] 25)
  have S3 := Blk.new w2 25 #[.int .i64 9, .slice (some ⟨w.heap.size + 1, 0, none⟩) 1 1]
  have s3 := alloc_size w2 (.cells #[.int .i64 9, .slice (some ⟨w.heap.size + 1, 0, none⟩) 1 1] 25)
  rw [s2] at S3 s3
  have A3 := A2.old h3
  have T3 := T2.old h3
  generalize w2.alloc (.cells #[.int .i64 9, .slice (some ⟨w.heap.size + 1, 0, none⟩) 1 1] 25) = w3 at *
  have hb03 : Below w.heap.size w w3 := h1.trans ((h2.mono (by omega)).trans (h3.mono (by omega)))
  have hE3 := hE.old hb03
  have hf3 : FIn w3 w.heap.size w3.heap.size [awT] (some ⟨w.heap.size + 1, 0, none⟩) := aw_fin (Nat.le_refl _) (by omega) A3.lt T3.lt A3 T3
  have c0 : w3.cell? ⟨w.heap.size + 1 + 1, 0, none⟩ = some (.int .i64 9) := S3.cell 0
  have c1 : w3.cell? ⟨w.heap.size + 1 + 1, 1, none⟩ = some (.slice (some ⟨w.heap.size + 1, 0, none⟩) 1 1) := S3.cell 1
  have hp := print_aw (some ⟨w.heap.size + 1, 0, none⟩) 1 w.heap.size w3.heap.size (Nat.le_refl _) w3 (Nat.le_refl _) hf3 hE3
  rw [aw_lit] at hp
  clear A1 A2 A3 T2 T3 h1 h2 h3 s1 s2 HS1 hE
  have HZ3 : Hid (w3.heap.size = w.heap.size + 1 + 1 + 1) := s3
  clear s3
  go_wp2_with fail
  refine hp.mono ?_
  clear hp
  rintro _ w4 ⟨rfl, hb4⟩
  have hE4 := hE3.old hb4
  have S4 := S3.old hb4
  have hf4 := hf3.keep hb4 (Nat.le_refl _)
  have hb04 := hb03.trans (hb4.mono hb03.size)
  have hp := parse_aw w4 hE4
  rw [aw_lit] at hp
  clear c0 c1 hE3 hE4 S3 hf3
  go_wp2_with fail
  refine hp.mono ?_
  clear hp
  rintro _ w5 ⟨hb5, fa, fc, rfl, hf5⟩
  have S5 := S4.old hb5
  have hf5' := hf4.keep hb5 (by have := hb4.size; omega)
  have hb05 := hb04.trans (hb5.mono hb04.size)
  have hz5 := hb5.size
  have hz4 := hb4.size
  go_upto_region 4 with fail
  have h6 := (Below.refl w5.heap.size w5).alloc (Nat.le_refl _) (.cells #[.int .i64 9, .slice fa 1 fc] 25)
  have X6 := Blk.new w5 25 #[.int .i64 9, .slice fa 1 fc]
  have S6 := S5.old h6
  have hf6 := hf5.keep h6 (Nat.le_refl _)
  have hf6' := hf5'.keep h6 (by omega)
  have hb06 := hb05.trans (h6.mono hb05.size)
  have hz6 := h6.size
  generalize w5.alloc (.cells #[.int .i64 9, .slice fa 1 fc] 25) = w6 at *
  have x0 : w6.cell? ⟨w5.heap.size, 0, none⟩ = some (.int .i64 9) := X6.cell 0
  have x1 : w6.cell? ⟨w5.heap.size, 1, none⟩ = some (.slice fa 1 fc) := X6.cell 1
  have y1 : w6.cell? ⟨w.heap.size + 1 + 1, 1, none⟩ = some (.slice (some ⟨w.heap.size + 1, 0, none⟩) 1 1) := S6.cell 1
  have hsf := sameFields_any [awT] fa (some ⟨w.heap.size + 1, 0, none⟩) fc 1 w4.heap.size w5.heap.size w.heap.size w3.heap.size w6 hf6 hf6' hz6 (by omega) (by decide) awFit
  rw [show ([awT] : List Fld).length = 1 from rfl] at hsf
  clear S4 S5 hf4 hf5 hf5' hf6 hf6' h6
  go_wp2_with fail
  refine hsf.mono ?_
  clear hsf
  rintro _ w7 ⟨rfl, hb7⟩
  have X7 := X6.old hb7
  have x70 : w7.cell? ⟨w5.heap.size, 0, none⟩ = some (.int .i64 9) := X7.cell 0
  have hb07 := hb06.trans (hb7.mono hb06.size)
  clear x0 x1 y1 X6 X7 S6
  go_wp2_with fail
  go_ret
  exact ⟨rfl, hb07⟩
end Go.Proofs.YtcbjnifoojjipaaGreatDoor
